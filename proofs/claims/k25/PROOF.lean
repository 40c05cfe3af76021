import PyProof.Rows.All
import Wide.All
import OpenK.AllK
import Wide.FinOn
import Lean
import PyProof.EqAt
import PyProof.EqKinds
import PyProof.TupleCall
import PyProof.NeKinds
import PySem.Challenge.RW_tracebook_k25_moves_and_wider_wheels
set_option Elab.async false
set_option linter.all false
set_option maxRecDepth 100000
namespace L2
open PySem PySem.Spec PyProof.Rows

/-- a key: an int or a str -/
abbrev Key := Sum Int Str
def keyIs : Key → Value → Bool
  | .inl k, v => Value.isInt k v
  | .inr x, v => Value.isStrOf x v
def keyH (w : World) : Key → Int
  | .inl k => hashInt k
  | .inr x => hashStr w x
theorem keyIs_shape : ∀ {k : Key} {v : Value}, keyIs k v = true → (∃ i t, k = Sum.inl i ∧ v = Value.int i t) ∨ (∃ x t, k = Sum.inr x ∧ v = Value.str x t)
  | .inl i, v, h => by
    obtain ⟨t, e⟩ := Value.isInt_shape (k := i) (v := v) h
    exact .inl ⟨i, t, rfl, e⟩
  | .inr x, v, h => by
    obtain ⟨t, e⟩ := Value.isStrOf_shape (x := x) (v := v) h
    exact .inr ⟨x, t, rfl, e⟩
theorem keyIs_int (i : Int) (t : Tok) : keyIs (.inl i) (.int i t) = true := by simp [keyIs, Value.isInt]
theorem keyIs_str (x : Str) (t : Tok) : keyIs (.inr x) (.str x t) = true := by simp [keyIs, Value.isStrOf]
theorem key_ll (a b : Int) : decide ((Sum.inl a : Key) = Sum.inl b) = (a == b) := by
  by_cases e : a = b
  · subst e; simp
  · have h : ¬ (Sum.inl a : Key) = Sum.inl b := fun q => e (Sum.inl.inj q)
    rw [decide_eq_false h]
    exact (beq_eq_false_iff_ne.mpr e).symm
theorem key_rr (a b : Str) : decide ((Sum.inr a : Key) = Sum.inr b) = decide (a = b) := by
  by_cases e : a = b
  · subst e; simp
  · have h : ¬ (Sum.inr a : Key) = Sum.inr b := fun q => e (Sum.inr.inj q)
    rw [decide_eq_false h, decide_eq_false e]
theorem key_lr (a : Int) (b : Str) : decide ((Sum.inl a : Key) = Sum.inr b) = false := decide_eq_false (fun q => nomatch q)
theorem key_rl (a : Str) (b : Int) : decide ((Sum.inr a : Key) = Sum.inl b) = false := decide_eq_false (fun q => nomatch q)

def mixKind (prog : Program) (w : World) : PySem.KeyKind prog w Key where
  is := keyIs
  hash := keyH w
  inj := fun v a b ha hb => by
    rcases keyIs_shape ha with ⟨i, t, rfl, rfl⟩ | ⟨x, t, rfl, rfl⟩
    · rcases keyIs_shape hb with ⟨j, u, rfl, e⟩ | ⟨y, u, rfl, e⟩
      · injection e with e1 _; rw [e1]
      · exact nomatch e
    · rcases keyIs_shape hb with ⟨j, u, rfl, e⟩ | ⟨y, u, rfl, e⟩
      · exact nomatch e
      · injection e with e1 _; rw [e1]
  byValue := fun k v h => by
    rcases keyIs_shape h with ⟨i, t, rfl, rfl⟩ | ⟨x, t, rfl, rfl⟩ <;> rfl
  pyHash := fun hv h => by
    rcases keyIs_shape hv with ⟨i, t, rfl, rfl⟩ | ⟨x, t, rfl, rfl⟩
    · exact wpAny_pyHash_int h
    · exact wpAny_pyHash_str h
  eqBool := fun hu hv h => by
    rcases keyIs_shape hu with ⟨i, t, rfl, rfl⟩ | ⟨x, t, rfl, rfl⟩
    · rcases keyIs_shape hv with ⟨j, u, rfl, rfl⟩ | ⟨y, u, rfl, rfl⟩
      · rw [key_ll] at h; exact wpAny_eqBool_int h
      · rw [key_lr] at h; exact SeqAt.EqAt.int_str i t y u _ _ _ _ h
    · rcases keyIs_shape hv with ⟨j, u, rfl, rfl⟩ | ⟨y, u, rfl, rfl⟩
      · rw [key_rl] at h; exact SeqAt.EqAt.str_int x t j u _ _ _ _ h
      · rw [key_rr] at h; exact wpAny_eqBool_str h
  «strs» := fun k x t v h => by
    rcases keyIs_shape h with ⟨i, u, rfl, e⟩ | ⟨y, u, rfl, e⟩
    · exact nomatch e
    · injection e with e1 _
      subst e1
      cases v <;> rfl

theorem mixKind_int (prog : Program) (w : World) (i : Int) (t : Tok) : (mixKind prog w).is (.inl i) (.int i t) = true := keyIs_int i t
theorem mixKind_str (prog : Program) (w : World) (x : Str) (t : Tok) : (mixKind prog w).is (.inr x) (.str x t) = true := keyIs_str x t
end L2

namespace L2
open PySem PySem.Spec PyProof.Rows

/-- a value, without the heap -/
inductive V where
  | non | bl (b : Bool) | int (i : Int) | str (x : Str) | byt (b : Array UInt8) | flt (b : UInt64) | ref (a : Addr) | ty (n : String)
  deriving DecidableEq

def RelV : V → Value → Prop
  | .non, u => u = Value.none
  | .bl b, u => u = Value.bool b
  | .int i, u => ∃ t, u = Value.int i t
  | .str x, u => ∃ t, u = Value.str x t
  | .byt b, u => ∃ t, u = Value.bytes b t
  | .flt b, u => ∃ t, u = Value.float b t
  | .ref a, u => u = Value.ref a
  | .ty n, u => u = Value.type n

abbrev Vals : List V → List Value → Prop := Paired RelV
theorem Vals.length {xs : List V} {us : List Value} (r : Vals xs us) : xs.length = us.length := Paired.length r
theorem Vals.get : ∀ {xs : List V} {us : List Value} {i : Nat} {x : V}, Vals xs us → xs[i]? = some x → ∃ u, us[i]? = some u ∧ RelV x u
  | _, _, _, _, .nil, e => by simp at e
  | _, _, 0, _, .cons r _, e => by simp at e; subst e; exact ⟨_, rfl, r⟩
  | _, _, i + 1, x, .cons _ t, e => by
    obtain ⟨u, h1, h2⟩ := Vals.get (i := i) (x := x) t (by simpa using e)
    exact ⟨u, by simpa using h1, h2⟩
theorem Vals.set {x : V} {u : Value} (r : RelV x u) : ∀ {xs : List V} {us : List Value} (i : Nat), Vals xs us → Vals (xs.set i x) (us.set i u)
  | _, _, _, .nil => .nil
  | _, _, 0, .cons _ t => .cons r t
  | _, _, i + 1, .cons q t => .cons q (Vals.set r i t)
theorem Vals.append : ∀ {xs ys : List V} {us ws : List Value}, Vals xs us → Vals ys ws → Vals (xs ++ ys) (us ++ ws)
  | _, _, _, _, .nil, s => s
  | _, _, _, _, .cons r t, s => .cons r (Vals.append t s)
theorem Vals.take : ∀ {xs : List V} {us : List Value} (n : Nat), Vals xs us → Vals (xs.take n) (us.take n)
  | _, _, 0, _ => .nil
  | _, _, _ + 1, .nil => .nil
  | _, _, n + 1, .cons r t => .cons r (Vals.take n t)
theorem Vals.drop : ∀ {xs : List V} {us : List Value} (n : Nat), Vals xs us → Vals (xs.drop n) (us.drop n)
  | _, _, 0, r => r
  | _, _, _ + 1, .nil => .nil
  | _, _, n + 1, .cons _ t => Vals.drop n t
def RelO : Option V → Option Value → Prop
  | some v, some u => RelV v u
  | none, none => True
  | _, _ => False
def KV {κ : Type} : List (κ × V) → List (κ × Value) → Prop := Paired fun (p : κ × V) (q : κ × Value) => p.1 = q.1 ∧ RelV p.2 q.2

/-- a key of a dict (00_mix): an int or a text -/
def kV : Key → V
  | .inl i => .int i
  | .inr x => .str x

/-- what stands at a tracked address -/
inductive HO where
  /-- a list -/
  | lst (xs : List V)
  /-- a tuple (never changes) -/
  | tup (xs : List V)
  /-- a dict whose keys are ints and texts; one whose keys are tuples of ints and texts (the empty one is both) -/
  | dK (kvs : List (Key × V)) | dT (kvs : List (List Key × V))
  /-- a set of ints: its members, its size -/
  | set (S : Int → Bool) (n : Nat)
  /-- an instance of the class at C, its dict at dx, its attributes -/
  | ins (C dx : Addr) (fs : List (Str × V))
  /-- the dict of the instance at x -/
  | own (x : Addr)
  /-- the dict of an exception -/
  | xd (fs : List (Str × V))
  /-- a bound method, f of x -/
  | met (f x : Addr)
  /-- a range object lo, lo + 1, .. below hi -/
  | rng (lo hi : Int)
  /-- a thing that is known to the object (the script; a dict while a loop walks it): read, never written while it is so -/
  | frz (o : Obj) (u : HO)
  /-- a code object's table -/
  | tbl (ps : Array Value)
  /-- any other thing, by what is true of its one object (a def of one's own: SetO a S n := HO.ext fun h => ..) -/
  | ext (φ : Heap → Prop)

abbrev Hp := Addr → Option HO
def upd (H : Hp) (a : Addr) (o : HO) : Hp := fun b => if b = a then some o else H b
theorem upd_same {H : Hp} {a : Addr} {o : HO} : upd H a o a = some o := by unfold upd; rw [if_pos rfl]
theorem upd_ne {H : Hp} {a b : Addr} {o : HO} (h : b ≠ a) : upd H a o b = H b := by unfold upd; rw [if_neg h]
/-- two objects of different content stand apart -/
theorem ne_of {H : Hp} {a b : Addr} {o u : HO} (h : H a = some o) (h' : H b = some u) (d : o ≠ u) : a ≠ b := by
  intro e; subst e; rw [h] at h'; exact d (Option.some.inj h')
theorem ne_of_none {H : Hp} {a b : Addr} {o : HO} (h : H a = some o) (h' : H b = none) : a ≠ b := by
  intro e; subst e; rw [h] at h'; cases h'

section
variable (P : Program) (w : World)
def ObjOk (H : Hp) (h : Heap) (a : Addr) : HO → Prop
  | .lst xs => xs.length ≤ sizeLine ∧ ∃ (its : List Value) (n : Nat), Vals xs its ∧ h.get? a = some { cls := .type "list", data := .seq its.toArray n }
  | .tup xs => xs.length ≤ sizeLine ∧ ∃ its : List Value, Vals xs its ∧ IsTup h a its.toArray
  | .dK kvs => kvs.length ≤ sizeLine ∧ (a == sysModules) = false ∧ ∃ vs, KV kvs vs ∧ h.DictOf (mixKind P w) a vs
  | .dT kvs => kvs.length ≤ sizeLine ∧ (a == sysModules) = false ∧ ∃ xs : List (List Key × Addr × Value),
      Paired (fun (p : List Key × V) (q : List Key × Addr × Value) => p.1 = q.1 ∧ H q.2.1 = some (.tup (p.1.map kV)) ∧ RelV p.2 q.2.2) kvs xs ∧
      ∃ o es ep, h.get? a = some o ∧ o.ExactDict ∧ o.data = .dict es ep ∧ es.toList = xs.map (entryOfKey (tupleKind (mixKind P w))) ∧ (xs.map (·.1)).Nodup
  | .set S n => h.SetOf (intKind P w) a S n
  | .ins C dx fs => H dx = some (.own a) ∧ fs.length ≤ 1000 ∧ dx ≠ a ∧ h.get? a = some (PySem.W.instObj C dx) ∧
      ∃ mA, h.Ns1 dx mA ∧ (∀ f, RelO (fs.lookup f) (mA f)) ∧ PySem.Within mA (fs.map (·.1))
  | .own _ => ∃ o, h.get? a = some o
  | .xd fs => ∃ mA, h.Ns1 a mA ∧ ∀ f, RelO (fs.lookup f) (mA f)
  | .rng lo hi => ∃ t u v, h.get? a = some { cls := .type "range", data := .fields #[.int lo t, .int hi u, .int 1 v] }
  | .frz o u => h.get? a = some o ∧ ObjOk H h a u
  | .tbl ps => h.get? a = some { cls := .none, data := .fields ps }
  | .met f x => h.get? a = some (PySem.W.methodObj (.ref f) (.ref x))
  | .ext φ => φ h ∧ (∃ o, h.get? a = some o) ∧ ∀ h1 h2 : Heap, φ h1 → (∀ o, h1.get? a = some o → h2.get? a = some o) → φ h2
/-- the abstract heap is held -/
def HOk (H : Hp) (h : Heap) : Prop := ∀ a o, H a = some o → ObjOk P w H h a o
end

section
variable {P : Program} {w : World} {H H' : Hp} {h h' : Heap} {a : Addr} {o : HO}
theorem ObjOk.lt (x : ObjOk P w H h a o) : a < h.objs.size := by
  cases o with
  | lst xs => obtain ⟨_, _, _, _, e⟩ := x; exact Heap.lt_size e
  | tup xs => obtain ⟨_, _, _, p⟩ := x; exact p.lt
  | dK kvs => obtain ⟨_, _, _, _, o, _, _, e, _⟩ := x; exact Heap.lt_size e
  | dT kvs => obtain ⟨_, _, _, _, o, _, _, e, _⟩ := x; exact Heap.lt_size e
  | set S n => obtain ⟨o, _, _, _, e, _⟩ := x; exact Heap.lt_size e
  | ins C dx fs => obtain ⟨_, _, _, e, _⟩ := x; exact Heap.lt_size e
  | own y => obtain ⟨_, e⟩ := x; exact Heap.lt_size e
  | xd fs => obtain ⟨_, ⟨_, _, _, e, _⟩, _⟩ := x; exact Heap.lt_size e
  | rng lo hi => obtain ⟨_, _, _, e⟩ := x; exact Heap.lt_size e
  | frz ob u => obtain ⟨e, _⟩ := x; exact Heap.lt_size e
  | tbl ps => exact Heap.lt_size (show h.get? a = some _ from x)
  | met f y => exact Heap.lt_size (show h.get? a = some _ from x)
  | ext φ => obtain ⟨_, ⟨_, e⟩, _⟩ := x; exact Heap.lt_size e
theorem Paired.mapP {α β : Type} {F G : α → β → Prop} : ∀ {l₁ : List α} {l₂ : List β}, Paired F l₁ l₂ → (∀ a b, F a b → G a b) → Paired G l₁ l₂
  | _, _, .nil, _ => .nil
  | _, _, .cons r t, f => .cons (f _ _ r) (Paired.mapP t f)
/-- what an object's description leans on: its own object, its own dict, the tuples -/
theorem ObjOk.stay (x : ObjOk P w H h a o) (k : ∀ b u, (b = a ∨ H b = some (.own a)) → h.get? b = some u → h'.get? b = some u)
    (ho : ∀ b, H b = some (.own a) → H' b = some (.own a)) (ht : ∀ b xs, H b = some (.tup xs) → H' b = some (.tup xs)) : ObjOk P w H' h' a o := by
  induction o with
  | lst xs => obtain ⟨z, its, n, r, e⟩ := x; exact ⟨z, its, n, r, k _ _ (.inl rfl) e⟩
  | tup xs => obtain ⟨z, its, r, ob, e, c⟩ := x; exact ⟨z, its, r, ob, k _ _ (.inl rfl) e, c⟩
  | dK kvs => obtain ⟨z, y, vs, r, ob, es, ep, e, c⟩ := x; exact ⟨z, y, vs, r, ob, es, ep, k _ _ (.inl rfl) e, c⟩
  | dT kvs =>
    obtain ⟨z, y, xs, r, ob, es, ep, e, c⟩ := x
    exact ⟨z, y, xs, Paired.mapP r fun p q z => ⟨z.1, ht _ _ z.2.1, z.2.2⟩, ob, es, ep, k _ _ (.inl rfl) e, c⟩
  | set S n => obtain ⟨ob, es, ep, t, e, c⟩ := x; exact ⟨ob, es, ep, t, k _ _ (.inl rfl) e, c⟩
  | ins C dx fs =>
    obtain ⟨d, z, ne, e, mA, ⟨od, es, ep, e2, c⟩, r⟩ := x
    exact ⟨ho _ d, z, ne, k _ _ (.inl rfl) e, mA, ⟨od, es, ep, k _ _ (.inr d) e2, c⟩, r⟩
  | own y => obtain ⟨ob, e⟩ := x; exact ⟨ob, k _ _ (.inl rfl) e⟩
  | xd fs => obtain ⟨mA, ⟨od, es, ep, e, c⟩, r⟩ := x; exact ⟨mA, ⟨od, es, ep, k _ _ (.inl rfl) e, c⟩, r⟩
  | rng lo hi => obtain ⟨t, u, v, e⟩ := x; exact ⟨t, u, v, k _ _ (.inl rfl) e⟩
  | frz ob u ih => obtain ⟨e, q⟩ := x; exact ⟨k _ _ (.inl rfl) e, ih q⟩
  | tbl ps =>
    have e : h.get? a = some { cls := .none, data := .fields ps } := x
    show h'.get? a = some { cls := .none, data := .fields ps }
    exact k a _ (.inl rfl) e
  | met f y =>
    have e : h.get? a = some (PySem.W.methodObj (.ref f) (.ref y)) := x
    show h'.get? a = some (PySem.W.methodObj (.ref f) (.ref y))
    exact k a _ (.inl rfl) e
  | ext φ => obtain ⟨p, ⟨o, e⟩, st⟩ := x; exact ⟨st _ _ p fun o q => k _ _ (.inl rfl) q, ⟨o, k _ _ (.inl rfl) e⟩, st⟩
theorem HOk.lt (x : HOk P w H h) (e : H a = some o) : a < h.objs.size := (x a o e).lt
theorem HOk.fresh (x : HOk P w H h) (e : h.objs.size ≤ a) : H a = none := by
  cases q : H a with
  | none => rfl
  | some u => exact absurd (Nat.lt_of_lt_of_le (x.lt q) e) (Nat.lt_irrefl _)
/-- every object of the heap is kept -/
theorem HOk.kept (x : HOk P w H h) (k : ∀ b u, h.get? b = some u → h'.get? b = some u) : HOk P w H h' := fun a o e =>
  (x a o e).stay (fun b u _ q => k b u q) (fun _ q => q) fun _ _ q => q
/-- a new object is laid and tracked -/
theorem HOk.laid (x : HOk P w H h) (k : ∀ b u, h.get? b = some u → h'.get? b = some u) (hp : h.objs.size ≤ a) (new : ObjOk P w (upd H a o) h' a o) : HOk P w (upd H a o) h' := fun b u e => by
  have hn := x.fresh hp
  by_cases hb : b = a
  · subst hb; rw [upd_same] at e; cases e; exact new
  · rw [upd_ne hb] at e
    exact (x b u e).stay (fun c v _ q => k c v q) (fun c q => by rw [upd_ne (ne_of_none q hn)]; exact q) fun c xs q => by rw [upd_ne (ne_of_none q hn)]; exact q
end

/-- what may be read as u: it is u, or a known u -/
def Rd (H : Hp) (a : Addr) (u : HO) : Prop := H a = some u ∨ ∃ o, H a = some (.frz o u)
theorem Rd.of {H : Hp} {a : Addr} {u : HO} (h : H a = some u) : Rd H a u := .inl h
theorem Rd.ok {P : Program} {w : World} {H : Hp} {h : Heap} {a : Addr} {u : HO} (r : Rd H a u) (x : HOk P w H h) : ObjOk P w H h a u := by
  rcases r with r | ⟨o, r⟩
  · exact x a u r
  · obtain ⟨_, q⟩ := x a _ r
    exact q
/-- what may be written -/
def Mut : Option HO → Prop
  | some (.lst _) => True
  | some (.dK _) => True
  | some (.dT _) => True
  | some (.set _ _) => True
  | some (.ins _ _ _) => True
  | some (.ext _) => True
  | _ => False
section
variable {P : Program} {w : World} {H : Hp} {h h' : Heap} {x e : Addr} {o' : HO}
/-- the object at e is changed: x itself, or the dict of the instance x -/
theorem HOk.write (ok : HOk P w H h) (mu : Mut (H x)) (he : e = x ∨ H e = some (.own x)) (k : ∀ b u, b ≠ e → h.get? b = some u → h'.get? b = some u) (heo : ∃ u, h'.get? e = some u)
    (new : ObjOk P w (upd H x o') h' x o') : HOk P w (upd H x o') h' := fun b u q => by
  have nown : ∀ c y, H c = some (.own y) → c ≠ x := fun c y r z => by subst z; rw [r] at mu; exact mu
  have ntup : ∀ c xs, H c = some (.tup xs) → c ≠ x := fun c xs r z => by subst z; rw [r] at mu; exact mu
  by_cases hb : b = x
  · subst hb; rw [upd_same] at q; cases q; exact new
  · rw [upd_ne hb] at q
    by_cases hbe : b = e
    · have q' : H b = some (.own x) := by
        rcases he with z | z
        · exact absurd (hbe.trans z) hb
        · rw [hbe]; exact z
      rw [q] at q'; cases q'
      obtain ⟨v, hv⟩ := heo
      exact ⟨v, by rw [hbe]; exact hv⟩
    · refine (ok b u q).stay (fun c v hc r => k c v ?_ r) (fun c r => by rw [upd_ne (nown c b r)]; exact r) fun c xs r => by rw [upd_ne (ntup c xs r)]; exact r
      rcases hc with rfl | hc
      · exact hbe
      · rintro rfl
        rcases he with z | z
        · exact nown c b hc z
        · rw [hc] at z; cases z; exact hb rfl
end

structure Un (fs ex : List Addr) (H H' : Hp) (h h' : Heap) : Prop where
  keep : ∀ b o, h.get? b = some o → H b = none → b ∉ fs → b ∉ ex → h'.get? b = some o
  slot : ∀ b o, h.get? b = some o → H b = none → b ∈ fs → b ∉ ex → ∃ sl, h'.get? b = some { o with slots := sl }
  free : ∀ b o, h.get? b = some o → H b = none → b ∉ ex → H' b = none
  there : ∀ b o, h.get? b = some o → b ∉ ex → ∃ o', h'.get? b = some o'
  tups : ∀ b xs, H b = some (.tup xs) → H' b = some (.tup xs)
  frzs : ∀ b o u, H b = some (.frz o u) → H' b = some (.frz o u)
  tbls : ∀ b ps, H b = some (.tbl ps) → ∃ more, H' b = some (.tbl (ps ++ more))
section
variable {fs fs' ex ex' : List Addr} {H H1 H2 : Hp} {h h1 h2 h' : Heap} {a x e : Addr} {o : HO}
theorem Un.any (u : Un fs ex H H1 h h1) {b : Addr} {ob : Obj} (q : h.get? b = some ob) (n : H b = none) (hx : b ∉ ex) : ∃ sl, h1.get? b = some { ob with slots := sl } := by
  by_cases hb : b ∈ fs
  · exact u.slot b ob q n hb hx
  · exact ⟨ob.slots, u.keep b ob q n hb hx⟩
theorem Un.trans (a : Un fs ex H H1 h h1) (b : Un fs ex H1 H2 h1 h2) : Un fs ex H H2 h h2 where
  keep := fun c ob q n hc hx => b.keep c ob (a.keep c ob q n hc hx) (a.free c ob q n hx) hc hx
  slot := fun c ob q n hc hx => by
    obtain ⟨sl, e1⟩ := a.slot c ob q n hc hx
    obtain ⟨sl', e2⟩ := b.slot c _ e1 (a.free c ob q n hx) hc hx
    exact ⟨sl', e2⟩
  free := fun c ob q n hx => by
    obtain ⟨o', e1⟩ := a.there c ob q hx
    exact b.free c o' e1 (a.free c ob q n hx) hx
  there := fun c ob q hx => by
    obtain ⟨o', e1⟩ := a.there c ob q hx
    exact b.there c o' e1 hx
  tups := fun c xs q => b.tups c xs (a.tups c xs q)
  frzs := fun c ob xs q => b.frzs c ob xs (a.frzs c ob xs q)
  tbls := fun c ps q => by
    obtain ⟨m1, e1⟩ := a.tbls c ps q
    obtain ⟨m2, e2⟩ := b.tbls c _ e1
    exact ⟨m1 ++ m2, by rw [e2, Array.append_assoc]⟩
theorem Un.kept (k : ∀ b u, h.get? b = some u → h'.get? b = some u) : Un fs ex H H h h' :=
  ⟨fun b ob q _ _ _ => k b ob q, fun b ob q _ _ _ => ⟨ob.slots, k b ob q⟩, fun _ _ _ n _ => n, fun b ob q _ => ⟨ob, k b ob q⟩, fun _ _ q => q, fun _ _ _ q => q, fun _ ps q => ⟨#[], by rw [q]; simp⟩⟩
theorem Un.refl : Un fs ex H H h h := Un.kept fun _ _ q => q
theorem Un.laid (k : ∀ b u, h.get? b = some u → h'.get? b = some u) (hp : h.objs.size ≤ a) (hn : H a = none) : Un fs ex H (upd H a o) h h' where
  keep := fun b u q _ _ _ => k b u q
  slot := fun b u q _ _ _ => ⟨u.slots, k b u q⟩
  free := fun b u q n _ => by rw [upd_ne (Nat.ne_of_lt (Nat.lt_of_lt_of_le (Heap.lt_size q) hp))]; exact n
  there := fun b u q _ => ⟨u, k b u q⟩
  tups := fun b xs q => by rw [upd_ne (ne_of_none q hn)]; exact q
  frzs := fun b u xs q => by rw [upd_ne (ne_of_none q hn)]; exact q
  tbls := fun b ps q => ⟨#[], by rw [upd_ne (ne_of_none q hn), q]; simp⟩
theorem Un.write (mu : Mut (H x)) (he : e = x ∨ H e = some (.own x)) (k : ∀ b u, b ≠ e → h.get? b = some u → h'.get? b = some u) (heo : ∃ u, h'.get? e = some u) : Un fs ex H (upd H x o) h h' := by
  have hx : ∀ b, H b = none → b ≠ x := fun b n z => by subst z; rw [n] at mu; exact mu
  have hb : ∀ b, H b = none → b ≠ e := fun b n z => by
    subst z
    rcases he with r | r
    · exact hx b n r
    · rw [n] at r; cases r
  have hm : ∀ b u, H b = some u → ¬ Mut (some u) → b ≠ x := fun b u q nm z => by subst z; rw [q] at mu; exact nm mu
  refine ⟨fun b u q n _ _ => k b u (hb b n) q, fun b u q n _ _ => ⟨u.slots, k b u (hb b n) q⟩, fun b u q n _ => by rw [upd_ne (hx b n)]; exact n, fun b u q _ => ?_,
    fun b xs q => by rw [upd_ne (hm b _ q fun z => z)]; exact q, fun b u xs q => by rw [upd_ne (hm b _ q fun z => z)]; exact q, fun b ps q => ⟨#[], by rw [upd_ne (hm b _ q fun z => z), q]; simp⟩⟩
  by_cases hbe : b = e
  · subst hbe; exact heo
  · exact ⟨u, k b u hbe q⟩
theorem Un.mono (u : Un fs ex H H1 h h1) (hs : ∀ b ∈ fs, b ∈ fs') (hx : ∀ b ∈ ex, b ∈ ex') : Un fs' ex' H H1 h h1 :=
  ⟨fun b ob q n hb he => u.keep b ob q n (fun z => hb (hs b z)) fun z => he (hx b z), fun _ _ q n _ he => u.any q n fun z => he (hx _ z), fun b ob q n he => u.free b ob q n fun z => he (hx b z), fun b ob q he => u.there b ob q fun z => he (hx b z), u.tups, u.frzs, u.tbls⟩
end

def trk (h : Heap) (H : Hp) : List Addr := (List.range h.objs.size).filter fun a => (H a).isSome
def hidT (h : Heap) (H : Hp) : Heap := PySem.W.hideAll h (trk h H)
theorem hidT_size (h : Heap) (H : Hp) : (hidT h H).objs.size = h.objs.size := PySem.W.hideAll_size _ _
theorem hidT_get {h : Heap} {H : Hp} {b : Addr} {o : Obj} (e : h.get? b = some o) (n : H b = none) : (hidT h H).get? b = some o :=
  PySem.W.hideAll_get _ e fun hm => by
    have q : (H b).isSome = true := (List.mem_filter.mp hm).2
    rw [n] at q; simp at q
theorem of_hidT {h : Heap} {H : Hp} {b : Addr} {o : Obj} (e : (hidT h H).get? b = some o) : h.get? b = some o ∧ H b = none := by
  have e' : h.get? b = some o := PySem.W.of_hideAll (trk h H) e
  refine ⟨e', ?_⟩
  cases q : H b with
  | none => rfl
  | some x =>
    have hm : b ∈ trk h H := List.mem_filter.mpr ⟨List.mem_range.mpr (Heap.lt_size e'), by simp [q]⟩
    have z : (hidT h H).get? b = none := PySem.W.hideAll_none (trk h H) hm
    rw [z] at e; cases e

end L2

namespace L2
open PySem PySem.Spec PyProof.Rows

/-- the module's facts, over the base: the heap at the law's entry without what is tracked there -/
structure Mod (K : PySem.W.Frag) (mg : Str → Option Value) (base : Heap) : Prop where
  kin : K.In base
  glob : base.Ns mainGlobals mg
  blt : ∃ mb, base.Ns builtinsNs mb ∧ ∀ x : Str, x ≠ "__name__" → mb x = bootBuiltins x
  nolimit : base.NoLimit

/-- the context: a def's body (or a comprehension's block) running. base: fixed through the whole law; s₀, H₀: the entry; outer: the frames whose slots others may change (a def's callers); stack: all frames that run;
   ex: iterators that were made ahead of the entry and are walked here (a comprehension's); fn: the names whose cells were made at the entry (a def: all; a comprehension's block: its own); calm: not within an except suite; pn: pins that every state bears; xe: what is wanted of an exception that leaves the code -/
structure Cx where
  prog : Program
  w : World
  K : PySem.W.Frag
  mg : Str → Option Value
  base : Heap
  A : Around
  N : List Str
  s₀ : Shared
  H₀ : Hp
  env : Env
  outer : List Env
  stack : List Env
  ex : List Addr
  fn : Str → Bool
  calm : Bool
  pn : List (Addr × Obj)
  xe : Value → Shared → Prop
/-- the callers' frames -/
def frs (l : List Env) : List Addr := l.filterMap (·.frame)
abbrev Cx.fs (X : Cx) : List Addr := frs X.outer

def Vis (sc : Scope) (x : Str) : Prop := sc.names.lookup x = some .local ∨ sc.names.lookup x = some .cell ∨ sc.names.lookup x = some .free
def Loc (sc : Scope) (x : Str) : Prop := sc.names.lookup x = some .local ∨ sc.names.lookup x = some .cell
def Look (env : Env) (h : Heap) (m : Str → Option Value) (x : Str) (u : Value) : Prop :=
  (env.kindOf x = some .local ∧ m x = some u) ∨ ((env.kindOf x = some .cell ∨ env.kindOf x = some .free) ∧ ∃ c, env.cells.lookup x = some c ∧ h.IsCell c (some u))

structure Cx.Ok (X : Cx) : Prop where
  mod : Mod X.K X.mg X.base
  kind : X.env.scope.kind = .function
  glob : X.env.globals = mainGlobals
  blt : X.env.builtins = builtinsNs
  above : X.s₀.heap.objs.size ≤ X.env.locals
  inj : ∀ x y c, X.env.cells.lookup x = some c → X.env.cells.lookup y = some c → x = y
  has : ∀ x, (X.env.kindOf x = some .cell ∨ X.env.kindOf x = some .free) → ∃ c, X.env.cells.lookup x = some c
  cab : ∀ x c, X.fn x = true → X.env.cells.lookup x = some c → X.s₀.heap.objs.size ≤ c
  hd : X.calm = true → X.A.handled = none
  frames : X.A.frames = some X.stack
  stk : X.stack = X.outer ∨ (X.stack = X.env :: X.outer ∧ X.env.frame = some X.env.locals)
  exf : ∀ b ∈ X.ex, b ≠ X.env.locals ∧ ∀ x c, X.env.cells.lookup x = some c → c ≠ b
  bs : ∀ b o, X.base.get? b = some o → X.s₀.heap.get? b = some o ∧ X.H₀ b = none
  bsz : X.base.objs.size ≤ X.s₀.heap.objs.size
  noex : ∀ b o, X.base.get? b = some o → b ∉ X.ex
  exfs : ∀ b ∈ X.ex, b ∉ X.fs
  funs : X.s₀.heap.FunFrames X.base X.outer
  frf : ∀ b ∈ X.fs, X.H₀ b = none

structure Inv (X : Cx) (pins : List (Addr × Obj)) (σ : List (Option V)) (H : Hp) (s : Shared) : Prop where
  ok : X.Ok
  os : s.os = X.s₀.os
  bare : AllBare s.gens
  base : Un X.fs X.ex X.H₀ H X.s₀.heap s.heap
  loc : ∃ m, s.heap.Ns X.env.locals m ∧ ∀ (i : Nat) (x : Str) (v : V), X.N[i]? = some x → σ[i]? = some (some v) → Vis X.env.scope x → ∃ u, RelV v u ∧ Look X.env s.heap m x u
  cell : ∀ x c, X.env.cells.lookup x = some c → ∃ v, s.heap.IsCell c v
  free : H X.env.locals = none
  freeC : ∀ x c, X.env.cells.lookup x = some c → H c = none
  pin : ∀ p ∈ X.pn ++ pins, s.heap.get? p.1 = some p.2 ∧ H p.1 = none ∧ p.1 ≠ X.env.locals ∧ p.1 ∉ X.fs ∧ ∀ v, p.2.data ≠ .cell v
  hok : HOk X.prog X.w H s.heap
  len : σ.length = X.N.length

section
variable {X : Cx} {pins : List (Addr × Obj)} {σ : List (Option V)} {H H' : Hp} {s : Shared} {h' : Heap}

theorem Cx.Ok.nofr (ok : X.Ok) {b : Addr} {o : Obj} (e : X.base.get? b = some o) : b ∉ X.fs := fun hb => by
  have := (ok.funs.mem hb).1
  rw [e] at this; cases this
theorem Inv.bs (I : Inv X pins σ H s) : ∀ b o, X.base.get? b = some o → s.heap.get? b = some o ∧ H b = none := fun b o e =>
  ⟨I.base.keep b o (I.ok.bs b o e).1 (I.ok.bs b o e).2 (I.ok.nofr e) (I.ok.noex b o e), I.base.free b o (I.ok.bs b o e).1 (I.ok.bs b o e).2 (I.ok.noex b o e)⟩
theorem Inv.bk (I : Inv X pins σ H s) : ∀ b o, X.base.get? b = some o → s.heap.get? b = some o := fun b o e => (I.bs b o e).1
theorem Inv.mod (I : Inv X pins σ H s) : Mod X.K X.mg X.base := I.ok.mod
theorem Inv.kIn (I : Inv X pins σ H s) : X.K.In s.heap := I.ok.mod.kin.keeps I.bk
theorem Inv.lt (I : Inv X pins σ H s) : X.env.locals < s.heap.objs.size := let ⟨_, hn, _⟩ := I.loc; hn.lt
theorem Inv.sz (I : Inv X pins σ H s) : X.s₀.heap.objs.size ≤ s.heap.objs.size := Nat.le_trans I.ok.above (Nat.le_of_lt I.lt)
theorem Inv.nofs (I : Inv X pins σ H s) {a : Addr} (h : s.heap.objs.size ≤ a) : a ∉ X.fs := fun hb => by
  obtain ⟨_, o, ho, _⟩ := I.ok.funs.mem hb
  exact absurd (Nat.lt_of_lt_of_le (Heap.lt_size ho) (Nat.le_trans I.sz h)) (Nat.lt_irrefl _)
theorem Inv.cne (I : Inv X pins σ H s) : ∀ x c, X.env.cells.lookup x = some c → c ≠ X.env.locals := fun x c e z => by
  obtain ⟨v, o, ho, hd⟩ := I.cell x c e
  obtain ⟨m, ⟨o', es, ep, ho', hd', _⟩, _⟩ := I.loc
  rw [z, ho'] at ho; cases ho; rw [hd'] at hd; cases hd
theorem Inv.funs (I : Inv X pins σ H s) : s.heap.FunFrames X.base X.outer := by
  have all : ∀ (l : List Env), (∀ b ∈ frs l, b ∈ X.fs) → X.s₀.heap.FunFrames X.base l → s.heap.FunFrames X.base l := by
    intro l
    induction l with
    | nil => intro _ _; trivial
    | cons env r ih =>
      intro hs hl
      obtain ⟨hk, ⟨L, o, hf, hn, ho, hd⟩, hr⟩ := hl
      have hL : L ∈ X.fs := hs L (by unfold frs; rw [List.filterMap_cons, hf]; exact List.mem_cons_self)
      obtain ⟨sl, e⟩ := I.base.slot L o ho (I.ok.frf L hL) hL fun z => I.ok.exfs L z hL
      exact ⟨hk, ⟨L, _, hf, hn, e, hd⟩, ih (fun b hb => hs b (by unfold frs; rw [List.filterMap_cons, hf]; exact List.mem_cons_of_mem _ hb)) hr⟩
  exact all X.outer (fun _ hb => hb) I.ok.funs

/-- the frames that run, for a call -/
theorem Inv.stack (I : Inv X pins σ H s) : s.heap.FunFrames X.base X.stack := by
  rcases I.ok.stk with e | ⟨e, hf⟩
  · rw [e]; exact I.funs
  · rw [e]
    obtain ⟨m, hn, _⟩ := I.loc
    refine .cons (by rw [I.ok.kind]; decide) hf hn ?_ I.funs
    exact Heap.get?_none_of_le (Nat.le_trans I.ok.bsz I.ok.above)
theorem Inv.stkSub (I : Inv X pins σ H s) : ∀ b ∈ frs X.stack, b ∈ X.env.locals :: X.fs := fun b hb => by
  rcases I.ok.stk with e | ⟨e, hf⟩
  · rw [e] at hb; exact List.mem_cons_of_mem _ hb
  · rw [e] at hb
    unfold frs at hb
    rw [List.filterMap_cons, hf] at hb
    exact hb
theorem Inv.stkFree (I : Inv X pins σ H s) : ∀ b ∈ frs X.stack, H b = none := fun b hb => by
  rcases List.mem_cons.mp (I.stkSub b hb) with e | hb
  · rw [e]; exact I.free
  · obtain ⟨_, o, ho, _⟩ := I.ok.funs.mem hb
    exact I.base.free b o ho (I.ok.frf b hb) fun z => I.ok.exfs b z hb

/-- THE STEP: the untracked objects but the frame and the records at ch are kept (the callers' frames up to slots), the frame's map is kept, the new abstract heap is held -/
theorem Inv.step {g' : Array GenState} {t' : Nat} {d' : Drawn} {ch : List Addr} (I : Inv X pins σ H s)
    (hch : ∀ b ∈ ch, (b ∈ X.ex ∨ X.s₀.heap.objs.size ≤ b) ∧ b ≠ X.env.locals ∧ (∀ x c, X.env.cells.lookup x = some c → c ≠ b) ∧ ∀ p ∈ X.pn ++ pins, p.1 ≠ b)
    (keep : ∀ b o, b ≠ X.env.locals → b ∉ X.fs → b ∉ ch → s.heap.get? b = some o → H b = none → h'.get? b = some o)
    (slot : ∀ b o, b ≠ X.env.locals → b ∈ X.fs → b ∉ ch → s.heap.get? b = some o → H b = none → ∃ sl, h'.get? b = some { o with slots := sl }) (free : ∀ b o, b ∉ ch → s.heap.get? b = some o → H b = none → H' b = none)
    (there : ∀ b o, b ∉ ch → s.heap.get? b = some o → ∃ o', h'.get? b = some o')
    (tups : ∀ b xs, H b = some (.tup xs) → H' b = some (.tup xs)) (frzs : ∀ b o u, H b = some (.frz o u) → H' b = some (.frz o u)) (tbls : ∀ b ps, H b = some (.tbl ps) → ∃ more, H' b = some (.tbl (ps ++ more)))
    (ns : ∀ m, s.heap.Ns X.env.locals m → h'.Ns X.env.locals m) (hok : HOk X.prog X.w H' h') (hg : AllBare g') :
    Inv X pins σ H' { s with heap := h', gens := g', drawn := d', toks := t' } := by
  have neL : ∀ b o, X.s₀.heap.get? b = some o → b ≠ X.env.locals := fun b o e => Nat.ne_of_lt (Nat.lt_of_lt_of_le (Heap.lt_size e) I.ok.above)
  have neC : ∀ b o, X.s₀.heap.get? b = some o → b ∉ X.ex → b ∉ ch := fun b o e hx hb => by
    rcases (hch b hb).1 with z | z
    · exact hx z
    · exact absurd (Nat.lt_of_lt_of_le (Heap.lt_size e) z) (Nat.lt_irrefl _)
  have cellK : ∀ x c, X.env.cells.lookup x = some c → ∀ v, s.heap.IsCell c v → h'.IsCell c v := fun x c e v ⟨o, ho, hd⟩ => by
    have nch : c ∉ ch := fun z => (hch c z).2.2.1 x c e rfl
    by_cases hc : c ∈ X.fs
    · obtain ⟨sl, q⟩ := slot c o (I.cne x c e) hc nch ho (I.freeC x c e)
      exact ⟨_, q, hd⟩
    · exact ⟨o, keep c o (I.cne x c e) hc nch ho (I.freeC x c e), hd⟩
  refine ⟨I.ok, I.os, hg, ⟨fun b o e n hb hx => ?_, fun b o e n hb hx => ?_, fun b o e n hx => ?_, fun b o e hx => ?_, fun b xs e => tups b xs (I.base.tups b xs e), fun b o xs e => frzs b o xs (I.base.frzs b o xs e), fun b ps e => ?_⟩, ?_, fun x c e => ?_, ?_, fun x c e => ?_, fun p hp => ?_, hok, I.len⟩
  · exact keep b o (neL b o e) hb (neC b o e hx) (I.base.keep b o e n hb hx) (I.base.free b o e n hx)
  · obtain ⟨sl, e1⟩ := I.base.slot b o e n hb hx
    obtain ⟨sl', e2⟩ := slot b _ (neL b o e) hb (neC b o e hx) e1 (I.base.free b o e n hx)
    exact ⟨sl', e2⟩
  · obtain ⟨o', e1⟩ := I.base.there b o e hx
    exact free b o' (neC b o e hx) e1 (I.base.free b o e n hx)
  · obtain ⟨o', e1⟩ := I.base.there b o e hx
    exact there b o' (neC b o e hx) e1
  · obtain ⟨m1, e1⟩ := I.base.tbls b ps e
    obtain ⟨m2, e2⟩ := tbls b _ e1
    exact ⟨m1 ++ m2, by rw [e2, Array.append_assoc]⟩
  · obtain ⟨m, hn, hl⟩ := I.loc
    refine ⟨m, ns m hn, fun i x v e1 e2 e3 => ?_⟩
    obtain ⟨u, r, l⟩ := hl i x v e1 e2 e3
    refine ⟨u, r, ?_⟩
    rcases l with l | ⟨k, c, e, z⟩
    · exact .inl l
    · exact .inr ⟨k, c, e, cellK x c e _ z⟩
  · obtain ⟨v, z⟩ := I.cell x c e
    exact ⟨v, cellK x c e v z⟩
  · obtain ⟨m, ⟨o, _, _, ho, _⟩, _⟩ := I.loc
    exact free _ o (fun z => (hch _ z).2.1 rfl) ho I.free
  · obtain ⟨v, o, ho, hd⟩ := I.cell x c e
    exact free c o (fun z => (hch c z).2.2.1 x c e rfl) ho (I.freeC x c e)
  · obtain ⟨e, n, ne, nf, d⟩ := I.pin p hp
    have nch : p.1 ∉ ch := fun z => (hch p.1 z).2.2.2 p hp rfl
    exact ⟨keep p.1 p.2 ne nf nch e n, free p.1 p.2 nch e n, ne, nf, d⟩
/-- .. where the frame's own object is kept too -/
theorem Inv.un {t' : Nat} (I : Inv X pins σ H s) (u : Un X.fs [] H H' s.heap h') (hok : HOk X.prog X.w H' h') : Inv X pins σ H' { s with heap := h', toks := t' } := by
  obtain ⟨m, ⟨o, es, ep, ho, r⟩, _⟩ := id I.loc
  obtain ⟨sl, hL⟩ := u.any ho I.free (by simp)
  exact I.step (g' := s.gens) (d' := s.drawn) (ch := []) (fun _ z => nomatch z) (fun b o _ hb _ e n => u.keep b o e n hb (by simp)) (fun b o _ hb _ e n => u.slot b o e n hb (by simp)) (fun b o _ e n => u.free b o e n (by simp)) (fun b o _ e => u.there b o e (by simp)) u.tups u.frzs u.tbls (fun m' hm => by
    obtain ⟨o', es', ep', ho', r'⟩ := hm
    rw [ho] at ho'; cases ho'
    exact ⟨_, es', ep', hL, r'⟩) hok I.bare
/-- behind a call (or a comprehension's block): the slots of this frame may have changed too, the records at ch may have turned -/
theorem Inv.call {g' : Array GenState} {t' : Nat} {d' : Drawn} {ch : List Addr} (I : Inv X pins σ H s) (u : Un (frs X.stack) ch H H' s.heap h') (hok : HOk X.prog X.w H' h') (hg : AllBare g')
    (hch : ∀ b ∈ ch, (b ∈ X.ex ∨ X.s₀.heap.objs.size ≤ b) ∧ b ≠ X.env.locals ∧ (∀ x c, X.env.cells.lookup x = some c → c ≠ b) ∧ ∀ p ∈ X.pn ++ pins, p.1 ≠ b) :
    Inv X pins σ H' { s with heap := h', gens := g', drawn := d', toks := t' } := by
  obtain ⟨m, ⟨o, es, ep, ho, r⟩, _⟩ := id I.loc
  obtain ⟨sl, hL⟩ := u.any ho I.free fun z => (hch _ z).2.1 rfl
  exact I.step (ch := ch) hch (fun b o hL hb hc e n => u.keep b o e n (fun z => (List.mem_cons.mp (I.stkSub b z)).elim hL hb) hc) (fun b o _ _ hc e n => u.any e n hc) (fun b o hc e n => u.free b o e n hc) (fun b o hc e => u.there b o e hc) u.tups u.frzs u.tbls (fun m' hm => by
    obtain ⟨o', es', ep', ho', r'⟩ := hm
    rw [ho] at ho'; cases ho'
    exact ⟨_, es', ep', hL, r'⟩) hok hg
/-- an untracked record of ours (an iterator) has turned -/
theorem Inv.turned {t' : Nat} {it : Addr} (I : Inv X pins σ H s) (k : ∀ b o, b ≠ it → s.heap.get? b = some o → h'.get? b = some o) (hn : H it = none) (hL : it ≠ X.env.locals)
    (h1 : it ∈ X.ex ∨ X.s₀.heap.objs.size ≤ it) (h2 : ∀ x c, X.env.cells.lookup x = some c → c ≠ it) (h3 : ∀ p ∈ X.pn ++ pins, p.1 ≠ it) : Inv X pins σ H { s with heap := h', toks := t' } := by
  have nit : ∀ b u, H b = some u → b ≠ it := fun b u e z => by rw [z, hn] at e; cases e
  refine I.step (g' := s.gens) (d' := s.drawn) (ch := [it]) (fun b hb => ?_) (fun b o _ _ hc e _ => k b o (fun z => hc (by simp [z])) e) (fun b o _ _ hc e _ => ⟨o.slots, k b o (fun z => hc (by simp [z])) e⟩) (fun _ _ _ _ n => n)
    (fun b o hc e => ⟨o, k b o (fun z => hc (by simp [z])) e⟩) (fun _ _ e => e) (fun _ _ _ e => e) (fun b ps e => ⟨#[], by rw [e]; simp⟩) (fun m hm => ?_) (fun b u e => ?_) I.bare
  · have e : b = it := by simpa using hb
    subst e
    exact ⟨h1, hL, h2, h3⟩
  · obtain ⟨o, es, ep, ho, r⟩ := hm
    exact ⟨o, es, ep, k _ o (Ne.symm hL) ho, r⟩
  · refine (I.hok b u e).stay (fun c v hc q => k c v ?_ q) (fun _ q => q) fun _ _ q => q
    rcases hc with z | z
    · rw [z]; exact nit b u e
    · exact nit c _ z
theorem Inv.tok (I : Inv X pins σ H s) (t : Nat) : Inv X pins σ H { s with toks := t } := I.un (h' := s.heap) (t' := t) Un.refl I.hok
/-- all objects kept -/
theorem Inv.kept {t' : Nat} (I : Inv X pins σ H s) (k : ∀ b u, s.heap.get? b = some u → h'.get? b = some u) : Inv X pins σ H { s with heap := h', toks := t' } := I.un (Un.kept k) (I.hok.kept k)
/-- a new object laid and tracked -/
theorem Inv.laid {a : Addr} {o : HO} {t' : Nat} (I : Inv X pins σ H s) (k : ∀ b u, s.heap.get? b = some u → h'.get? b = some u) (hp : s.heap.objs.size ≤ a) (new : ObjOk X.prog X.w (upd H a o) h' a o) :
    Inv X pins σ (upd H a o) { s with heap := h', toks := t' } := I.un (Un.laid k hp (I.hok.fresh hp)) (I.hok.laid k hp new)
/-- an object written -/
theorem Inv.write {x e : Addr} {o : HO} {t' : Nat} (I : Inv X pins σ H s) (mu : Mut (H x)) (he : e = x ∨ H e = some (.own x)) (k : ∀ b u, b ≠ e → s.heap.get? b = some u → h'.get? b = some u) (heo : ∃ u, h'.get? e = some u)
    (new : ObjOk X.prog X.w (upd H x o) h' x o) : Inv X pins σ (upd H x o) { s with heap := h', toks := t' } := I.un (Un.write mu he k heo) (I.hok.write mu he k heo new)
theorem Inv.pins_of {pins' : List (Addr × Obj)} (I : Inv X pins σ H s) (h : ∀ p ∈ pins', s.heap.get? p.1 = some p.2 ∧ H p.1 = none ∧ p.1 ≠ X.env.locals ∧ p.1 ∉ X.fs ∧ ∀ v, p.2.data ≠ .cell v) : Inv X pins' σ H s :=
  ⟨I.ok, I.os, I.bare, I.base, I.loc, I.cell, I.free, I.freeC, fun p hp => (List.mem_append.mp hp).elim (fun z => I.pin p (List.mem_append_left _ z)) (h p), I.hok, I.len⟩

theorem nodup_ix {N : List Str} (hN : N.Nodup) {i j : Nat} {x : Str} (a : N[i]? = some x) (b : N[j]? = some x) : i = j := by
  obtain ⟨h1, e1⟩ := List.getElem?_eq_some_iff.mp a
  obtain ⟨h2, e2⟩ := List.getElem?_eq_some_iff.mp b
  exact (List.getElem_inj hN).mp (e1.trans e2.symm)

/-- a name is stored; what changed -/
theorem store_ok2 {M : Model} {A : Around} {E : Value → Shared → Prop} {i : Nat} {x : Str} {v : V} {u : Value} {Q : Unit → Shared → Prop} (I : Inv X pins σ H s) (hN : X.N.Nodup) (hi : X.N[i]? = some x) (hx : Loc X.env.scope x) (r : RelV v u)
    (h : ∀ s', Inv X pins (σ.set i (some v)) H s' → (∃ a, Heap.SameBut a s.heap s'.heap ∧ (a = X.env.locals ∨ X.env.cells.lookup x = some a)) → Q () s') (hf : X.fn x = true ∨ X.env.scope.names.lookup x = some .local := by first | exact .inl rfl | exact .inr rfl | assumption) : wpAny M A (storeName X.env x u) Q E s := by
  obtain ⟨m, hn, hl⟩ := id I.loc
  have hcls : (X.env.scope.kind == .class || (X.env.scope.kind == .module && X.env.locals != X.env.globals)) = false := by rw [I.ok.kind]; rfl
  have hiσ : i < σ.length := by rw [I.len]; exact (List.getElem?_eq_some_iff.mp hi).1
  have cne := I.cne
  have tracked : ∀ {a : Addr} {h' : Heap}, (∃ o, s.heap.get? a = some o ∧ H a = none) → Heap.SameBut a s.heap h' → HOk X.prog X.w H h' := fun {a h'} ha hs b ob e => by
    obtain ⟨_, _, hfree⟩ := ha
    refine (I.hok b ob e).stay (fun c w' hc q => (hs.2 c ?_).trans q) (fun _ q => q) fun _ _ q => q
    rintro rfl
    rcases hc with rfl | hc
    · rw [hfree] at e; cases e
    · rw [hfree] at hc; cases hc
  rcases hx with hk | hk
  · refine wpAny_storeName_local hk hn (fun h' hn' hs => ?_) hcls
    obtain ⟨oL, _, _, hoL, _⟩ := id hn
    refine h _ ⟨I.ok, I.os, I.bare, ⟨fun b o e n hb hx => ?_, fun b o e n hb hx => ?_, I.base.free, fun b o e hx => ?_, I.base.tups, I.base.frzs, I.base.tbls⟩, ⟨_, hn', fun j y v' e1 e2 e3 => ?_⟩, fun y c e => ?_, I.free, I.freeC, fun p hp => ?_, tracked ⟨oL, hoL, I.free⟩ hs, by simpa using I.len⟩ ⟨_, hs, .inl rfl⟩
    · exact (hs.2 b (Nat.ne_of_lt (Nat.lt_of_lt_of_le (Heap.lt_size e) I.ok.above))).trans (I.base.keep b o e n hb hx)
    · obtain ⟨sl, e1⟩ := I.base.slot b o e n hb hx
      exact ⟨sl, (hs.2 b (Nat.ne_of_lt (Nat.lt_of_lt_of_le (Heap.lt_size e) I.ok.above))).trans e1⟩
    · obtain ⟨o', e1⟩ := I.base.there b o e hx
      exact ⟨o', (hs.2 b (Nat.ne_of_lt (Nat.lt_of_lt_of_le (Heap.lt_size e) I.ok.above))).trans e1⟩
    · by_cases hj : j = i
      · subst hj
        rw [hi] at e1; cases e1
        rw [List.getElem?_set_self hiσ] at e2
        cases e2
        exact ⟨u, r, .inl ⟨hk, by simp⟩⟩
      · rw [List.getElem?_set_ne (Ne.symm hj)] at e2
        obtain ⟨u', r', q⟩ := hl j y v' e1 e2 e3
        refine ⟨u', r', ?_⟩
        rcases q with ⟨k, e⟩ | ⟨k, c, e, z⟩
        · refine .inl ⟨k, ?_⟩
          have : y ≠ x := fun e => hj (nodup_ix hN e1 (e ▸ hi))
          simp [this, e]
        · exact .inr ⟨k, c, e, z.sameBut hs (cne y c e)⟩
    · obtain ⟨w', z⟩ := I.cell y c e
      exact ⟨w', z.sameBut hs (cne y c e)⟩
    · obtain ⟨e, n, ne, nf, d⟩ := I.pin p hp
      exact ⟨(hs.2 p.1 ne).trans e, n, ne, nf, d⟩
  · have hfn : X.fn x = true := by
      rcases hf with z | z
      · exact z
      · rw [z] at hk; cases hk
    obtain ⟨c, hc⟩ := I.ok.has x (.inl hk)
    obtain ⟨w', z⟩ := I.cell x c hc
    refine wpAny_storeName_cell I.ok.kind hk hc z (fun h' hc' hs => ?_)
    obtain ⟨oc, hoc, hocd⟩ := id z
    refine h { s with heap := h' } ⟨I.ok, I.os, I.bare, ⟨fun b o e n hb hx => ?_, fun b o e n hb hx => ?_, I.base.free, fun b o e hx => ?_, I.base.tups, I.base.frzs, I.base.tbls⟩, ⟨m, hn.sameBut hs (Ne.symm (cne x c hc)), fun j y v' e1 e2 e3 => ?_⟩, fun y c' e => ?_, I.free, I.freeC, fun p hp => ?_, tracked ⟨oc, hoc, I.freeC x c hc⟩ hs, by simpa using I.len⟩ ⟨c, hs, .inr hc⟩
    · exact (hs.2 b (Nat.ne_of_lt (Nat.lt_of_lt_of_le (Heap.lt_size e) (I.ok.cab x c hfn hc)))).trans (I.base.keep b o e n hb hx)
    · obtain ⟨sl, e1⟩ := I.base.slot b o e n hb hx
      exact ⟨sl, (hs.2 b (Nat.ne_of_lt (Nat.lt_of_lt_of_le (Heap.lt_size e) (I.ok.cab x c hfn hc)))).trans e1⟩
    · obtain ⟨o', e1⟩ := I.base.there b o e hx
      exact ⟨o', (hs.2 b (Nat.ne_of_lt (Nat.lt_of_lt_of_le (Heap.lt_size e) (I.ok.cab x c hfn hc)))).trans e1⟩
    · by_cases hj : j = i
      · subst hj
        rw [hi] at e1; cases e1
        rw [List.getElem?_set_self hiσ] at e2
        cases e2
        exact ⟨u, r, .inr ⟨.inl hk, c, hc, hc'⟩⟩
      · rw [List.getElem?_set_ne (Ne.symm hj)] at e2
        obtain ⟨u', r', q⟩ := hl j y v' e1 e2 e3
        refine ⟨u', r', ?_⟩
        rcases q with q | ⟨k, c', e, z'⟩
        · exact .inl q
        · refine .inr ⟨k, c', e, z'.sameBut hs ?_⟩
          rintro rfl
          exact hj (nodup_ix hN e1 (I.ok.inj _ _ _ e hc ▸ hi))
    · by_cases hcc : c' = c
      · subst hcc; exact ⟨_, hc'⟩
      · obtain ⟨w2, z2⟩ := I.cell y c' e
        exact ⟨w2, z2.sameBut hs hcc⟩
    · obtain ⟨e, n, ne, nf, d⟩ := I.pin p hp
      refine ⟨(hs.2 p.1 ?_).trans e, n, ne, nf, d⟩
      intro q
      rw [q, hoc] at e
      have q' : oc = p.2 := Option.some.inj e
      exact d w' (by rw [← q']; exact hocd)
theorem store_ok {M : Model} {A : Around} {E : Value → Shared → Prop} {i : Nat} {x : Str} {v : V} {u : Value} {Q : Unit → Shared → Prop} (I : Inv X pins σ H s) (hN : X.N.Nodup) (hi : X.N[i]? = some x) (hx : Loc X.env.scope x) (r : RelV v u)
    (h : ∀ s', Inv X pins (σ.set i (some v)) H s' → Q () s') (hf : X.fn x = true ∨ X.env.scope.names.lookup x = some .local := by first | exact .inl rfl | exact .inr rfl | assumption) : wpAny M A (storeName X.env x u) Q E s :=
  store_ok2 I hN hi hx r (fun s' I' _ => h s' I') hf
/-- behind a call or a block, the state as it is -/
theorem Inv.call' {s' : Shared} {ch : List Addr} (I : Inv X pins σ H s) (ho : s'.os = s.os) (u : Un (frs X.stack) ch H H' s.heap s'.heap) (hok : HOk X.prog X.w H' s'.heap) (hg : AllBare s'.gens)
    (hch : ∀ b ∈ ch, (b ∈ X.ex ∨ X.s₀.heap.objs.size ≤ b) ∧ b ≠ X.env.locals ∧ (∀ x c, X.env.cells.lookup x = some c → c ≠ b) ∧ ∀ p ∈ X.pn ++ pins, p.1 ≠ b) : Inv X pins σ H' s' := by
  obtain ⟨h', g', d', t', o'⟩ := s'
  have e : o' = s.os := ho
  subst e
  exact I.call (g' := g') (t' := t') (d' := d') u hok hg hch
end

/-- an exception: its class, its own dict's address (where it has one), the abstract heap behind it -/
abbrev XK := Value → Option Addr → Hp → Prop
abbrev St := List (Option V)
abbrev VK := V → Hp → Prop
/-- an expression's reading; a test's; an argument list's -/
abbrev TE := St → Hp → VK → Prop
abbrev TT := St → Hp → (Bool → Hp → Prop) → Prop
abbrev TA := St → Hp → (List V → Hp → Prop) → Prop
/-- what is wanted behind a statement -/
structure Ends where
  nx : St → Hp → Prop
  rt : VK
  bk : St → Hp → Prop := fun _ _ => False
  ct : St → Hp → Prop := fun _ _ => False
abbrev TS := Ends → St → Hp → Prop

def EP (X : Cx) (pins : List (Addr × Obj)) (σ : St) (Q : VK) (u : Value) (s' : Shared) : Prop := ∃ v H', Inv X pins σ H' s' ∧ RelV v u ∧ Q v H'
def TP (X : Cx) (pins : List (Addr × Obj)) (σ : St) (Q : Bool → Hp → Prop) (b : Bool) (s' : Shared) : Prop := ∃ H', Inv X pins σ H' s' ∧ Q b H'
def AP (X : Cx) (pins : List (Addr × Obj)) (σ : St) (Q : List V → Hp → Prop) (us : List Value) (s' : Shared) : Prop := ∃ vs H', Inv X pins σ H' s' ∧ Vals vs us ∧ Q vs H'
def SP (X : Cx) (pins : List (Addr × Obj)) (D : Ends) (f : Flow) (s' : Shared) : Prop :=
  match f with
  | .next => ∃ σ' H', Inv X pins σ' H' s' ∧ D.nx σ' H'
  | .brk => ∃ σ' H', Inv X pins σ' H' s' ∧ D.bk σ' H'
  | .cont => ∃ σ' H', Inv X pins σ' H' s' ∧ D.ct σ' H'
  | .ret u => ∃ v σ' H', Inv X pins σ' H' s' ∧ RelV v u ∧ D.rt v H'

def PE (X : Cx) (e : Expr) (t : TE) : Prop :=
  ∀ (pins : List (Addr × Obj)) (s : Shared) (σ : St) (H : Hp) (Q : VK), Inv X pins σ H s → t σ H Q → wpAny (model X.prog X.w) X.A (eval e X.env) (EP X pins σ Q) X.xe s
def PT (X : Cx) (e : Expr) (t : TT) : Prop :=
  ∀ (pins : List (Addr × Obj)) (s : Shared) (σ : St) (H : Hp) (Q : Bool → Hp → Prop), Inv X pins σ H s → t σ H Q → wpAny (model X.prog X.w) X.A (isTrue e X.env (eval e X.env)) (TP X pins σ Q) X.xe s
/-- a test whatever its 'whole' is (and, or) -/
def PW (X : Cx) (e : Expr) (t : TT) : Prop :=
  ∀ (whole : Sem Value) (pins : List (Addr × Obj)) (s : Shared) (σ : St) (H : Hp) (Q : Bool → Hp → Prop), Inv X pins σ H s → t σ H Q → wpAny (model X.prog X.w) X.A (isTrue e X.env whole) (TP X pins σ Q) X.xe s
theorem PW.pt {X : Cx} {e : Expr} {t : TT} (h : PW X e t) : PT X e t := h _
/-- an argument list (no star), from the left -/
def PA (X : Cx) (es : List Expr) (t : TA) : Prop :=
  ∀ (pos : Pos) (pins : List (Addr × Obj)) (s : Shared) (σ : St) (H : Hp) (Q : List V → Hp → Prop), Inv X pins σ H s → t σ H Q → wpAny (model X.prog X.w) X.A (spliced (backTo pos (starEach es X.env))) (AP X pins σ Q) X.xe s
def PS (X : Cx) (st : Stmt) (t : TS) : Prop :=
  ∀ (pins : List (Addr × Obj)) (s : Shared) (σ : St) (H : Hp) (D : Ends), Inv X pins σ H s → t D σ H → wpAny (model X.prog X.w) X.A (exec st X.env) (SP X pins D) X.xe s
def PSs (X : Cx) (st : List Stmt) (t : TS) : Prop :=
  ∀ (pins : List (Addr × Obj)) (s : Shared) (σ : St) (H : Hp) (D : Ends), Inv X pins σ H s → t D σ H → wpAny (model X.prog X.w) X.A (execs st X.env) (SP X pins D) X.xe s
/-- weaken the end -/
theorem thn {α : Type} {t : Sem α} {Q Q' : α → Shared → Prop} {M : Model} {A : Around} {E : Value → Shared → Prop} {s : Shared} (h : wpAny M A t Q E s) (hQ : ∀ a s, Q a s → Q' a s) : wpAny M A t Q' E s := wpAny_mono h hQ fun _ _ x => x
end L2

namespace L2
open PySem PySem.Spec PyProof.Rows
section
variable {X : Cx}

def tVar (i : Nat) : TE := fun σ H Q => ∃ v, σ[i]? = some (some v) ∧ Q v H
def tC (v : V) : TE := fun _ H Q => Q v H
theorem pe_var {i : Nat} {x : Str} {pos : Pos} (hN : X.N[i]? = some x) (hv : Vis X.env.scope x) (hd : (x == ("__debug__" : Str)) = false := by decide) (hcd : (x == ("__classdict__" : Str)) = false := by decide) : PE X (.Name x pos) (tVar i) := by
  intro pins s σ H Q I h
  obtain ⟨v, e, h⟩ := h
  obtain ⟨m, hn, hl⟩ := I.loc
  obtain ⟨u, r, l⟩ := hl i x v hN e hv
  have fin : EP X pins σ Q u s := ⟨v, H, I, r, h⟩
  rcases l with ⟨hk, hm⟩ | ⟨hk, c, hc, hcell⟩
  · exact wpAny_Name (wpAny_loadName_local I.ok.kind hk hn hm fin) hd
  · rcases hk with hk | hk
    · exact wpAny_Name (wpAny_loadName_cell I.ok.kind hk hc hcell fin) hd
    · exact wpAny_Name (wpAny_loadName_free I.ok.kind hk hc hcell fin hcd) hd
theorem pe_int {i j pos} : PE X (.Constant (.int i) j pos) (tC (.int i)) := fun _ _ _ H _ I h => wpAny_Constant_int ⟨.int i, H, I.tok _, ⟨_, rfl⟩, h⟩
theorem pe_bl {b j pos} : PE X (.Constant (.bool b) j pos) (tC (.bl b)) := fun _ _ _ H _ I h => Constant_bool ⟨.bl b, H, I, rfl, h⟩
theorem pe_non {j pos} : PE X (.Constant .none j pos) (tC .non) := fun _ _ _ H _ I h => Constant_none ⟨.non, H, I, rfl, h⟩
theorem pe_str {x j pos} : PE X (.Constant (.str x) j pos) (tC (.str x)) := fun _ _ _ H _ I h => Calls.Constant_str ⟨.str x, H, I.tok _, ⟨_, rfl⟩, h⟩

/-- a global name of the def -/
def Gl (X : Cx) (x : Str) : Prop := X.env.kindOf x = some .globalImplicit
theorem ld_glob {E : Value → Shared → Prop} {pins : List (Addr × Obj)} {s : Shared} {σ : St} {H : Hp} {x : Str} {u : Value} {pos : Pos} {Q : Value → Shared → Prop} (I : Inv X pins σ H s) (hg : Gl X x) (hm : X.mg x = some u) (h : Q u s)
    (hd : (x == ("__debug__" : Str)) = false := by decide) : wpAny (model X.prog X.w) X.A (eval (.Name x pos) X.env) Q E s :=
  Calls.Name_function_global I.ok.kind hg (Calls.loadGlobal_global (by rw [I.ok.glob]; exact I.mod.glob.keeps I.bk) hm h) hd
theorem ld_blt {E : Value → Shared → Prop} {pins : List (Addr × Obj)} {s : Shared} {σ : St} {H : Hp} {x : Str} {u : Value} {pos : Pos} {Q : Value → Shared → Prop} (I : Inv X pins σ H s) (hg : Gl X x) (hm : X.mg x = none) (hv : bootBuiltins x = some u) (h : Q u s)
    (hn : x ≠ "__name__" := by decide) (hd : (x == ("__debug__" : Str)) = false := by decide) : wpAny (model X.prog X.w) X.A (eval (.Name x pos) X.env) Q E s := by
  obtain ⟨mb, h1, h2⟩ := I.mod.blt
  exact Calls.Name_function_global I.ok.kind hg (Calls.loadGlobal_builtin (by rw [I.ok.glob]; exact I.mod.glob.keeps I.bk) hm (by rw [I.ok.blt]; exact h1.keeps I.bk) ((h2 x hn).trans hv) h) hd
/-- a module's constant, a class, a function, as a value -/
theorem pe_glob {x : Str} {v : V} {u : Value} {pos : Pos} (hg : Gl X x) (hm : X.mg x = some u) (r : RelV v u) (hd : (x == ("__debug__" : Str)) = false := by decide) : PE X (.Name x pos) (tC v) :=
  fun _ _ _ H _ I h => ld_glob I hg hm ⟨v, H, I, r, h⟩ hd
theorem pe_bltn {x : Str} {v : V} {u : Value} {pos : Pos} (hg : Gl X x) (hm : X.mg x = none) (hv : bootBuiltins x = some u) (r : RelV v u) (hn : x ≠ "__name__" := by decide) (hd : (x == ("__debug__" : Str)) = false := by decide) : PE X (.Name x pos) (tC v) :=
  fun _ _ _ H _ I h => ld_blt I hg hm hv ⟨v, H, I, r, h⟩ hn hd

variable {a b : Expr} {ta tb : TE} {pos : Pos}
def PC (X : Cx) (op : CmpOp) (a b : Expr) (t : TE) : Prop :=
  ∀ (pins : List (Addr × Obj)) (s : Shared) (σ : St) (H : Hp) (Q : VK), Inv X pins σ H s → t σ H Q →
    wpAny (model X.prog X.w) X.A (eval a X.env) (fun v s₁ => wpAny (model X.prog X.w) X.A (eval b X.env) (fun u s₂ => wpAny (model X.prog X.w) X.A (compareOp op v u) (EP X pins σ Q) X.xe s₂) X.xe s₁) X.xe s
theorem nobehind (b : Expr) {op : CmpOp} (h : op ≠ .In) (h2 : op ≠ .NotIn) : behindInMarks op b = false := by
  have e1 : (op == CmpOp.In) = false := by cases op <;> first | rfl | exact absurd rfl h
  have e2 : (op == CmpOp.NotIn) = false := by cases op <;> first | rfl | exact absurd rfl h2
  cases b <;> simp [behindInMarks, e1, e2]
def tNotN (ta : TE) : TE := fun σ H Q => ta σ H fun x H1 => Q (.bl (!decide (x = .non))) H1
theorem RelV.none_iff {x : V} {v : Value} (r : RelV x v) : (v == Value.none) = decide (x = .non) := by
  cases x with
  | non => cases r; rfl
  | bl _ => cases r; rfl
  | int _ => obtain ⟨t, rfl⟩ := r; rfl
  | str _ => obtain ⟨t, rfl⟩ := r; rfl
  | byt _ => obtain ⟨t, rfl⟩ := r; rfl
  | flt _ => obtain ⟨t, rfl⟩ := r; rfl
  | ref _ => cases r; rfl
  | ty _ => cases r; rfl
theorem pc_notN {j pos'} (ha : PE X a ta) : PC X .IsNot a (.Constant .none j pos') (tNotN ta) := by
  intro pins s σ H Q I h
  refine thn (ha pins s σ H _ I h) fun v s1 ⟨x, H1, I1, r1, q1⟩ => ?_
  exact Constant_none (isnot_none_gen ⟨.bl _, H1, I1, by rw [r1.none_iff]; rfl, q1⟩)
/-- a comparison as a value, as a test -/
def tB (t : TE) : TT := fun σ H Q => t σ H fun x H1 => ∃ c, x = .bl c ∧ Q c H1
theorem pt_cmp {op : CmpOp} {t : TE} (h : PC X op a b t) (h1 : behindInMarks op b = false := by first | exact nobehind _ (by decide) (by decide) | rfl) : PT X (.Compare a [op] [b] pos) (tB t) := by
  intro pins s σ H Q I hw
  refine wpAny_isTrue_Compare1 (thn (h pins s σ H _ I hw) fun v s1 h1 => thn h1 fun u s2 h2 => thn h2 fun c s3 ⟨x, H1, I1, r1, q1⟩ => ?_) h1
  obtain ⟨d, rfl, q⟩ := q1
  cases r1
  exact wpAny_truthy_bool ⟨H1, I1, q⟩
/-- an expression whose value is a bool, as a test -/
theorem pt_val {e : Expr} {t : TE} (h : PE X e t) (he : ∀ whole, isTrue e X.env whole = (do let v ← whole; standAt e.pos; holding [v] (truthy v)) := by intro _; rfl) : PT X e (tB t) := by
  intro pins s σ H Q I hw
  refine isTrue_plain (thn (h pins s σ H _ I hw) fun v s1 ⟨x, H1, I1, r1, q1⟩ => ?_) (he _)
  obtain ⟨d, rfl, q⟩ := q1
  cases r1
  exact wpAny_truthy_bool ⟨H1, I1, q⟩

variable {tA tB' : TT} {rest : List Expr}
def tAnd (t u : TT) : TT := fun σ H Q => t σ H fun c H1 => if c = true then u σ H1 Q else Q false H1
def tOr (t u : TT) : TT := fun σ H Q => t σ H fun c H1 => if c = true then Q true H1 else u σ H1 Q
def tNot (t : TT) : TT := fun σ H Q => t σ H fun c H1 => Q (!c) H1
theorem pw_and1 (ha : PT X a tA) : PW X (.BoolOp .And [a] pos) tA := by
  intro wh pins s σ H Q I h
  refine isTrue_and (thn (ha pins s σ H Q I h) fun c s1 e => ?_)
  cases c with
  | true => exact isTrue_and_nil e
  | false => exact e
theorem pw_or1 (ha : PT X a tA) : PW X (.BoolOp .Or [a] pos) tA := by
  intro wh pins s σ H Q I h
  refine isTrue_or (thn (ha pins s σ H Q I h) fun c s1 e => ?_)
  cases c with
  | false => exact isTrue_or_nil e
  | true => exact e
theorem pw_and (ha : PT X a tA) (hb : PW X (.BoolOp .And (b :: rest) pos) tB') : PW X (.BoolOp .And (a :: b :: rest) pos) (tAnd tA tB') := by
  intro wh pins s σ H Q I h
  refine isTrue_and (thn (ha pins s σ H _ I h) fun c s1 ⟨H1, I1, q1⟩ => ?_)
  cases c with
  | true => exact hb wh pins s1 σ H1 Q I1 q1
  | false => exact ⟨H1, I1, q1⟩
theorem pw_or (ha : PT X a tA) (hb : PW X (.BoolOp .Or (b :: rest) pos) tB') : PW X (.BoolOp .Or (a :: b :: rest) pos) (tOr tA tB') := by
  intro wh pins s σ H Q I h
  refine isTrue_or (thn (ha pins s σ H _ I h) fun c s1 ⟨H1, I1, q1⟩ => ?_)
  cases c with
  | true => exact ⟨H1, I1, q1⟩
  | false => exact hb wh pins s1 σ H1 Q I1 q1
theorem pt_not (ha : PT X a tA) : PT X (.UnaryOp .Not a pos) (tNot tA) := by
  intro pins s σ H Q I h
  exact isTrue_not (ha pins s σ H (fun c H1 => Q (!c) H1) I h)
/-- .. as values (bools) -/
def tAndV (ta tb : TE) : TE := fun σ H Q => ta σ H fun x H1 => ∃ c, x = .bl c ∧ if c = true then tb σ H1 Q else Q (.bl false) H1
def tNotV (ta : TE) : TE := fun σ H Q => ta σ H fun x H1 => ∃ c, x = .bl c ∧ Q (.bl (!c)) H1
theorem pe_one {op} {t : TE} (h : PE X a t) : PE X (.BoolOp op [a] pos) t := fun pins s σ H Q I hw => BoolOp_one (h pins s σ H Q I hw)
theorem pe_and (ha : PE X a ta) (hb : PE X (.BoolOp .And (b :: rest) pos) tb) : PE X (.BoolOp .And (a :: b :: rest) pos) (tAndV ta tb) := by
  intro pins s σ H Q I h
  refine BoolOp_and (thn (ha pins s σ H _ I h) fun v s1 ⟨x, H1, I1, r1, q1⟩ => ?_)
  obtain ⟨c, rfl, q1⟩ := q1
  cases r1
  refine wpAny_truthy_bool ?_
  cases c with
  | true => exact hb pins s1 σ H1 Q I1 q1
  | false => exact ⟨.bl false, H1, I1, rfl, q1⟩
theorem pe_not (ha : PE X a ta) : PE X (.UnaryOp .Not a pos) (tNotV ta) := by
  intro pins s σ H Q I h
  refine UnaryOp_ (thn (ha pins s σ H _ I h) fun v s1 ⟨x, H1, I1, r1, q1⟩ => ?_)
  obtain ⟨c, rfl, q1⟩ := q1
  cases r1
  exact not_of (wpAny_truthy_bool ⟨.bl (!c), H1, I1, rfl, q1⟩)
end
end L2

namespace L2
open PySem PySem.Spec PyProof.Rows

def SqL (K : PySem.W.Frag) (H : Hp) (a : Addr) (xs : List V) : Prop :=
  Rd H a (.lst xs) ∨
    ∃ (o : Obj) (its : Array Value) (n : Nat), K.lookup a = some o ∧ o.cls = .type "list" ∧ o.dict = none ∧ o.data = .seq its n ∧ its.size ≤ sizeLine ∧ Vals xs its.toList
def SqT (K : PySem.W.Frag) (H : Hp) (a : Addr) (xs : List V) : Prop :=
  Rd H a (.tup xs) ∨
    ∃ (o : Obj) (its : Array Value) (n : Nat), K.lookup a = some o ∧ o.cls = .type "tuple" ∧ o.data = .seq its n ∧ its.size ≤ sizeLine ∧ Vals xs its.toList
def absV : Value → Option V
  | .none => some .non
  | .bool b => some (.bl b)
  | .int i _ => some (.int i)
  | .str x _ => some (.str x)
  | .bytes b _ => some (.byt b)
  | .float b _ => some (.flt b)
  | .ref a => some (.ref a)
  | .type n => some (.ty n)
  | _ => none
theorem RelV.abs {x : V} {u : Value} (r : RelV x u) : absV u = some x := by
  cases x with
  | non => cases r; rfl
  | bl _ => cases r; rfl
  | int _ => obtain ⟨t, rfl⟩ := r; rfl
  | str _ => obtain ⟨t, rfl⟩ := r; rfl
  | byt _ => obtain ⟨t, rfl⟩ := r; rfl
  | flt _ => obtain ⟨t, rfl⟩ := r; rfl
  | ref _ => cases r; rfl
  | ty _ => cases r; rfl
theorem RelV.inj {x y : V} {u : Value} (r : RelV x u) (q : RelV y u) : x = y := Option.some.inj (r.abs.symm.trans q.abs)
theorem Vals.inj : ∀ {xs ys : List V} {us : List Value}, Vals xs us → Vals ys us → xs = ys
  | _, _, _, .nil, .nil => rfl
  | _, _, _, .cons r t, .cons r' t' => by rw [r.inj r', Vals.inj t t']
section
variable {X : Cx} {pins : List (Addr × Obj)} {σ : St} {H : Hp} {s : Shared} {a : Addr} {xs ys : List V}
theorem SqL.of {K : PySem.W.Frag} (h : H a = some (.lst xs)) : SqL K H a xs := .inl (.inl h)
theorem SqT.of {K : PySem.W.Frag} (h : H a = some (.tup xs)) : SqT K H a xs := .inl (.inl h)
theorem Inv.list (I : Inv X pins σ H s) (h : SqL X.K H a xs) : ∃ its : List Value, Vals xs its ∧ PlainL s.heap a its.toArray ∧ xs.length ≤ sizeLine := by
  rcases h with h | ⟨o, its, n, hk, hc, hd, hs, hz, r⟩
  · obtain ⟨z, its, n, r, e⟩ := h.ok I.hok
    exact ⟨its, r, ⟨_, n, e, rfl, rfl, rfl⟩, z⟩
  · refine ⟨its.toList, r, ⟨o, n, I.kIn a o hk, hc, hd, by simpa using hs⟩, ?_⟩
    have e := r.length
    simp only [Array.length_toList] at e
    omega
theorem Inv.tuple (I : Inv X pins σ H s) (h : SqT X.K H a xs) : ∃ its : List Value, Vals xs its ∧ IsTup s.heap a its.toArray ∧ xs.length ≤ sizeLine := by
  rcases h with h | ⟨o, its, n, hk, hc, hs, hz, r⟩
  · obtain ⟨z, its, r, p⟩ := h.ok I.hok
    exact ⟨its, r, p, z⟩
  · refine ⟨its.toList, r, ⟨o, I.kIn a o hk, hc, n, by simpa using hs⟩, ?_⟩
    have e := r.length
    simp only [Array.length_toList] at e
    omega
theorem Inv.list_inj (I : Inv X pins σ H s) (h : SqL X.K H a xs) (h' : SqL X.K H a ys) : xs = ys := by
  obtain ⟨its, r, ⟨o, n, e, _, _, d⟩, _⟩ := I.list h
  obtain ⟨its', r', ⟨o', n', e', _, _, d'⟩, _⟩ := I.list h'
  rw [e] at e'; cases e'
  rw [d] at d'
  injection d' with d1 _
  have : its = its' := by simpa using congrArg Array.toList d1
  subst this
  exact r.inj r'
theorem Inv.tuple_inj (I : Inv X pins σ H s) (h : SqT X.K H a xs) (h' : SqT X.K H a ys) : xs = ys := by
  obtain ⟨its, r, ⟨o, e, _, n, d⟩, _⟩ := I.tuple h
  obtain ⟨its', r', ⟨o', e', _, n', d'⟩, _⟩ := I.tuple h'
  rw [e] at e'; cases e'
  rw [d] at d'
  injection d' with d1 _
  have : its = its' := by simpa using congrArg Array.toList d1
  subst this
  exact r.inj r'
end

abbrev Cx.wish (X : Cx) (E : Value → Shared → Prop) : Cx := { X with xe := E }
/-- no exception leaves -/
abbrev Cx.nox (X : Cx) : Cx := X.wish fun _ _ => False
theorem Cx.Ok.wish {X : Cx} (ok : X.Ok) (E : Value → Shared → Prop) : (X.wish E).Ok :=
  ⟨ok.mod, ok.kind, ok.glob, ok.blt, ok.above, ok.inj, ok.has, ok.cab, ok.hd, ok.frames, ok.stk, ok.exf, ok.bs, ok.bsz, ok.noex, ok.exfs, ok.funs, ok.frf⟩
theorem Cx.Ok.unwish {X : Cx} {E : Value → Shared → Prop} (ok : (X.wish E).Ok) : X.Ok :=
  ⟨ok.mod, ok.kind, ok.glob, ok.blt, ok.above, ok.inj, ok.has, ok.cab, ok.hd, ok.frames, ok.stk, ok.exf, ok.bs, ok.bsz, ok.noex, ok.exfs, ok.funs, ok.frf⟩
section
variable {X : Cx} {pins : List (Addr × Obj)} {σ : St} {H : Hp} {s : Shared} {E : Value → Shared → Prop}
theorem Inv.wish (I : Inv X pins σ H s) (E : Value → Shared → Prop) : Inv (X.wish E) pins σ H s := ⟨I.ok.wish E, I.os, I.bare, I.base, I.loc, I.cell, I.free, I.freeC, I.pin, I.hok, I.len⟩
theorem Inv.unwish (I : Inv (X.wish E) pins σ H s) : Inv X pins σ H s := ⟨I.ok.unwish, I.os, I.bare, I.base, I.loc, I.cell, I.free, I.freeC, I.pin, I.hok, I.len⟩
theorem SP.unwish {D : Ends} {f : Flow} {s' : Shared} (h : SP (X.wish E) pins D f s') : SP X pins D f s' := by
  cases f with
  | next => obtain ⟨σ', H', I, q⟩ := h; exact ⟨σ', H', I.unwish, q⟩
  | brk => obtain ⟨σ', H', I, q⟩ := h; exact ⟨σ', H', I.unwish, q⟩
  | cont => obtain ⟨σ', H', I, q⟩ := h; exact ⟨σ', H', I.unwish, q⟩
  | ret u => obtain ⟨v, σ', H', I, r, q⟩ := h; exact ⟨v, σ', H', I.unwish, r, q⟩
theorem PSs.nox {st : List Stmt} {t : TS} (h : PSs X.nox st t) : PSs X st t := fun pins s σ H D I hw =>
  wpAny_mono (h pins s σ H D (I.wish _) hw) (fun _ _ q => q.unwish) fun _ _ z => False.elim z
end

section
variable {X : Cx} {st : Stmt} {rest : List Stmt} {t u : TS} {e : Expr} {te : TE} {pos : Pos}
def tNext : TS := fun D σ H => D.nx σ H
def tSeq (t u : TS) : TS := fun D σ H => t { D with nx := u D } σ H
theorem pss_nil : PSs X [] tNext := fun _ _ σ H _ I h => wpAny_execs_nil ⟨σ, H, I, h⟩
theorem pss_cons (h1 : PS X st t) (h2 : PSs X rest u) : PSs X (st :: rest) (tSeq t u) := by
  intro pins s σ H D I h
  refine wpAny_execs_cons (thn (h1 pins s σ H { D with nx := u D } I h) fun f s1 q => ?_)
  cases f with
  | next =>
    obtain ⟨σ', H', I', q⟩ := q
    exact h2 pins s1 σ' H' D I' q
  | ret v => exact q
  | brk => exact q
  | cont => exact q
theorem pss_one (h1 : PS X st t) : PSs X [st] t := by
  intro pins s σ H D I h
  refine wpAny_execs_cons (thn (h1 pins s σ H D I h) fun f s1 q => ?_)
  cases f with
  | next => exact wpAny_execs_nil q
  | ret v => exact q
  | brk => exact q
  | cont => exact q
/-- in a def's body nothing is shown -/
theorem Inv.quiet {pins : List (Addr × Obj)} {σ : St} {H : Hp} {s : Shared} (I : Inv X pins σ H s) : interactive X.env = false := by simp [interactive, I.ok.kind]
/-- an expression whose value is dropped -/
def tDrop (te : TE) : TS := fun D σ H => te σ H fun _ H1 => D.nx σ H1
theorem ps_expr (he : PE X e te) (hs : swapsWith e none pos.line X.env = pure false := by rfl) : PS X (.Expr e pos) (tDrop te) := by
  intro pins s σ H D I h
  exact wpAny_Expr_any (thn (he pins s σ H _ I h) fun v s1 ⟨x, H1, I1, r1, q1⟩ => ⟨σ, H1, I1, q1⟩) I.quiet hs
def tRet (te : TE) : TS := fun D σ H => te σ H D.rt
theorem ps_ret (he : PE X e te) : PS X (.Return (some e) pos) (tRet te) := by
  intro pins s σ H D I h
  exact wpAny_Return_some (thn (he pins s σ H _ I h) fun v s1 ⟨x, H1, I1, r1, q1⟩ => ⟨x, σ, H1, I1, r1, q1⟩)
def tIfS (c : TT) (t u : TS) : TS := fun D σ H => c σ H fun b H1 => if b = true then t D σ H1 else u D σ H1
theorem ps_if {c : Expr} {a b : List Stmt} {tc : TT} (hc : PT X c tc) (ha : PSs X a t) (hb : PSs X b u) : PS X (.If c a b pos) (tIfS tc t u) := by
  intro pins s σ H D I h
  refine wpAny_If (thn (hc pins s σ H _ I h) fun d s1 ⟨H1, I1, q1⟩ => ?_)
  cases d with
  | true => exact ha pins s1 σ H1 D I1 q1
  | false => exact hb pins s1 σ H1 D I1 q1
/-- code that the proof never comes to -/
def tNever : TS := fun _ _ _ => False
theorem ps_never : PS X st tNever := fun _ _ _ _ _ _ h => h.elim
theorem pss_never {sts : List Stmt} : PSs X sts tNever := fun _ _ _ _ _ _ h => h.elim
end

abbrev TG := V → St → Hp → (St → Hp → Prop) → Prop
abbrev TGs := List V → St → Hp → (St → Hp → Prop) → Prop
def PG (X : Cx) (target : Expr) (t : TG) : Prop :=
  ∀ (pins : List (Addr × Obj)) (s : Shared) (σ : St) (H : Hp) (v : V) (u : Value) (Q : St → Hp → Prop), Inv X pins σ H s → RelV v u → t v σ H Q →
    wpAny (model X.prog X.w) X.A (assign target X.env u) (fun _ s' => ∃ σ' H', Inv X pins σ' H' s' ∧ Q σ' H') X.xe s
/-- several targets, one after another -/
def PGs (X : Cx) (ts : List Expr) (t : TGs) : Prop :=
  ∀ (pins : List (Addr × Obj)) (s : Shared) (σ : St) (H : Hp) (vs : List V) (us : List Value) (Q : St → Hp → Prop), Inv X pins σ H s → Vals vs us → t vs σ H Q →
    wpAny (model X.prog X.w) X.A (assignInOrder ((assignEach ts X.env).map (·.2)) us) (fun _ s' => ∃ σ' H', Inv X pins σ' H' s' ∧ Q σ' H') X.xe s
/-- o[i] = v, by values -/
abbrev TSet := V → V → V → Hp → (Hp → Prop) → Prop
def PSet (X : Cx) (t : TSet) : Prop :=
  ∀ (pins : List (Addr × Obj)) (s : Shared) (σ : St) (H : Hp) (o i v : V) (ov iv u : Value) (Q : Hp → Prop), Inv X pins σ H s → RelV o ov → RelV i iv → RelV v u → t o i v H Q →
    wpAny (model X.prog X.w) X.A (setItem ov iv u) (fun _ s' => ∃ H', Inv X pins σ H' s' ∧ Q H') X.xe s
section
variable {X : Cx} {pos : Pos}
def gName (i : Nat) : TG := fun v σ H Q => Q (σ.set i (some v)) H
theorem pg_name {i : Nat} {x : Str} (hN : X.N.Nodup) (hi : X.N[i]? = some x) (hx : Loc X.env.scope x) (hf : X.fn x = true ∨ X.env.scope.names.lookup x = some .local := by first | exact .inl rfl | exact .inr rfl | assumption) : PG X (.Name x pos) (gName i) := by
  intro pins s σ H v u Q I r h
  exact wpAny_assign_Name (store_ok I hN hi hx r (fun s' I' => ⟨_, H, I', h⟩) hf)
def gNil : TGs := fun vs σ H Q => vs = [] ∧ Q σ H
def gCons (t : TG) (u : TGs) : TGs := fun vs σ H Q => ∃ v r, vs = v :: r ∧ t v σ H fun σ' H' => u r σ' H' Q
theorem pgs_nil : PGs X [] gNil := by
  intro pins s σ H vs us Q I r h
  obtain ⟨e, h⟩ := h
  subst e
  cases r
  exact assignInOrder_nil ⟨σ, H, I, h⟩
theorem pgs_cons {e : Expr} {es : List Expr} {t : TG} {u : TGs} (h1 : PG X e t) (h2 : PGs X es u)
    (hs : (assignEach (e :: es) X.env).map (·.2) = assign e X.env :: (assignEach es X.env).map (·.2) := by rfl) : PGs X (e :: es) (gCons t u) := by
  intro pins s σ H vs us Q I r h
  obtain ⟨v, vr, e1, h⟩ := h
  subst e1
  cases r with
  | cons r rr =>
    rw [hs]
    refine assignInOrder_cons (thn (h1 pins s σ H _ _ _ I r h) fun _ s1 ⟨σ1, H1, I1, q1⟩ => ?_)
    exact h2 pins s1 σ1 H1 _ _ Q I1 rr q1
/-- (a, b, ..) = a tuple of that length -/
def gTup (K : PySem.W.Frag) (n : Nat) (t : TGs) : TG := fun v σ H Q => ∃ a xs, v = .ref a ∧ SqT K H a xs ∧ xs.length = n ∧ t xs σ H Q
theorem pg_tup {es : List Expr} {k : Nat} {t : TGs} {n : Nat} (hc : X.calm = true) (h : PGs X es t)
    (hn : (assignEach es X.env).length = n := by rfl) (hst : (assignEach es X.env).findIdx? (·.1) = none := by rfl) : PG X (.Tuple es k pos) (gTup X.K n t) := by
  intro pins s σ H v u Q I r hw
  obtain ⟨a, xs, e1, hq, hl, hw⟩ := hw
  subst e1
  cases r
  obtain ⟨its, rv, ht, hz⟩ := I.tuple hq
  refine assign_Tuple_tuple (I.ok.hd hc) ht (by simp [hn, ← hl, rv.length]) hst fun h' hx => ?_
  have I1 : Inv X pins σ H { s with heap := h' } := I.kept (t' := s.toks) fun b o e => hx b o (Nat.ne_of_lt (Heap.lt_size e)) e
  exact h pins _ σ H xs _ Q I1 (by simpa using rv) hw
/-- o[i] = .. -/
def gSub (to ti : TE) (t : TSet) : TG := fun v σ H Q => to σ H fun o H1 => ti σ H1 fun i H2 => t o i v H2 fun H3 => Q σ H3
theorem pg_sub {o i : Expr} {to ti : TE} {t : TSet} (ho : PE X o to) (hi : PE X i ti) (hs : PSet X t)
    (ha : ∀ v, assign (.Subscript o i pos) X.env v = (do
      let ov ← holding [v] (eval o X.env)
      let iv ← holding [v, ov] (eval i X.env)
      standAt pos
      holding [v, ov, iv] (setItem ov iv v)
      release [v, ov, iv] []) := by intro _; rfl) : PG X (.Subscript o i pos) (gSub to ti t) := by
  intro pins s σ H v u Q I r h
  rw [ha]
  refine wpAny_bind (wpAny_holding (thn (ho pins s σ H _ I h) fun ov s1 ⟨x, H1, I1, r1, q1⟩ => ?_))
  refine wpAny_bind (wpAny_holding (thn (hi pins s1 σ H1 _ I1 q1) fun iv s2 ⟨y, H2, I2, r2, q2⟩ => ?_))
  refine wpAny_bind (wpAny_standAt (wpAny_bind (wpAny_holding (thn (hs pins s2 σ H2 x y v ov iv u _ I2 r1 r2 r q2) fun _ s3 ⟨H3, I3, q3⟩ => ?_))))
  exact wpAny_release ⟨σ, H3, I3, q3⟩
/-- target = value -/
def tAsg (te : TE) (g : TG) : TS := fun D σ H => te σ H fun x H1 => g x σ H1 D.nx
theorem ps_asg {tg e : Expr} {te : TE} {g : TG} (he : PE X e te) (hg : PG X tg g) (hs : swapsWithSole [tg] e pos.line X.env = pure false := by rfl) (hw : swappedStores [tg] e X.env = pure none := by rfl)
    (h1 : (assignEach [tg] X.env).map (·.2) = [assign tg X.env] := by rfl) : PS X (.Assign [tg] e pos) (tAsg te g) := by
  intro pins s σ H D I h
  refine wpAny_Assign_stores (thn (he pins s σ H _ I h) fun v s1 ⟨x, H1, I1, r1, q1⟩ => ?_) hs hw
  rw [h1]
  exact thn (hg pins s1 σ H1 x v _ I1 r1 q1) fun _ s2 q => q
/-- name = value -/
theorem ps_set {i : Nat} {x : Str} {e : Expr} {te : TE} {pos' : Pos} (hN : X.N.Nodup) (hi : X.N[i]? = some x) (hx : Loc X.env.scope x) (he : PE X e te) (hs : swapsWith e (some (.Name x pos')) pos.line X.env = pure false := by rfl) (hf : X.fn x = true ∨ X.env.scope.names.lookup x = some .local := by first | exact .inl rfl | exact .inr rfl | assumption) :
    PS X (.Assign [.Name x pos'] e pos) (tAsg te (gName i)) := by
  intro pins s σ H D I h
  refine wpAny_Assign_Name (thn (he pins s σ H _ I h) fun v s1 ⟨y, H1, I1, r1, q1⟩ => ?_) hs
  exact store_ok I1 hN hi hx r1 (fun s2 I2 => ⟨_, H1, I2, q1⟩) hf
end

section
variable {X : Cx} {pos : Pos}
/-- the invariant W with its measure -/
def tWhile (c : TT) (tb : TS) : TS := fun D σ H => ∃ W : Nat → St → Hp → Prop, (∃ m, W m σ H) ∧ ∀ m σ H, W m σ H →
  c σ H fun b H1 => if b = true then ∃ N : St → Hp → Prop, (∀ σ' H', N σ' H' → ∃ m', m' < m ∧ W m' σ' H') ∧ tb { D with nx := N, ct := N, bk := D.nx } σ H1 else D.nx σ H1
theorem ps_while {c : Expr} {body : List Stmt} {tc : TT} {tb : TS} (hp : PassesOwn (model X.prog X.w) X.A X.env X.xe) (hc : PT X c tc) (hb : PSs X body tb) : PS X (.While c body [] pos) (tWhile tc tb) := by
  intro pins s σ H D I h
  obtain ⟨W, ⟨m0, w0⟩, turn⟩ := h
  refine wpAny_While (codeAny_whileLoop (fun n s' => ∃ σ' H', Inv X pins σ' H' s' ∧ W n σ' H') ?_ m0 ⟨σ, H, I, w0⟩)
  rintro n s1 ⟨σ1, H1, I1, w1⟩
  refine wpAny_passesOwn hp (thn (hc pins s1 σ1 H1 _ I1 (turn n σ1 H1 w1)) fun b s2 ⟨H2, I2, q2⟩ => ?_)
  cases b with
  | true =>
    obtain ⟨N, hN, q2⟩ := q2
    rw [if_pos rfl]
    refine wpAny_passesOwn hp (thn (hb pins s2 σ1 H2 _ I2 q2) fun f s3 q3 => ?_)
    cases f with
    | next =>
      obtain ⟨σ3, H3, I3, n3⟩ := q3
      obtain ⟨m', hm, w3⟩ := hN σ3 H3 n3
      exact ⟨m', hm, σ3, H3, I3, w3⟩
    | cont =>
      obtain ⟨σ3, H3, I3, n3⟩ := q3
      obtain ⟨m', hm, w3⟩ := hN σ3 H3 n3
      exact ⟨m', hm, σ3, H3, I3, w3⟩
    | brk => exact q3
    | ret v => exact q3
  | false =>
    rw [if_neg Bool.false_ne_true]
    exact wpAny_execs_nil ⟨σ1, H2, I2, q2⟩
end

/-- at turn i: it yields x (the heap may grow), or it stops -/
structure It where
  go : Nat → Hp → Prop
  yld : Nat → Hp → V → Hp → Prop
  stop : Nat → Hp → Prop
/-- the iterator's own objects may turn: they are not the frame's, not pinned, younger than the entry (or a comprehension's own) -/
def FpOk (X : Cx) (pins : List (Addr × Obj)) (H : Hp) (b : Addr) : Prop :=
  H b = none ∧ b ≠ X.env.locals ∧ b ∉ X.fs ∧ (b ∈ X.ex ∨ X.s₀.heap.objs.size ≤ b) ∧ (∀ x c, X.env.cells.lookup x = some c → c ≠ b) ∧ ∀ p ∈ X.pn ++ pins, p.1 ≠ b
theorem Inv.fpOk {X : Cx} {pins : List (Addr × Obj)} {σ : St} {H H' : Hp} {s : Shared} {b : Addr} (I : Inv X pins σ H s) (hb : s.heap.objs.size ≤ b) (hn : H' b = none) : FpOk X pins H' b := by
  refine ⟨hn, Nat.ne_of_gt (Nat.lt_of_lt_of_le I.lt hb), I.nofs hb, .inr (Nat.le_trans I.sz hb), fun x c e z => ?_, fun p hp z => ?_⟩
  · obtain ⟨v, q⟩ := I.cell x c e
    exact absurd (Nat.lt_of_lt_of_le q.lt (by rw [z]; exact hb)) (Nat.lt_irrefl _)
  · exact absurd (Nat.lt_of_lt_of_le (Heap.lt_size (I.pin p hp).1) (by rw [z]; exact hb)) (Nat.lt_irrefl _)
structure Turn (P : Program) (w : World) (K : PySem.W.Frag) (tg : Expr) (J : It) (fp : List Addr) (it : Addr) (tn : Nat → Heap → Prop) : Prop where
  mem : it ∈ fp
  obj : ∀ i h, tn i h → ∀ b ∈ fp, ∃ o, h.get? b = some o ∧ ∀ v, o.data ≠ .cell v
  keep : ∀ i h h', tn i h → (∀ b ∈ fp, ∀ o, h.get? b = some o → h'.get? b = some o) → tn i h'
  item : ∀ (X : Cx), X.prog = P → X.w = w → X.K = K → X.calm = true → ∀ (i : Nat) (pins : List (Addr × Obj)) (s : Shared) (σ : St) (H : Hp) (E : Value → Shared → Prop), Inv X pins σ H s → (∀ b ∈ fp, FpOk X pins H b) → tn i s.heap → J.go i H →
    wpAny (model P w) X.A (pyNext (.ref it)) (fun r s1 => ∃ u, r = some u ∧
      wpAny (model P w) X.A (letOwnedTupleGo tg (.ref it) u) (fun _ s2 => ∃ x H', Inv X pins σ H' s2 ∧ RelV x u ∧ J.yld i H x H' ∧ tn (i + 1) s2.heap ∧ ∀ b ∈ fp, H' b = none) E s1) E s
  done : ∀ (X : Cx), X.prog = P → X.w = w → X.K = K → X.calm = true → ∀ (i : Nat) (pins : List (Addr × Obj)) (s : Shared) (σ : St) (H : Hp) (E : Value → Shared → Prop), Inv X pins σ H s → (∀ b ∈ fp, FpOk X pins H b) → tn i s.heap → J.stop i H →
    wpAny (model P w) X.A (pyNext (.ref it)) (fun r s1 => r = none ∧ Inv X pins σ H s1) E s
  self : ∀ (A : Around) (i : Nat) (s : Shared) (Q : Value → Shared → Prop) (E : Value → Shared → Prop), tn i s.heap → Q (.ref it) s → wpAny (model P w) A (pyIter (.ref it)) Q E s
abbrev TI := St → Hp → (It → Hp → Prop) → Prop
/-- an iterator has come -/
def PIE (X : Cx) (pins : List (Addr × Obj)) (σ : St) (tg : Expr) (R : It → Hp → Prop) (itv : Value) (s2 : Shared) : Prop :=
  ∃ (it : Addr) (fp : List Addr) (tn : Nat → Heap → Prop) (J : It) (H' : Hp), itv = .ref it ∧ Inv X pins σ H' s2 ∧ Turn X.prog X.w X.K tg J fp it tn ∧ tn 0 s2.heap ∧ (∀ b ∈ fp, FpOk X pins H' b) ∧ R J H'
def PI (X : Cx) (tg iter : Expr) (wi : TI) : Prop :=
  ∀ (pins : List (Addr × Obj)) (s : Shared) (σ : St) (H : Hp) (R : It → Hp → Prop), Inv X pins σ H s → wi σ H R →
    wpAny (model X.prog X.w) X.A (eval iter X.env) (fun v s1 => wpAny (model X.prog X.w) X.A (pyIter v) (PIE X pins σ tg R) X.xe s1) X.xe s

/-- the step ahead of the store is nothing for an iterator that keeps no tuple -/
theorem go_of {M : Model} {A : Around} {E : Value → Shared → Prop} {s : Shared} {tg : Expr} {it : Addr} {u : Value} {o : Obj} {n : String} {vs : Array Value} {Q : Unit → Shared → Prop} (ho : s.heap.get? it = some o) (hc : o.cls = .type n) (hd : o.data = .fields vs)
    (hn : ["enumerate", "zip", "dict_itemiterator", "dict_reverseitemiterator", "odict_iterator", "itertools.zip_longest", "itertools.pairwise"].contains n = false) (hQ : Q () s) : wpAny M A (letOwnedTupleGo tg (.ref it) u) Q E s := by
  unfold letOwnedTupleGo
  cases tg <;> first
    | exact wpAny_pure hQ
    | (cases u <;> first
        | exact wpAny_pure hQ
        | (refine wpAny_bind (wpAny_load ho ?_)
           rw [hc, hd]
           show wpAny M A (if (["enumerate", "zip", "dict_itemiterator", "dict_reverseitemiterator", "odict_iterator", "itertools.zip_longest", "itertools.pairwise"].contains n && vs[0]? == some (rawInt _)) = true then _ else _) Q E s
           rw [if_neg (by intro h; rw [hn, Bool.false_and] at h; cases h)]
           exact wpAny_pure hQ))

/-- the list at a, as it stands at each turn (a loop may append to it) -/
def Itl (K : PySem.W.Frag) (a : Addr) : It :=
  ⟨fun i H => ∃ xs x, SqL K H a xs ∧ xs[i]? = some x, fun i H x H' => H' = H ∧ ∀ xs, SqL K H a xs → xs[i]? = some x, fun i H => ∃ xs, SqL K H a xs ∧ xs.length ≤ i⟩
/-- lo, lo + 1, .. (n of them) -/
def Itr (lo : Int) (n : Nat) : It := ⟨fun i _ => i < n, fun i H x H' => H' = H ∧ x = .int (lo + i), fun i _ => n ≤ i⟩
theorem turn_list {P : Program} {w : World} {K : PySem.W.Frag} {tg : Expr} (a it : Addr) : Turn P w K tg (Itl K a) [it] it (fun i h => h.IsListIter it a i) where
  mem := by simp
  obj := fun i h st b hb => by
    have e : b = it := by simpa using hb
    subst e
    obtain ⟨o, e, c, d⟩ := st
    exact ⟨o, e, fun v z => by rw [d] at z; cases z⟩
  keep := fun i h h' st k => st.at fun o e => k it (by simp) o e
  item := by
    intro X hP hw hK hc i pins s σ H E I hf st hg
    subst hP hw hK
    obtain ⟨xs, x, hq, hx⟩ := hg
    obtain ⟨its, rv, p, hz⟩ := I.list hq
    obtain ⟨u, hu, ru⟩ := rv.get hx
    obtain ⟨f0, f1, f2, f3, f4, f5⟩ := hf it (by simp)
    refine wpAny_pyNext_list_item st p.isList (x := u) (by simpa using hu) fun h' st' sb => ?_
    have I1 : Inv X pins σ H { s with heap := h' } := I.turned (t' := s.toks) (fun b o hb e => (sb.2 b hb).trans e) f0 f1 f3 f4 f5
    obtain ⟨o, e, c, d⟩ := id st'
    exact ⟨u, rfl, go_of (s := { s with heap := h' }) e c d (by decide) ⟨x, H, I1, ru, ⟨rfl, fun ys hy => by rw [I.list_inj hy hq]; exact hx⟩, st', fun b hb => (hf b hb).1⟩⟩
  done := by
    intro X hP hw hK hc i pins s σ H E I hf st hg
    subst hP hw hK
    obtain ⟨xs, hq, hx⟩ := hg
    obtain ⟨its, rv, p, hz⟩ := I.list hq
    obtain ⟨f0, f1, f2, f3, f4, f5⟩ := hf it (by simp)
    have hl := rv.length
    exact wpAny_pyNext_list_end (I.ok.hd hc) st p.isList (by simp; omega) fun h' eb => ⟨rfl, I.turned (t' := s.toks) (fun b o hb e => eb b o hb e) f0 f1 f3 f4 f5⟩
  self := fun _ _ _ _ _ st h => wpAny_pyIter_listiter st h
theorem turn_range {P : Program} {w : World} {K : PySem.W.Frag} {tg : Expr} (it : Addr) (lo : Int) (n : Nat) : Turn P w K tg (Itr lo n) [it] it (fun i h => IsRangeIter h it (lo + (i : Nat) * 1) ((n : Int) - (i : Nat)) 1) where
  mem := by simp
  obj := fun i h st b hb => by
    have e : b = it := by simpa using hb
    subst e
    exact ⟨_, st, fun v z => by
      have z' : Data.fields _ = Data.cell v := z
      cases z'⟩
  keep := fun i h h' st k => k it (by simp) _ st
  item := by
    intro X hP hw hK hc i pins s σ H E I hf st hg
    subst hP hw hK
    obtain ⟨f0, f1, f2, f3, f4, f5⟩ := hf it (by simp)
    have W := Walks.range (prog := X.prog) (w := X.w) (I.ok.hd hc) it lo 1 n
    refine W.item i s _ _ hg st fun v h' tk hv st' kk => ?_
    obtain ⟨t, rfl⟩ := hv
    have I1 : Inv X pins σ H { s with heap := h', toks := tk } := I.turned (fun b o hb e => kk b o (by simpa using hb) e) f0 f1 f3 f4 f5
    refine ⟨_, rfl, go_of (s := { s with heap := h', toks := tk }) (n := "range_iterator") st' rfl rfl (by decide) ⟨.int (lo + i), H, I1, ⟨t, ?_⟩, ⟨rfl, rfl⟩, st', fun b hb => (hf b hb).1⟩⟩
    rw [Int.mul_one]
  done := by
    intro X hP hw hK hc i pins s σ H E I hf st hg
    subst hP hw hK
    obtain ⟨f0, f1, f2, f3, f4, f5⟩ := hf it (by simp)
    exact wpAny_pyNext_range_end (I.ok.hd hc) st (by have : n ≤ i := hg; omega) fun h' eb => ⟨rfl, I.turned (t' := s.toks) (fun b o hb e => eb b o hb e) f0 f1 f3 f4 f5⟩
  self := fun _ _ _ _ _ st h => wpAny_pyIter_rangeiter st h
end L2

namespace L2
open PySem PySem.Spec PyProof.Rows
section
variable {X : Cx} {tg : Expr}
def iList (K : PySem.W.Frag) (tl : TE) : TI := fun σ H R => tl σ H fun x H1 => ∃ a, x = .ref a ∧ (∃ xs, SqL K H1 a xs) ∧ R (Itl K a) H1
theorem pi_list {l : Expr} {tl : TE} (hl : PE X l tl) : PI X tg l (iList X.K tl) := by
  intro pins s σ H R I h
  refine thn (hl pins s σ H _ I h) fun v s1 ⟨x, H1, I1, r1, q1⟩ => ?_
  obtain ⟨a, e, ⟨xs, hq⟩, q⟩ := q1
  subst e
  cases r1
  obtain ⟨its, rv, p, hz⟩ := I1.list hq
  refine wpAny_pyIter_list p.isList ?_
  refine ⟨s1.heap.objs.size, [s1.heap.objs.size], _, _, H1, rfl, I1.kept (t' := s1.toks) fun b o e => Heap.get?_push_of_some _ e, turn_list a _, ⟨_, Heap.get?_push_size _ rfl, rfl, rfl⟩, fun b hb => ?_, q⟩
  have e : b = s1.heap.objs.size := by simpa using hb
  subst e
  exact I1.fpOk (Nat.le_refl _) (I1.hok.fresh (Nat.le_refl _))
/-- a range object just made, walked -/
theorem range_it {pins : List (Addr × Obj)} {σ : St} {H : Hp} {s : Shared} {R : It → Hp → Prop} {E : Value → Shared → Prop} {lo hi : Int} {t u v : Tok} {tk : Nat} (I : Inv X pins σ H s) (h1 : -(2 ^ 62) ≤ lo) (h2 : lo < 2 ^ 62) (h3 : -(2 ^ 62) ≤ hi) (h4 : hi < 2 ^ 62)
    (q : R (Itr lo (hi - lo).toNat) H) : wpAny (model X.prog X.w) X.A (pyIter (.ref s.heap.objs.size)) (PIE X pins σ tg R) E { s with heap := s.heap.push { cls := .type "range", data := .fields #[.int lo t, .int hi u, .int 1 v] }, toks := tk } := by
  refine wpAny_pyIter_range (IsRange.new ..) (small_one h1 h2 h3 h4) ?_
  have I1 : Inv X pins σ H { s with heap := s.heap.push { cls := .type "range", data := .fields #[.int lo t, .int hi u, .int 1 v] }, toks := tk } := I.kept fun b o e => Heap.get?_push_of_some _ e
  refine ⟨(s.heap.push { cls := .type "range", data := .fields #[.int lo t, .int hi u, .int 1 v] }).objs.size, [(s.heap.push { cls := .type "range", data := .fields #[.int lo t, .int hi u, .int 1 v] }).objs.size], _, _, H, rfl,
    I1.kept (t' := tk) fun b o e => Heap.get?_push_of_some _ e, turn_range _ lo (hi - lo).toNat, ?_, fun b hb => ?_, q⟩
  · have e1 : lo + ((0 : Nat) : Int) * 1 = lo := by simp
    have e2 : (((hi - lo).toNat : Nat) : Int) - ((0 : Nat) : Int) = Builtin.Range.rangeSize lo hi 1 := by rw [rangeSize_one]; split <;> omega
    show IsRangeIter _ _ (lo + ((0 : Nat) : Int) * 1) ((((hi - lo).toNat : Nat) : Int) - ((0 : Nat) : Int)) 1
    rw [e1, e2]
    exact Heap.get?_push_size _ rfl
  · have e : b = (s.heap.push { cls := .type "range", data := .fields #[.int lo t, .int hi u, .int 1 v] }).objs.size := by simpa using hb
    subst e
    exact I1.fpOk (Nat.le_refl _) (I1.hok.fresh (Nat.le_refl _))
def iRng1 (ta : TA) : TI := fun σ H R => ta σ H fun vs H1 => ∃ j : Int, vs = [.int j] ∧ -(2 ^ 62) ≤ j ∧ j < 2 ^ 62 ∧ R (Itr 0 j.toNat) H1
def iRng2 (ta : TA) : TI := fun σ H R => ta σ H fun vs H1 => ∃ i j : Int, vs = [.int i, .int j] ∧ (-(2 ^ 62) ≤ i ∧ i < 2 ^ 62 ∧ -(2 ^ 62) ≤ j ∧ j < 2 ^ 62) ∧ R (Itr i (j - i).toNat) H1
theorem pi_range1 {a : Expr} {ta : TA} {p pos : Pos} (hg : Gl X "range") (hm : X.mg "range" = none) (ha : PA X [a] ta) (hs : starEach [a] X.env = [(false, eval a X.env)] := by rfl) : PI X tg (.Call (.Name "range" p) [a] [] pos) (iRng1 ta) := by
  intro pins s σ H R I h
  refine Call_ (ld_blt I hg hm boot_range (PyProof.Rows.callWith_type1 (thn (ha pos pins s σ H _ I h) fun us s1 ⟨vs, H1, I1, r1, q1⟩ => ?_) hs rfl))
  obtain ⟨j, e, q1, q2, q⟩ := q1
  subst e
  cases r1 with
  | cons r rr =>
    cases rr
    obtain ⟨t, rfl⟩ := r
    exact call_range_1 (range_it I1 (by omega) (by omega) q1 q2 (by simpa using q))
theorem pi_range2 {a b : Expr} {ta : TA} {p pos : Pos} (hg : Gl X "range") (hm : X.mg "range" = none) (ha : PA X [a, b] ta) (hs : starEach [a, b] X.env = [(false, eval a X.env), (false, eval b X.env)] := by rfl) (hs2 : starEach [b] X.env = [(false, eval b X.env)] := by rfl) :
    PI X tg (.Call (.Name "range" p) [a, b] [] pos) (iRng2 ta) := by
  intro pins s σ H R I h
  refine Call_ (ld_blt I hg hm boot_range (PyProof.Rows.callWith_type1 (thn (ha pos pins s σ H _ I h) fun us s1 ⟨vs, H1, I1, r1, q1⟩ => ?_) (by rw [hs, hs2]) (by rw [hs2]; rfl)))
  obtain ⟨i, j, e, ⟨q1, q2, q3, q4⟩, q⟩ := q1
  subst e
  cases r1 with
  | cons r rr =>
    cases rr with
    | cons r' rr =>
      cases rr
      obtain ⟨t, rfl⟩ := r
      obtain ⟨t', rfl⟩ := r'
      exact call_range_2 (range_it I1 q1 q2 q3 q4 q)

/-- W: the invariant by the turn and a measure; N: what the body is to reach -/
def tFor (wi : TI) (g : TG) (tb : TS) : TS := fun D σ H => wi σ H fun J H1 => ∃ W : Nat → Nat → St → Hp → Prop, (∃ m, W 0 m σ H1) ∧ ∀ i m σ H, W i m σ H →
  (J.stop i H ∧ D.nx σ H) ∨ (J.go i H ∧ ∃ N : St → Hp → Prop, (∀ σ' H', N σ' H' → ∃ m', m' < m ∧ W (i + 1) m' σ' H') ∧ ∀ x H', J.yld i H x H' → g x σ H' fun σ2 H2 => tb { D with nx := N, ct := N, bk := D.nx } σ2 H2)
/-- the records at fp as they stand -/
def pinsAt (fp : List Addr) (h : Heap) : List (Addr × Obj) := fp.filterMap fun b => (h.get? b).map fun o => (b, o)
theorem mem_pinsAt {fp : List Addr} {h : Heap} {b : Addr} {o : Obj} (hb : b ∈ fp) (e : h.get? b = some o) : (b, o) ∈ pinsAt fp h := List.mem_filterMap.mpr ⟨b, hb, by rw [e]; rfl⟩
theorem of_pinsAt {fp : List Addr} {h : Heap} {p : Addr × Obj} (hp : p ∈ pinsAt fp h) : p.1 ∈ fp ∧ h.get? p.1 = some p.2 := by
  obtain ⟨b, hb, e⟩ := List.mem_filterMap.mp hp
  cases q : h.get? b with
  | none => rw [q] at e; cases e
  | some o =>
    rw [q] at e
    have e' : (b, o) = p := Option.some.inj e
    subst e'
    exact ⟨hb, q⟩
theorem Inv.pinned {pins : List (Addr × Obj)} {σ : St} {H : Hp} {s : Shared} {fp : List Addr} (I : Inv X pins σ H s) (hf : ∀ b ∈ fp, FpOk X pins H b) (ho : ∀ b ∈ fp, ∃ o, s.heap.get? b = some o ∧ ∀ v, o.data ≠ .cell v) : Inv X (pins ++ pinsAt fp s.heap) σ H s :=
  I.pins_of fun p hp => (List.mem_append.mp hp).elim (fun z => I.pin p (List.mem_append_right _ z)) fun z => by
    obtain ⟨hb, e⟩ := of_pinsAt z
    obtain ⟨f0, f1, f2, _⟩ := hf p.1 hb
    obtain ⟨o, e', d⟩ := ho p.1 hb
    rw [e] at e'; cases e'
    exact ⟨e, f0, f1, f2, d⟩
theorem Inv.unpinned {pins pl : List (Addr × Obj)} {σ : St} {H : Hp} {s : Shared} (I : Inv X (pins ++ pl) σ H s) : Inv X pins σ H s := I.pins_of fun p hp => I.pin p (List.mem_append_right _ (List.mem_append_left _ hp))
theorem ps_for {iter : Expr} {body : List Stmt} {wi : TI} {g : TG} {tb : TS} {pos : Pos} (hp : PassesOwn (model X.prog X.w) X.A X.env X.xe) (hc : X.calm = true) (hi : PI X tg iter wi) (hg : PG X tg g) (hb : PSs X body tb)
    (hs : ∀ x, foldedSetIterable iter X.env x = pure x := by intro _; rfl) : PS X (.For tg iter body [] pos) (tFor wi g tb) := by
  intro pins s σ H D I h
  refine wpAny_For (thn (hi pins s σ H _ I h) fun v s1 h1 => thn h1 fun itv s2 h2 => ?_) hs
  obtain ⟨it, fp, tn, J, H2, e, I2, T, st2, f2, W, ⟨m0, w0⟩, turn⟩ := h2
  subst e
  -- what stays true of the iterator's objects through the loop
  have stat : ∀ {H' : Hp}, (∀ b ∈ fp, H' b = none) → ∀ b ∈ fp, FpOk X pins H' b := fun hn b hb => ⟨hn b hb, (f2 b hb).2⟩
  refine codeAny_forLoop_any (fun n s' => ∃ i σ' H', Inv X pins σ' H' s' ∧ tn i s'.heap ∧ (∀ b ∈ fp, H' b = none) ∧ W i n σ' H') ?_ m0 ⟨0, σ, H2, I2, st2, fun b hb => (f2 b hb).1, w0⟩
  rintro n s3 ⟨i, σ3, H3, I3, st3, fr3, w3⟩
  rcases turn i n σ3 H3 w3 with ⟨stop, qn⟩ | ⟨go, N, hN, step⟩
  · refine wpAny_passesOwn hp (thn (T.done X rfl rfl rfl hc i pins s3 σ3 H3 X.xe I3 (stat fr3) st3 stop) fun r s4 ⟨hr, I4⟩ => ?_)
    subst hr
    exact wpAny_execs_nil ⟨σ3, H3, I4, qn⟩
  · refine wpAny_passesOwn hp (thn (T.item X rfl rfl rfl hc i pins s3 σ3 H3 X.xe I3 (stat fr3) st3 go) fun r s4 ⟨u, hr, h4⟩ => ?_)
    subst hr
    refine wpAny_passesOwn hp (thn h4 fun _ s5 ⟨x, H5, I5, r5, y5, st5, fr5⟩ => ?_)
    have I5' := I5.pinned (stat fr5) (T.obj _ _ st5)
    refine wpAny_passesOwn hp (thn (hg _ s5 σ3 H5 x u _ I5' r5 (step x H5 y5)) fun _ s6 ⟨σ6, H6, I6, q6⟩ => ?_)
    refine wpAny_passesOwn hp (thn (hb _ s6 σ6 H6 _ I6 q6) fun f s7 q7 => ?_)
    have again : ∀ {σ7 : St} {H7 : Hp}, Inv X (pins ++ pinsAt fp s5.heap) σ7 H7 s7 → N σ7 H7 → ∃ m, m < n ∧ ∃ i σ' H', Inv X pins σ' H' s7 ∧ tn i s7.heap ∧ (∀ b ∈ fp, H' b = none) ∧ W i m σ' H' := fun {σ7 H7} I7 n7 => by
      obtain ⟨m', hm, w7⟩ := hN σ7 H7 n7
      refine ⟨m', hm, i + 1, σ7, H7, I7.unpinned, T.keep _ _ _ st5 fun b hb o e => (I7.pin (b, o) (List.mem_append_right _ (List.mem_append_right _ (mem_pinsAt hb e)))).1, fun b hb => ?_, w7⟩
      obtain ⟨o, e, d⟩ := T.obj _ _ st5 b hb
      exact (I7.pin (b, o) (List.mem_append_right _ (List.mem_append_right _ (mem_pinsAt hb e)))).2.1
    cases f with
    | next => obtain ⟨σ7, H7, I7, n7⟩ := q7; exact again I7 n7
    | cont => obtain ⟨σ7, H7, I7, n7⟩ := q7; exact again I7 n7
    | brk => obtain ⟨σ7, H7, I7, q7⟩ := q7; exact ⟨σ7, H7, I7.unpinned, q7⟩
    | ret v => obtain ⟨x7, σ7, H7, I7, r7, q7⟩ := q7; exact ⟨x7, σ7, H7, I7.unpinned, r7, q7⟩
end

/-- over a list that the body leaves as it is -/
theorem for_list {K : PySem.W.Frag} {a : Addr} {xs : List V} {g : TG} {tb : TS} {D : Ends} {σ : St} {H : Hp} (Pv : Nat → St → Hp → Prop) (h0 : Pv 0 σ H) (hl : ∀ i σ H, i ≤ xs.length → Pv i σ H → SqL K H a xs)
    (hs : ∀ i x σ H, xs[i]? = some x → Pv i σ H → g x σ H fun σ2 H2 => tb { D with nx := Pv (i + 1), ct := Pv (i + 1), bk := D.nx } σ2 H2) (hd : ∀ σ H, Pv xs.length σ H → D.nx σ H) :
    ∃ W : Nat → Nat → St → Hp → Prop, (∃ m, W 0 m σ H) ∧ ∀ i m σ H, W i m σ H →
      ((Itl K a).stop i H ∧ D.nx σ H) ∨ ((Itl K a).go i H ∧ ∃ N : St → Hp → Prop, (∀ σ' H', N σ' H' → ∃ m', m' < m ∧ W (i + 1) m' σ' H') ∧ ∀ x H', (Itl K a).yld i H x H' → g x σ H' fun σ2 H2 => tb { D with nx := N, ct := N, bk := D.nx } σ2 H2) := by
  refine ⟨fun i m σ H => m = xs.length - i ∧ i ≤ xs.length ∧ Pv i σ H, ⟨xs.length, by simp, Nat.zero_le _, h0⟩, ?_⟩
  rintro i m σ H ⟨rfl, hi, p⟩
  have q := hl i σ H hi p
  by_cases hlt : i < xs.length
  · refine .inr ⟨⟨xs, xs[i], q, by simp [hlt]⟩, Pv (i + 1), fun σ' H' p' => ⟨xs.length - (i + 1), by omega, rfl, hlt, p'⟩, fun x H' y => ?_⟩
    obtain ⟨e, y⟩ := y
    subst e
    exact hs i x σ _ (y xs q) p
  · have e : i = xs.length := by omega
    subst e
    exact .inl ⟨⟨xs, q, Nat.le_refl _⟩, hd σ H p⟩
theorem for_range {lo : Int} {n : Nat} {g : TG} {tb : TS} {D : Ends} {σ : St} {H : Hp} (Pv : Nat → St → Hp → Prop) (h0 : Pv 0 σ H)
    (hs : ∀ i σ H, i < n → Pv i σ H → g (.int (lo + i)) σ H fun σ2 H2 => tb { D with nx := Pv (i + 1), ct := Pv (i + 1), bk := D.nx } σ2 H2) (hd : ∀ σ H, Pv n σ H → D.nx σ H) :
    ∃ W : Nat → Nat → St → Hp → Prop, (∃ m, W 0 m σ H) ∧ ∀ i m σ H, W i m σ H →
      ((Itr lo n).stop i H ∧ D.nx σ H) ∨ ((Itr lo n).go i H ∧ ∃ N : St → Hp → Prop, (∀ σ' H', N σ' H' → ∃ m', m' < m ∧ W (i + 1) m' σ' H') ∧ ∀ x H', (Itr lo n).yld i H x H' → g x σ H' fun σ2 H2 => tb { D with nx := N, ct := N, bk := D.nx } σ2 H2) := by
  refine ⟨fun i m σ H => m = n - i ∧ i ≤ n ∧ Pv i σ H, ⟨n, by simp, Nat.zero_le _, h0⟩, ?_⟩
  rintro i m σ H ⟨rfl, hi, p⟩
  by_cases hlt : i < n
  · refine .inr ⟨hlt, Pv (i + 1), fun σ' H' p' => ⟨n - (i + 1), by omega, rfl, hlt, p'⟩, fun x H' y => ?_⟩
    obtain ⟨e, y⟩ := y
    subst e y
    exact hs i σ _ hlt p
  · have e : i = n := by omega
    subst e
    exact .inl ⟨Nat.le_refl _, hd σ H p⟩
end L2

namespace L2
open PySem PySem.Spec PyProof.Rows

abbrev R2 := V → V → Hp → VK → Prop
/-- a two-place operation on values: f is binaryOp op, inplaceOp op or compareOp op -/
def OpR (X : Cx) (f : Value → Value → Sem Value) (r : R2) : Prop :=
  ∀ (pins : List (Addr × Obj)) (s : Shared) (σ : St) (H : Hp) (x y : V) (v u : Value) (Q : VK), Inv X pins σ H s → RelV x v → RelV y u → r x y H Q →
    wpAny (model X.prog X.w) X.A (f v u) (EP X pins σ Q) X.xe s
/-- a one-place operation -/
def UnR (X : Cx) (f : Value → Sem Value) (r : V → Hp → VK → Prop) : Prop :=
  ∀ (pins : List (Addr × Obj)) (s : Shared) (σ : St) (H : Hp) (x : V) (v : Value) (Q : VK), Inv X pins σ H s → RelV x v → r x H Q →
    wpAny (model X.prog X.w) X.A (f v) (EP X pins σ Q) X.xe s
/-- a call of a value that is known (a builtin, a type) with values -/
def CallR (X : Cx) (f : Value) (r : List V → Hp → VK → Prop) : Prop :=
  ∀ (pins : List (Addr × Obj)) (s : Shared) (σ : St) (H : Hp) (xs : List V) (us : List Value) (Q : VK), Inv X pins σ H s → Vals xs us → r xs H Q →
    wpAny (model X.prog X.w) X.A (call f us) (EP X pins σ Q) X.xe s
def tOp (r : R2) (ta tb : TE) : TE := fun σ H Q => ta σ H fun x H1 => tb σ H1 fun y H2 => r x y H2 Q
def tUn (r : V → Hp → VK → Prop) (ta : TE) : TE := fun σ H Q => ta σ H fun x H1 => r x H1 Q
/-- ints in, under C, and a value out -/
def rI (C : Int → Int → Prop) (g : Int → Int → V) : R2 := fun x y H Q => ∃ i j, x = .int i ∧ y = .int j ∧ C i j ∧ Q (g i j) H
def rI0 (g : Int → Int → V) : R2 := fun x y H Q => ∃ i j, x = .int i ∧ y = .int j ∧ Q (g i j) H
def rU (g : Int → V) : V → Hp → VK → Prop := fun x H Q => ∃ i, x = .int i ∧ Q (g i) H

section
variable {X : Cx} {a b c : Expr} {ta tb tc : TE} {pos : Pos}

theorem binT (ha : PE X a ta) (hb : PE X b tb) {pins : List (Addr × Obj)} {s : Shared} {σ : St} {H : Hp} {R : V → V → Hp → Prop} (I : Inv X pins σ H s)
    (h : ta σ H fun x H1 => tb σ H1 fun y H2 => R x y H2) {Q : Value → Shared → Prop} {f : Value → Value → Sem Value}
    (hf : ∀ v u s2 x y H2, Inv X pins σ H2 s2 → RelV x v → RelV y u → R x y H2 → wpAny (model X.prog X.w) X.A (f v u) Q X.xe s2) :
    wpAny (model X.prog X.w) X.A (eval a X.env) (fun v s₁ => wpAny (model X.prog X.w) X.A (eval b X.env) (fun u s₂ => wpAny (model X.prog X.w) X.A (f v u) Q X.xe s₂) X.xe s₁) X.xe s := by
  refine thn (ha pins s σ H _ I h) fun v s1 ⟨x, H1, I1, r1, q1⟩ => ?_
  refine thn (hb pins s1 σ H1 _ I1 q1) fun u s2 ⟨y, H2, I2, r2, q2⟩ => ?_
  exact hf v u s2 x y H2 I2 r1 r2 q2

theorem pe_op {op : Operator} {r : R2} (ho : OpR X (binaryOp op) r) (ha : PE X a ta) (hb : PE X b tb) : PE X (.BinOp a op b pos) (tOp r ta tb) := by
  intro pins s σ H Q I h
  exact wpAny_BinOp (binT ha hb I h fun v u s2 x y H2 I2 rx ry q => ho pins s2 σ H2 x y v u Q I2 rx ry q)
theorem pe_un {op : UnaryOp} {r : V → Hp → VK → Prop} (ho : UnR X (unaryOp op) r) (ha : PE X a ta) : PE X (.UnaryOp op a pos) (tUn r ta) := by
  intro pins s σ H Q I h
  exact UnaryOp_ (thn (ha pins s σ H _ I h) fun v s1 ⟨x, H1, I1, r1, q1⟩ => ho pins s1 σ H1 x v Q I1 r1 q1)
theorem opI {f : Value → Value → Sem Value} {C : Int → Int → Prop} {g : Int → Int → Int}
    (rule : ∀ (i j : Int) (t u : Tok) (s : Shared) (Q : Value → Shared → Prop) (E : Value → Shared → Prop), C i j → Q (.int (g i j) s.toks) { s with toks := s.toks + 1 } → wpAny (model X.prog X.w) X.A (f (.int i t) (.int j u)) Q E s) :
    OpR X f (rI C fun i j => .int (g i j)) := by
  intro pins s σ H x y v u Q I rx ry h
  obtain ⟨i, j, rfl, rfl, hc, q⟩ := h
  obtain ⟨t, rfl⟩ := rx
  obtain ⟨t', rfl⟩ := ry
  exact rule i j t t' s _ _ hc ⟨.int (g i j), H, I.tok _, ⟨_, rfl⟩, q⟩
theorem opI0 {f : Value → Value → Sem Value} {g : Int → Int → Int}
    (rule : ∀ (i j : Int) (t u : Tok) (s : Shared) (Q : Value → Shared → Prop) (E : Value → Shared → Prop), Q (.int (g i j) s.toks) { s with toks := s.toks + 1 } → wpAny (model X.prog X.w) X.A (f (.int i t) (.int j u)) Q E s) :
    OpR X f (rI0 fun i j => .int (g i j)) := by
  intro pins s σ H x y v u Q I rx ry h
  obtain ⟨i, j, rfl, rfl, q⟩ := h
  obtain ⟨t, rfl⟩ := rx
  obtain ⟨t', rfl⟩ := ry
  exact rule i j t t' s _ _ ⟨.int (g i j), H, I.tok _, ⟨_, rfl⟩, q⟩
theorem opB0 {f : Value → Value → Sem Value} {g : Int → Int → Bool}
    (rule : ∀ (i j : Int) (t u : Tok) (s : Shared) (Q : Value → Shared → Prop) (E : Value → Shared → Prop), Q (.bool (g i j)) s → wpAny (model X.prog X.w) X.A (f (.int i t) (.int j u)) Q E s) :
    OpR X f (rI0 fun i j => .bl (g i j)) := by
  intro pins s σ H x y v u Q I rx ry h
  obtain ⟨i, j, rfl, rfl, q⟩ := h
  obtain ⟨t, rfl⟩ := rx
  obtain ⟨t', rfl⟩ := ry
  exact rule i j t t' s _ _ ⟨.bl (g i j), H, I, rfl, q⟩

def CDiv (i j : Int) : Prop := 0 < j ∧ j < 1073741824
def CPow (i j : Int) : Prop := 0 ≤ j ∧ j ≤ 1000000 ∧ i.natAbs < 2 ^ 64
def CMul (i j : Int) : Prop := (-(2 ^ 64) < i ∧ i < 2 ^ 64) ∨ (-(2 ^ 64) < j ∧ j < 2 ^ 64)
theorem CMul.ok {i j : Int} (h : CMul i j) : IntMulOk i j := by
  rcases h with ⟨h1, h2⟩ | ⟨h1, h2⟩
  · exact .of_left (intBits_le_64 h1 h2)
  · exact .of_right (intBits_le_64 h1 h2)
theorem op_add : OpR X (binaryOp .Add) (rI0 fun i j => .int (i + j)) := opI0 fun _ _ _ _ _ _ _ q => add_int q
theorem op_sub : OpR X (binaryOp .Sub) (rI0 fun i j => .int (i - j)) := opI0 fun _ _ _ _ _ _ _ q => sub_int q
theorem op_mul : OpR X (binaryOp .Mult) (rI CMul fun i j => .int (i * j)) := opI fun _ _ _ _ _ _ _ hc q => mul_int q hc.ok
/-- // by a positive divisor -/
theorem op_fdiv : OpR X (binaryOp .FloorDiv) (rI CDiv fun i j => .int (i / j)) := opI fun i j _ _ _ _ _ hc q => by
  have h1 : (0 : Int) < j := hc.1
  have h2 : j < 1073741824 := hc.2
  exact floordiv_int (by omega) (by rw [Int.fdiv_eq_ediv_of_nonneg i (by omega)]; exact q) (.inl (PyProof.noPylong_small (by omega)))
/-- % by a positive divisor of any size -/
theorem op_mod : OpR X (binaryOp .Mod) (rI (fun _ j => 0 < j) fun i j => .int (i % j)) := opI fun i j _ _ _ _ _ hc q => by
  have h1 : (0 : Int) < j := hc
  exact mod_int' (by omega) (by rw [Int.fmod_eq_emod_of_nonneg i (by omega)]; exact q)
theorem op_pow : OpR X (binaryOp .Pow) (rI CPow fun i j => .int (i ^ j.toNat)) := opI fun _ _ _ _ _ _ _ hc q => pow_int_small hc.1 hc.2.1 hc.2.2 q
theorem unI {f : Value → Sem Value} {g : Int → Int}
    (rule : ∀ (i : Int) (t : Tok) (s : Shared) (Q : Value → Shared → Prop) (E : Value → Shared → Prop), Q (.int (g i) s.toks) { s with toks := s.toks + 1 } → wpAny (model X.prog X.w) X.A (f (.int i t)) Q E s) :
    UnR X f (rU fun i => .int (g i)) := by
  intro pins s σ H x v Q I rx h
  obtain ⟨i, rfl, q⟩ := h
  obtain ⟨t, rfl⟩ := rx
  exact rule i t s _ _ ⟨.int (g i), H, I.tok _, ⟨_, rfl⟩, q⟩
theorem un_neg : UnR X (unaryOp .USub) (rU fun i => .int (-i)) := unI fun _ _ _ _ _ q => neg_int q
end

/-- the scalars that == tells apart as data does -/
def scal : V → V → Bool
  | .non, .non => true | .non, .int _ => true | .int _, .non => true | .non, .bl _ => true | .bl _, .non => true | .non, .str _ => true | .str _, .non => true
  | .int _, .int _ => true | .bl _, .bl _ => true | .str _, .str _ => true | .byt _, .byt _ => true
  | .int _, .str _ => true | .str _, .int _ => true | .bl _, .str _ => true | .str _, .bl _ => true
  | _, _ => false
def rEq : R2 := fun x y H Q => scal x y = true ∧ Q (.bl (decide (x = y))) H
def rNe : R2 := fun x y H Q => scal x y = true ∧ Q (.bl (!decide (x = y))) H

theorem dec_int {i j : Int} : decide (V.int i = V.int j) = (i == j) := by
  rw [Bool.eq_iff_iff]
  simp
theorem dec_bl {i j : Bool} : decide (V.bl i = V.bl j) = (i == j) := by
  rw [Bool.eq_iff_iff]
  simp
theorem dec_str {i j : Str} : decide (V.str i = V.str j) = (i == j) := by
  rw [Bool.eq_iff_iff]
  simp
theorem dec_byt {i j : Array UInt8} : decide (V.byt i = V.byt j) = (i.toList == j.toList) := by
  rw [Bool.eq_iff_iff]
  cases i
  cases j
  simp

section
variable {X : Cx} {a b c : Expr} {ta tb tc : TE} {pos : Pos}
theorem fin_bl {pins : List (Addr × Obj)} {σ : St} {H : Hp} {s : Shared} {Q : VK} {k k' : Bool} (I : Inv X pins σ H s) (q : Q (.bl k) H) (e : k = k') : EP X pins σ Q (.bool k') s := by
  subst e
  exact ⟨.bl k, H, I, rfl, q⟩
theorem op_eq : OpR X (compareOp .Eq) rEq := by
  intro pins s σ H x y v u Q I rx ry h
  obtain ⟨hs, q⟩ := h
  cases x with
  | non =>
    cases rx
    cases y with
    | non => cases ry; exact PySem.EqNone.eq_none_none (fin_bl I q (by simp))
    | bl j => cases ry; exact PySem.EqNone.eq_none_bool (fin_bl I q (by simp))
    | int j => obtain ⟨t', rfl⟩ := ry; exact PySem.EqNone.eq_none_int (fin_bl I q (by simp))
    | str j => obtain ⟨t', rfl⟩ := ry; exact PySem.EqNone.eq_none_str (fin_bl I q (by simp))
    | _ => exact absurd (show false = true from hs) Bool.false_ne_true
  | bl i =>
    cases rx
    cases y with
    | non => cases ry; exact PySem.EqNone.eq_bool_none (fin_bl I q (by simp))
    | bl j => cases ry; exact eq_bool (fin_bl I q dec_bl)
    | str j => obtain ⟨t', rfl⟩ := ry; exact PySem.EqMixed.eq_bool_str (fin_bl I q (by simp))
    | _ => exact absurd (show false = true from hs) Bool.false_ne_true
  | int i =>
    obtain ⟨t, rfl⟩ := rx
    cases y with
    | non => cases ry; exact PySem.EqNone.eq_int_none (fin_bl I q (by simp))
    | int j => obtain ⟨t', rfl⟩ := ry; exact eq_int (fin_bl I q dec_int)
    | str j => obtain ⟨t', rfl⟩ := ry; exact PySem.EqMixed.eq_int_str (fin_bl I q (by simp))
    | _ => exact absurd (show false = true from hs) Bool.false_ne_true
  | str i =>
    obtain ⟨t, rfl⟩ := rx
    cases y with
    | non => cases ry; exact PySem.EqNone.eq_str_none (fin_bl I q (by simp))
    | bl j => cases ry; exact PySem.EqMixed.eq_str_bool (fin_bl I q (by simp))
    | int j => obtain ⟨t', rfl⟩ := ry; exact PySem.EqMixed.eq_str_int (fin_bl I q (by simp))
    | str j => obtain ⟨t', rfl⟩ := ry; exact eq_str (fin_bl I q dec_str)
    | _ => exact absurd (show false = true from hs) Bool.false_ne_true
  | byt i =>
    obtain ⟨t, rfl⟩ := rx
    cases y with
    | byt j => obtain ⟨t', rfl⟩ := ry; exact PySem.W.eq_bytes (fin_bl I q dec_byt)
    | _ => exact absurd (show false = true from hs) Bool.false_ne_true
  | _ => cases y <;> exact absurd (show false = true from hs) Bool.false_ne_true
theorem op_ne : OpR X (compareOp .NotEq) rNe := by
  intro pins s σ H x y v u Q I rx ry h
  obtain ⟨hs, q⟩ := h
  cases x with
  | non =>
    cases rx
    cases y with
    | non => cases ry; exact PySem.EqNone.ne_none_none (fin_bl I q (by simp))
    | bl j => cases ry; exact PySem.EqNone.ne_none_bool (fin_bl I q (by simp))
    | int j => obtain ⟨t', rfl⟩ := ry; exact PySem.EqNone.ne_none_int (fin_bl I q (by simp))
    | str j => obtain ⟨t', rfl⟩ := ry; exact PySem.EqNone.ne_none_str (fin_bl I q (by simp))
    | _ => exact absurd (show false = true from hs) Bool.false_ne_true
  | bl i =>
    cases rx
    cases y with
    | non => cases ry; exact PySem.EqNone.ne_bool_none (fin_bl I q (by simp))
    | bl j => cases ry; exact ne_bool (fin_bl I q (congrArg not dec_bl))
    | str j => obtain ⟨t', rfl⟩ := ry; exact PySem.EqMixed.ne_bool_str (fin_bl I q (by simp))
    | _ => exact absurd (show false = true from hs) Bool.false_ne_true
  | int i =>
    obtain ⟨t, rfl⟩ := rx
    cases y with
    | non => cases ry; exact PySem.EqNone.ne_int_none (fin_bl I q (by simp))
    | int j => obtain ⟨t', rfl⟩ := ry; exact ne_int (fin_bl I q (congrArg not dec_int))
    | str j => obtain ⟨t', rfl⟩ := ry; exact PySem.EqMixed.ne_int_str (fin_bl I q (by simp))
    | _ => exact absurd (show false = true from hs) Bool.false_ne_true
  | str i =>
    obtain ⟨t, rfl⟩ := rx
    cases y with
    | non => cases ry; exact PySem.EqNone.ne_str_none (fin_bl I q (by simp))
    | bl j => cases ry; exact PySem.EqMixed.ne_str_bool (fin_bl I q (by simp))
    | int j => obtain ⟨t', rfl⟩ := ry; exact PySem.EqMixed.ne_str_int (fin_bl I q (by simp))
    | str j => obtain ⟨t', rfl⟩ := ry; exact ne_str (fin_bl I q (congrArg not dec_str))
    | _ => exact absurd (show false = true from hs) Bool.false_ne_true
  | byt i =>
    obtain ⟨t, rfl⟩ := rx
    cases y with
    | byt j => obtain ⟨t', rfl⟩ := ry; exact PySem.W.ne_bytes (fin_bl I q (congrArg not dec_byt))
    | _ => exact absurd (show false = true from hs) Bool.false_ne_true
  | _ => cases y <;> exact absurd (show false = true from hs) Bool.false_ne_true

theorem op_lt : OpR X (compareOp .Lt) (rI0 fun i j => .bl (decide (i < j))) := opB0 fun _ _ _ _ _ _ _ q => lt_int q
theorem op_gt : OpR X (compareOp .Gt) (rI0 fun i j => .bl (decide (j < i))) := opB0 fun _ _ _ _ _ _ _ q => gt_int q
theorem nomark (b : Expr) {op : CmpOp} (h : op ≠ .In := by decide) (h2 : op ≠ .NotIn := by decide) : behindInMarks op b = false := by
  have e1 : (op == CmpOp.In) = false := by cases op <;> first | rfl | exact absurd rfl h
  have e2 : (op == CmpOp.NotIn) = false := by cases op <;> first | rfl | exact absurd rfl h2
  cases b <;> simp [behindInMarks, e1, e2]
/-- a comparison as a value; hm: nomark b, or (for in, not in) by with_unfolding_all rfl -/
theorem pe_cmpR {op : CmpOp} {r : R2} (ho : OpR X (compareOp op) r) (ha : PE X a ta) (hb : PE X b tb) (hm : behindInMarks op b = false) : PE X (.Compare a [op] [b] pos) (tOp r ta tb) := by
  intro pins s σ H Q I h
  exact wpAny_Compare1 (binT ha hb I h fun v u s2 x y H2 I2 rx ry q => ho pins s2 σ H2 x y v u Q I2 rx ry q) hm
/-- a reading of a value as a test -/
def tTest (t : TE) : TT := fun σ H Q => t σ H fun x H' => ∃ k, x = .bl k ∧ Q k H'
theorem pt_cmpR {op : CmpOp} {r : R2} (ho : OpR X (compareOp op) r) (ha : PE X a ta) (hb : PE X b tb) (hm : behindInMarks op b = false) : PT X (.Compare a [op] [b] pos) (tTest (tOp r ta tb)) := by
  intro pins s σ H Q I h
  refine wpAny_isTrue_Compare1 (thn (ha pins s σ H _ I h) fun v s1 ⟨x, H1, I1, r1, q1⟩ => thn (hb pins s1 σ H1 _ I1 q1) fun u s2 ⟨y, H2, I2, r2, q2⟩ =>
    thn (ho pins s2 σ H2 x y v u _ I2 r1 r2 q2) fun c s3 ⟨z, H3, I3, r3, k, e, q3⟩ => ?_) hm
  subst e
  cases r3
  exact wpAny_truthy_bool ⟨H3, I3, q3⟩
theorem line63 : (sizeLine : Nat) < 2 ^ 63 := by rw [sizeLine_eq]; decide
theorem vals1 {x : V} {us : List Value} (r : Vals [x] us) : ∃ u, us = [u] ∧ RelV x u := by
  cases r with
  | cons r1 r2 => cases r2; exact ⟨_, rfl, r1⟩
end
end L2

namespace L2
open PySem PySem.Spec PyProof.Rows

structure ObjM (h : Heap) (x dx C : Addr) (mA : Str → Option Value) : Prop where
  obj : h.get? x = some (PySem.W.instObj C dx)
  ns : h.Ns1 dx mA
  ne : dx ≠ x

theorem lookIn_ns {h : Heap} {dx : Addr} {mA : Str → Option Value} (n : h.Ns1 dx mA) : ∃ od, h.get? dx = some od ∧ ∀ name, PySem.W.lookIn name od = some (mA name) := by
  obtain ⟨o, es, ep, ho, hd, hk, _, hm⟩ := n
  refine ⟨o, ho, fun name => ?_⟩
  have e := hm name
  unfold nsFind findBy at e
  rw [← Array.find?_toList] at e
  unfold PySem.W.lookIn
  rw [hd]
  dsimp only
  split
  · rename_i y q
    rw [q] at e
    exact congrArg some e
  · rename_i q
    rw [q] at e
    have a : es.toList.any (·.refKey) = false := by
      rw [List.any_eq_false]
      intro y hy
      obtain ⟨z, t, hkey⟩ := hk y (Array.mem_toList_iff.mp hy)
      simp [DictEntry.refKey, hkey]
    have a' : ¬ es.toList.any (·.refKey) = true := by rw [a]; exact Bool.false_ne_true
    rw [if_neg a']
    exact congrArg some e

theorem ObjM.look {h : Heap} {x dx C : Addr} {mA : Str → Option Value} (I : ObjM h x dx C mA) : ∃ od, PySem.W.InstAt h x (PySem.W.instObj C dx) C (some od) ∧ ∀ name, PySem.W.lookIn name od = some (mA name) :=
  let ⟨od, ho, hl⟩ := lookIn_ns I.ns
  ⟨od, ⟨I.obj, rfl, rfl, ho⟩, hl⟩

section
variable {prog : Program} {w : World} {A : Around} {E : Value → Shared → Prop} {s : Shared} {K : PySem.W.Frag} {x dx C f : Addr} {mA : Str → Option Value} {name : Str} {v : Value}

theorem get_map {expr : Bool} {Q : Value → Shared → Prop} (X : K.In s.heap) (I : ObjM s.heap x dx C mA) (hg : PySem.W.plainGet K C name = true) (hh : PySem.W.hasDictIn K C = true)
    (ha : PySem.W.findIn K (.ref C) name = some none) (hv : mA name = some v) (hv' : PySem.W.handedIn v = true) (h : Q v { s with toks := s.toks + 1 }) :
    wpAny (model prog w) A (getAttr (.ref x) name expr) Q E s := by
  obtain ⟨od, J, hl⟩ := I.look
  exact PySem.W.get_value X J (PySem.W.plainGet_of hg).1 (PySem.W.findObj_own hh ha rfl (by rw [hl, hv])) hv' h

theorem get_meth {pl : Sem Bool} {Q : Value × List Value → Shared → Prop} (X : K.In s.heap) (I : ObjM s.heap x dx C mA) (hg : PySem.W.plainGet K C name = true)
    (hf : PySem.W.findIn K (.ref C) name = some (some (.ref f))) (ht : PySem.W.isFn K (.ref f) = true) (hv : mA name = none) (h : Q (.ref f, [.ref x]) s) :
    wpAny (model prog w) A (getMethod (.ref x) name pl) Q E s := by
  obtain ⟨od, J, hl⟩ := I.look
  exact PySem.W.method_fn X J (PySem.W.plainGet_of hg).1 (PySem.W.plainGet_of hg).2 hf (beq_iff_eq.mp ht) (by show (PySem.W.lookIn name od).map (·.isSome) = some false; rw [hl, hv]; rfl) h

theorem set_map {ns : List Str} {Q : Unit → Shared → Prop} (X : K.In s.heap) (I : ObjM s.heap x dx C mA)
    (hs : PySem.W.findIn K (.ref C) "__setattr__" = some (some (.builtin "object.__setattr__"))) (hp : PySem.W.plainOver K C = true) (ht : PySem.W.takerIn K C name = some none) (hh : PySem.W.hasDictIn K C = true)
    (hw : PySem.Within mA ns) (hsz : ns.length ≤ sizeLine)
    (h : ∀ h', ObjM h' x dx C (fun y => if y = name then some v else mA y) → Heap.SameBut dx s.heap h' → Q () { s with heap := h', toks := s.toks + 2 }) :
    wpAny (model prog w) A (setAttr (.ref x) name v) Q E s := by
  obtain ⟨od, J, hl⟩ := I.look
  refine PySem.W.set_plain X J hs (PySem.W.osa_open (s := { s with toks := s.toks + 1 }) (r := none) X J hp ht fun b => ?_)
  obtain ⟨cd, hc, hd'⟩ := PySem.W.any_some hh
  have hx : s.heap.get? x = some ⟨.ref C, some dx, .plain, #[]⟩ := I.obj
  refine wpAny_bind (wpAny_pure (wpAny_bind (wpAny_bind (wpAny_loadPart hx (wpAny_bind (PySem.W.Looks.here (s := { s with toks := s.toks + 1 }) (PySem.W.looks_clsIn X hc) ?_))))))
  rw [hd']
  refine wpAny_pure (a := some dx) (wpAny_bind (wpAny_pure (wpAny_bind ?_)))
  refine wpAny_nsSet1 (s := { s with toks := s.toks + 1 }) I.ns fun h' hn2 hs2 => ?_
  obtain ⟨oD, esD, epD, hoD, hdD, hcD⟩ := hn2.count (PySem.Within.cons name v hw)
  refine wpAny_bind (wpAny_lookBehind hoD (by rw [hdD]; exact pastItsLine_dict (Nat.le_trans hcD (by rw [List.length_cons]; omega))) ?_)
  exact wpAny_pure (h _ ⟨(hs2.2 _ (Ne.symm I.ne)).trans I.obj, hn2, I.ne⟩ hs2)

/-- C(..): the dict at the heap's end, the instance behind it; then its __init__ -/
theorem make_map {R : Result → Shared → Prop} {vs : List Value} {kw : List (Str × Value)} (X : K.In s.heap) (hm : PySem.W.makesIn K C = true)
    (hi : PySem.W.findIn K (.ref C) "__init__" = some (some (.ref f))) (hf : PySem.W.typeIn K (.ref f) = some (.type "function"))
    (h : codeAny (model prog w) (A.under (.builtin "type.__call__" ⟨.ref C :: vs, kw⟩)) (.call (.ref f) ⟨.ref (s.heap.objs.size + 1) :: vs, kw⟩) (PySem.W.InitBack (s.heap.objs.size + 1) R)
      { s with heap := (s.heap.push PySem.W.emptyDict).push (PySem.W.instObj C s.heap.objs.size) }) :
    codeAny (model prog w) A (.call (.ref C) ⟨vs, kw⟩) R s := by
  obtain ⟨hh, g, d, t, os⟩ := s
  exact PySem.W.make_core (PySem.W.makes_of X hm) (PySem.W.looks_findIn X hi) (fun self => PySem.W.bind_fn X self hf) (.inl rfl) h
end

def putF (f : Str) (v : V) : List (Str × V) → List (Str × V)
  | [] => [(f, v)]
  | (g, x) :: r => if g = f then (g, v) :: r else (g, x) :: putF f v r
theorem lookup_putF (f g : Str) (v : V) : ∀ fs : List (Str × V), (putF f v fs).lookup g = if g = f then some v else fs.lookup g
  | [] => by
    show List.lookup g [(f, v)] = _
    by_cases h : g = f
    · have hb : (g == f) = true := beq_iff_eq.mpr h
      simp only [List.lookup, hb, if_pos h]
    · have hb : (g == f) = false := beq_eq_false_iff_ne.mpr h
      simp only [List.lookup, hb, if_neg h]
  | (k, x) :: r => by
    have ih := lookup_putF f g v r
    rw [show putF f v ((k, x) :: r) = (if k = f then (k, v) :: r else (k, x) :: putF f v r) from rfl]
    by_cases hk : k = f
    · rw [if_pos hk]
      by_cases h : g = k
      · have hb : (g == k) = true := beq_iff_eq.mpr h
        simp only [List.lookup, hb, if_pos (h.trans hk)]
      · have hb : (g == k) = false := beq_eq_false_iff_ne.mpr h
        simp only [List.lookup, hb, if_neg (fun e : g = f => h (e.trans hk.symm))]
    · rw [if_neg hk]
      by_cases h : g = k
      · have hb : (g == k) = true := beq_iff_eq.mpr h
        simp only [List.lookup, hb, if_neg (fun e : g = f => hk (h.symm.trans e))]
      · have hb : (g == k) = false := beq_eq_false_iff_ne.mpr h
        simp only [List.lookup, hb]
        exact ih
theorem keys_putF (f : Str) (v : V) : ∀ fs : List (Str × V), f ∈ (putF f v fs).map (·.1) ∧ ∀ g, g ∈ fs.map (·.1) → g ∈ (putF f v fs).map (·.1)
  | [] => ⟨by simp [putF], fun g h => by simp at h⟩
  | (k, x) :: r => by
    obtain ⟨i1, i2⟩ := keys_putF f v r
    rw [show putF f v ((k, x) :: r) = (if k = f then (k, v) :: r else (k, x) :: putF f v r) from rfl]
    by_cases hk : k = f
    · rw [if_pos hk]
      subst hk
      exact ⟨by simp, fun g h => by simpa using h⟩
    · rw [if_neg hk]
      refine ⟨?_, fun g h => ?_⟩
      · rw [List.map_cons]
        exact List.mem_cons_of_mem _ i1
      · rw [List.map_cons] at h ⊢
        rcases List.mem_cons.mp h with e | e
        · exact List.mem_cons.mpr (.inl e)
        · exact List.mem_cons_of_mem _ (i2 g e)
theorem length_putF (f : Str) (v : V) : ∀ fs : List (Str × V), (putF f v fs).length ≤ fs.length + 1
  | [] => by simp [putF]
  | (k, x) :: r => by
    have ih := length_putF f v r
    rw [show putF f v ((k, x) :: r) = (if k = f then (k, v) :: r else (k, x) :: putF f v r) from rfl]
    by_cases hk : k = f
    · rw [if_pos hk, List.length_cons, List.length_cons]; omega
    · rw [if_neg hk, List.length_cons, List.length_cons]; omega

theorem RelO.some_of {v : V} {o : Option Value} (r : RelO (some v) o) : ∃ u, o = some u ∧ RelV v u := by
  cases o with
  | none => exact (show False from r).elim
  | some u => exact ⟨u, rfl, r⟩
theorem RelO.none_of {o : Option Value} (r : RelO none o) : o = none := by
  cases o with
  | none => rfl
  | some u => exact (show False from r).elim
theorem handed_of {v : V} {u : Value} (r : RelV v u) : PySem.W.handedIn u = true := by
  cases v with
  | non => cases (show u = Value.none from r); rfl
  | bl b => cases (show u = Value.bool b from r); rfl
  | int i => obtain ⟨t, e⟩ := (show ∃ t, u = Value.int i t from r); cases e; rfl
  | str x => obtain ⟨t, e⟩ := (show ∃ t, u = Value.str x t from r); cases e; rfl
  | byt b => obtain ⟨t, e⟩ := (show ∃ t, u = Value.bytes b t from r); cases e; rfl
  | flt b => obtain ⟨t, e⟩ := (show ∃ t, u = Value.float b t from r); cases e; rfl
  | ref a => cases (show u = Value.ref a from r); rfl
  | ty n => cases (show u = Value.type n from r); rfl

section
variable {P : Program} {w : World} {H H' : Hp} {h h' : Heap} {a C dx : Addr} {fs fs' : List (Str × V)}
theorem ins_get (hok : HOk P w H h) (e : H a = some (.ins C dx fs)) : ∃ mA, ObjM h a dx C mA ∧ (∀ f, RelO (fs.lookup f) (mA f)) ∧ PySem.Within mA (fs.map (·.1)) ∧ fs.length ≤ 1000 ∧ H dx = some (.own a) := by
  obtain ⟨d, z, ne, ob, mA, n, r, q⟩ := (show ObjOk P w H h a (.ins C dx fs) from hok a _ e)
  exact ⟨mA, ⟨ob, n, ne⟩, r, q, z, d⟩
end

structure Cls (K : PySem.W.Frag) (C : Addr) : Prop where
  pg : PySem.W.plainGet K C Str.empty = true
  hd : PySem.W.hasDictIn K C = true
  po : PySem.W.plainOver K C = true
  sa : PySem.W.findIn K (.ref C) "__setattr__" = some (some (.builtin "object.__setattr__"))
theorem Cls.get {K : PySem.W.Frag} {C : Addr} (c : Cls K C) (f : Str) : PySem.W.plainGet K C f = true := c.pg
/-- no class of it has the name -/
def NoAttr (K : PySem.W.Frag) (C : Addr) (f : Str) : Prop := PySem.W.findIn K (.ref C) f = some none
theorem NoAttr.taker {K : PySem.W.Frag} {C : Addr} {f : Str} (n : NoAttr K C f) : PySem.W.takerIn K C f = some none := by
  unfold PySem.W.takerIn
  rw [show PySem.W.findIn K (.ref C) f = some none from n]
  rfl
/-- a method: a plain def of the class or of one above it -/
structure Meth (K : PySem.W.Frag) (C : Addr) (m : Str) (f : Addr) : Prop where
  at_ : PySem.W.findIn K (.ref C) m = some (some (.ref f))
  fn : PySem.W.isFn K (.ref f) = true
  kp : PySem.W.keepIn K (.ref f) = true

section
variable {X : Cx} {pins : List (Addr × Obj)} {σ : St} {H : Hp} {s : Shared} {a C dx : Addr} {fs : List (Str × V)} {f : Str} {v : V} {A : Around} {E : Value → Shared → Prop}

theorem getattr_ok {b : Bool} {Q : Value → Shared → Prop} (I : Inv X pins σ H s) (e : H a = some (.ins C dx fs)) (c : Cls X.K C) (n : NoAttr X.K C f) (l : fs.lookup f = some v)
    (h : ∀ u s', Inv X pins σ H s' → RelV v u → Q u s') : wpAny (model X.prog X.w) A (getAttr (.ref a) f b) Q E s := by
  obtain ⟨mA, O, r, _, _, _⟩ := ins_get I.hok e
  obtain ⟨u, hu, ru⟩ := RelO.some_of (v := v) (o := mA f) (by rw [← l]; exact r f)
  exact get_map I.kIn O (c.get f) c.hd n hu (handed_of ru) (h u _ (I.tok _) ru)

theorem getmeth_ok {m : Str} {g : Addr} {pl : Sem Bool} {Q : Value × List Value → Shared → Prop} (I : Inv X pins σ H s) (e : H a = some (.ins C dx fs)) (c : Cls X.K C) (k : Meth X.K C m g) (l : fs.lookup m = none)
    (h : Q (.ref g, [.ref a]) s) : wpAny (model X.prog X.w) A (getMethod (.ref a) m pl) Q E s := by
  obtain ⟨mA, O, r, _, _, _⟩ := ins_get I.hok e
  have hn : mA m = none := RelO.none_of (by rw [← l]; exact r m)
  exact get_meth I.kIn O (c.get m) k.at_ k.fn hn h

theorem setattr_ok {y : V} {u : Value} {Q : Unit → Shared → Prop} (I : Inv X pins σ H s) (e : H a = some (.ins C dx fs)) (c : Cls X.K C) (n : NoAttr X.K C f) (hl : fs.length < 1000) (ry : RelV y u)
    (h : ∀ s', Inv X pins σ (upd H a (.ins C dx (putF f y fs))) s' → Q () s') : wpAny (model X.prog X.w) A (setAttr (.ref a) f u) Q E s := by
  obtain ⟨mA, O, r, wi, _, ho⟩ := ins_get I.hok e
  have hz : (fs.map (·.1)).length ≤ sizeLine := by rw [List.length_map, sizeLine_eq]; omega
  refine set_map I.kIn O c.sa c.po n.taker c.hd wi hz fun h' O' sb => h _ ?_
  have hd : ∃ o, h'.get? dx = some o := let ⟨o, _, _, e', _⟩ := O'.ns; ⟨o, e'⟩
  refine I.write (x := a) (e := dx) (by rw [e]; exact True.intro) (.inr ho) (fun b q hb z => (sb.2 b hb).trans z) hd ?_
  refine ⟨by rw [upd_ne O.ne]; exact ho, ?_, O.ne, O'.obj, _, O'.ns, fun g => ?_, fun g hg => ?_⟩
  · have := length_putF f y fs; omega
  · show RelO ((putF f y fs).lookup g) (if g = f then some u else mA g)
    rw [lookup_putF]
    by_cases q : g = f
    · rw [if_pos q, if_pos q]; exact ry
    · rw [if_neg q, if_neg q]; exact r g
  · by_cases q : g = f
    · rw [q]; exact (keys_putF f y fs).1
    · refine (keys_putF f y fs).2 g (wi g fun z => hg ?_)
      show (if g = f then some u else mA g) = none
      rw [if_neg q]; exact z

/-- a new instance, tracked, without attributes -/
theorem Inv.made (I : Inv X pins σ H s) : Inv X pins σ (upd (upd H s.heap.objs.size (.own (s.heap.objs.size + 1))) (s.heap.objs.size + 1) (.ins C s.heap.objs.size []))
    { s with heap := (s.heap.push PySem.W.emptyDict).push (PySem.W.instObj C s.heap.objs.size) } := by
  have e1 : (s.heap.push PySem.W.emptyDict).get? s.heap.objs.size = some PySem.W.emptyDict := Heap.get?_push_size s.heap rfl
  have e2 : ((s.heap.push PySem.W.emptyDict).push (PySem.W.instObj C s.heap.objs.size)).get? (s.heap.objs.size + 1) = some (PySem.W.instObj C s.heap.objs.size) := by
    have := Heap.get?_push_size (s.heap.push PySem.W.emptyDict) (o := PySem.W.instObj C s.heap.objs.size) rfl
    rwa [Heap.size_push] at this
  have e3 : (s.heap.push PySem.W.emptyDict).Ns s.heap.objs.size (fun _ => none) := ⟨PySem.W.emptyDict, #[], _, e1, rfl, (fun e he => absurd he (by simp)), fun _ => rfl⟩
  have I1 := I.laid (a := s.heap.objs.size) (o := .own (s.heap.objs.size + 1)) (h' := s.heap.push PySem.W.emptyDict) (t' := s.toks) (fun b u q => Heap.get?_push_of_some _ q) (Nat.le_refl _) ⟨_, e1⟩
  refine I1.laid (a := s.heap.objs.size + 1) (o := .ins C s.heap.objs.size []) (t' := s.toks) (fun b u q => Heap.get?_push_of_some _ q) (Nat.le_of_eq (Heap.size_push _ _)) ?_
  have ne : s.heap.objs.size ≠ s.heap.objs.size + 1 := Nat.ne_of_lt (Nat.lt_succ_self _)
  refine ⟨by rw [upd_ne ne, upd_same], Nat.zero_le _, ne, e2, fun _ => none, (Heap.Ns1.of_empty e3).at fun o q => Heap.get?_push_of_some _ q, fun _ => True.intro, fun y hy => absurd rfl hy⟩

/-- e.f where nothing but the object is asked: through attributeBase (super) and the last hold -/
theorem attr_of {prog : Program} {w : World} {env : Env} {e : Expr} {f : Str} {pos : Pos} {s : Shared} {Q : Value → Shared → Prop} (hb : attributeBase e f env (eval e env) = eval e env)
    (h : wpAny (model prog w) A (eval e env) (fun o s₁ => wpAny (model prog w) A (getAttr o f true) Q E s₁) E s) : wpAny (model prog w) A (eval (.Attribute e f pos) env) Q E s :=
  Attribute_any_ h (by rw [arm_eval_Attribute, hb])
end

/-- e.f, an attribute of the instance -/
def tFld (K : PySem.W.Frag) (ta : TE) (f : Str) : TE := fun σ H Q => ta σ H fun x H1 => ∃ a C dx fs v, x = .ref a ∧ H1 a = some (.ins C dx fs) ∧ Cls K C ∧ NoAttr K C f ∧ fs.lookup f = some v ∧ Q v H1
/-- e.f = value -/
def sFld (K : PySem.W.Frag) (ta tv : TE) (f : Str) : TS := fun D σ H => tv σ H fun y H1 => ta σ H1 fun x H2 => ∃ a C dx fs, x = .ref a ∧ H2 a = some (.ins C dx fs) ∧ Cls K C ∧ NoAttr K C f ∧ fs.length < 1000 ∧
  D.nx σ (upd H2 a (.ins C dx (putF f y fs)))
section
variable {X : Cx} {o e value : Expr} {f : Str} {pos pos' tpos : Pos} {ta tv : TE}
theorem pe_fld (he : PE X e ta) (hb : attributeBase e f X.env (eval e X.env) = eval e X.env) : PE X (.Attribute e f pos) (tFld X.K ta f) := by
  intro pins s σ H Q I h
  refine attr_of hb (thn (he pins s σ H _ I h) fun u s1 ⟨x, H1, I1, rx, a, C, dx, fs, v, ex, ea, c, n, l, q⟩ => ?_)
  subst ex
  obtain rfl : u = Value.ref a := rx
  exact getattr_ok I1 ea c n l fun u' s2 I2 ru => ⟨v, H1, I2, ru, q⟩
theorem ps_fld (ha : PE X o ta) (hv : PE X value tv) (hs : swapsWith value (some (.Attribute o f pos')) pos.line X.env = pure false) : PS X (.Assign [.Attribute o f pos'] value pos) (sFld X.K ta tv f) := by
  intro pins s σ H D I h
  refine plainObj_wpAny_Assign_Attribute (thn (hv pins s σ H _ I h) fun u s1 ⟨y, H1, I1, ry, q⟩ => thn (ha pins s1 σ H1 _ I1 q) fun ov s2 ⟨x, H2, I2, rx, a, C, dx, fs, ex, ea, c, n, l, q2⟩ => ?_) hs
  subst ex
  obtain rfl : ov = Value.ref a := rx
  exact setattr_ok I2 ea c n l ry fun s3 I3 => ⟨σ, _, I3, q2⟩
end

section
variable {X : Cx} {pins : List (Addr × Obj)} {σ : St} {H : Hp} {s : Shared} {A : Around} {E : Value → Shared → Prop} {Q : Value → Shared → Prop} {c : Value} {b : Bool}
/-- the type of a value, as the fragment's deciders take it; for an instance its class -/
inductive TyOf (K : PySem.W.Frag) (H : Hp) : V → Value → Prop where
  | non : TyOf K H .non (.type "NoneType")
  | bl (x : Bool) : TyOf K H (.bl x) (.type "bool")
  | int (i : Int) : TyOf K H (.int i) (.type "int")
  | str (x : Str) : TyOf K H (.str x) (.type "str")
  | flt (x : UInt64) : TyOf K H (.flt x) (.type "float")
  | lst {a : Addr} {xs : List V} (e : H a = some (.lst xs)) : TyOf K H (.ref a) (.type "list")
  | frz {a : Addr} {o : Obj} {xs : List V} (e : H a = some (.frz o (.lst xs))) : TyOf K H (.ref a) (.type "list")
  | tup {a : Addr} {xs : List V} (e : H a = some (.tup xs)) : TyOf K H (.ref a) (.type "tuple")
  | dK {a : Addr} {kvs : List (Key × V)} (e : H a = some (.dK kvs)) : TyOf K H (.ref a) (.type "dict")
  | dT {a : Addr} {kvs : List (List Key × V)} (e : H a = some (.dT kvs)) : TyOf K H (.ref a) (.type "dict")
  | ins {a C dx : Addr} {fs : List (Str × V)} (e : H a = some (.ins C dx fs)) (cl : Cls K C) (ha : PySem.W.findIn K (.ref C) "__class__" = some (some (.builtin "object.__class__")))
      (hn : PySem.W.specialIn K (.builtin "object.__class__") "__get__" = some (some (.builtin "getset_descriptor.__get__"))) (htk : PySem.W.takesIn K (.builtin "object.__class__") = some true)
      (hm : PySem.W.mroIn K C (.type "object") = some true) : TyOf K H (.ref a) (.ref C)
/-- isinstance(x, c) for one class c, a built-in or an own one: kitOne's answer -/
theorem isinst_ok {x : V} {u t : Value} (I : Inv X pins σ H s) (rx : RelV x u) (ty : TyOf X.K H x t) (e : PySem.W.kitOne X.K t c = some b) (h : ∀ tk, Q (.bool b) { s with toks := tk }) :
    wpAny (model X.prog X.w) A (call (.builtin "isinstance") [u, c]) Q E s := by
  cases ty with
  | non => cases (show u = Value.none from rx); exact PySem.W.kia_one PySem.W.kitx_none I.kIn True.intro e (fun z => nomatch z) h
  | bl y => cases (show u = Value.bool y from rx); exact PySem.W.kia_one PySem.W.kitx_bool I.kIn True.intro e (fun z => nomatch z) h
  | int i => obtain ⟨t, q⟩ := (show ∃ t, u = Value.int i t from rx); cases q; exact PySem.W.kia_one PySem.W.kitx_int I.kIn True.intro e (fun z => nomatch z) h
  | str y => obtain ⟨t, q⟩ := (show ∃ t, u = Value.str y t from rx); cases q; exact PySem.W.kia_one PySem.W.kitx_str I.kIn True.intro e (fun z => nomatch z) h
  | flt y => obtain ⟨t, q⟩ := (show ∃ t, u = Value.float y t from rx); cases q; exact PySem.W.kia_one PySem.W.kitx_float I.kIn True.intro e (fun z => nomatch z) h
  | @lst a xs ea =>
    cases (show u = Value.ref a from rx)
    obtain ⟨_, _, n, _, h1⟩ := (show ObjOk X.prog X.w H s.heap a (.lst xs) from I.hok a _ ea)
    exact PySem.W.kia_one PySem.W.kitx_list I.kIn ⟨_, h1, rfl⟩ e (fun z => nomatch z) h
  | @frz a ob xs ea =>
    cases (show u = Value.ref a from rx)
    obtain ⟨_, _, _, n, _, h1⟩ := (show ObjOk X.prog X.w H s.heap a (.frz ob (.lst xs)) from I.hok a _ ea)
    exact PySem.W.kia_one PySem.W.kitx_list I.kIn ⟨_, h1, rfl⟩ e (fun z => nomatch z) h
  | @tup a xs ea =>
    cases (show u = Value.ref a from rx)
    obtain ⟨_, _, _, p⟩ := (show ObjOk X.prog X.w H s.heap a (.tup xs) from I.hok a _ ea)
    obtain ⟨o, h1, h2, _⟩ := p
    exact PySem.W.kia_one PySem.W.kitx_tuple I.kIn ⟨o, h1, h2⟩ e (fun z => nomatch z) h
  | @dK a kvs ea =>
    cases (show u = Value.ref a from rx)
    obtain ⟨_, _, vs, _, p⟩ := (show ObjOk X.prog X.w H s.heap a (.dK kvs) from I.hok a _ ea)
    obtain ⟨o, es, ep, h1, h2, _⟩ := p
    exact PySem.W.kia_one PySem.W.kitx_dict I.kIn ⟨o, h1, h2.1⟩ e (fun z => nomatch z) h
  | @dT a kvs ea =>
    cases (show u = Value.ref a from rx)
    obtain ⟨_, _, xs, _, o, es, ep, h1, h2, _⟩ := (show ObjOk X.prog X.w H s.heap a (.dT kvs) from I.hok a _ ea)
    exact PySem.W.kia_one PySem.W.kitx_dict I.kIn ⟨o, h1, h2.1⟩ e (fun z => nomatch z) h
  | @ins a C dx fs ea cl ha hn htk hm =>
    cases (show u = Value.ref a from rx)
    obtain ⟨mA, O, _⟩ := ins_get I.hok ea
    obtain ⟨od, J, _⟩ := O.look
    exact PySem.W.kia_one (PySem.W.kitx_own (cl.get _) cl.hd ha hn htk hm) I.kIn J e (fun z => nomatch z) h
end
end L2

namespace L2
open PySem PySem.Spec PyProof.Rows

structure Room (k : Nat) (A : Around) : Prop where
  hd : A.handled = none
  dp : A.depth + 3 * k + 5 < recursionLimit
  un : A.units + 16 * k + 200 < cLine
theorem Room.mono {j k : Nat} {A : Around} (r : Room k A) (h : j ≤ k) : Room j A := ⟨r.hd, by have := r.dp; omega, by have := r.un; omega⟩
theorem Room.deeper {k : Nat} {A : Around} (r : Room (k + 1) A) (env : Env) : Room k (A.deeper env) :=
  ⟨r.hd, by have := r.dp; show A.depth + 1 + 3 * k + 5 < _; omega, by have := r.un; show A.units + 3 + 16 * k + 200 < _; omega⟩
theorem Room.in1 {k : Nat} {A : Around} (r : Room (k + 1) A) : Room k A.in1 :=
  ⟨r.hd, by have := r.dp; show A.depth + 3 * k + 5 < _; omega, by have := r.un; show A.units + 1 + 16 * k + 200 < _; omega⟩
theorem make_depth {A : Around} {C : Addr} {us : List Value} {kw : List (Str × Value)} : (A.under (.builtin "type.__call__" ⟨.ref C :: us, kw⟩)).depth = A.depth + 1 := by
  first | rfl | simp [Around.under, Code.weight, Code.isCreation, Code.isGuard, Code.isCaller, Code.frames, Code.isFrame, guardIds]
theorem make_units {A : Around} {C : Addr} {us : List Value} {kw : List (Str × Value)} : (A.under (.builtin "type.__call__" ⟨.ref C :: us, kw⟩)).units = A.units + 1 := by
  first | rfl | simp [Around.under, Code.cUnits, Code.frames, Code.isFrame]
theorem Room.make {k : Nat} {A : Around} (r : Room (k + 1) A) (C : Addr) (us : List Value) (kw : List (Str × Value)) : Room k (A.under (.builtin "type.__call__" ⟨.ref C :: us, kw⟩)) :=
  ⟨r.hd, by have := r.dp; rw [make_depth]; omega, by have := r.un; rw [make_units]; omega⟩
theorem Room.depth {k : Nat} {A : Around} (r : Room k A) : A.depth < recursionLimit := by have := r.dp; omega
theorem Room.units {k : Nat} {A : Around} (r : Room k A) : A.units + 64 < cLine := by have := r.un; omega
def tNil : TA := fun _ H Q => Q [] H
def tCons (ta : TE) (tr : TA) : TA := fun σ H Q => ta σ H fun x H1 => tr σ H1 fun xs H2 => Q (x :: xs) H2
section
variable {X : Cx} {e : Expr} {es : List Expr} {te : TE} {t : TA} {pos : Pos}
theorem pa_nil : PA X [] tNil := fun _ _ _ _ H Q I h => Calls.spliced_nil ⟨[], H, I, .nil, h⟩
theorem pa_cons (ha : PE X e te) (hr : PA X es t) (hs : starEach (e :: es) X.env = (false, eval e X.env) :: starEach es X.env := by rfl) : PA X (e :: es) (tCons te t) := by
  intro pos pins s σ H Q I h
  rw [hs]
  show wpAny _ _ (spliced ((false, eval e X.env) :: backTo pos (starEach es X.env))) _ _ s
  refine Calls.spliced_cons (thn (ha pins s σ H _ I h) fun u s1 ⟨x, H1, I1, r1, q1⟩ => ?_)
  exact thn (hr pos pins s1 σ H1 _ I1 q1) fun us s2 ⟨xs, H2, I2, r2, q2⟩ => ⟨x :: xs, H2, I2, .cons r1 r2, q2⟩

/-- a tuple, a list of written items -/
def tTup (t : TA) : TE := fun σ H Q => t σ H fun xs H1 => xs.length ≤ sizeLine ∧ ∀ p, H1 p = none → Q (.ref p) (upd H1 p (.tup xs))
def tLst (t : TA) : TE := fun σ H Q => t σ H fun xs H1 => xs.length ≤ sizeLine ∧ ∀ p, H1 p = none → Q (.ref p) (upd H1 p (.lst xs))
theorem pe_tup {x1} (h : PA X es t) : PE X (.Tuple es x1 pos) (tTup t) := by
  intro pins s σ H Q I hq
  refine wpAny_Tuple_spliced (thn (h pos pins s σ H _ I hq) fun us s1 ⟨xs, H1, I1, r, z, q⟩ => ⟨by rw [← r.length]; exact z, ?_⟩)
  have hf : H1 s1.heap.objs.size = none := I1.hok.fresh (Nat.le_refl _)
  refine ⟨.ref s1.heap.objs.size, upd H1 s1.heap.objs.size (.tup xs), I1.laid (t' := s1.toks) (fun b u e => Heap.get?_push_of_some _ e) (Nat.le_refl _) ?_, rfl, q _ hf⟩
  exact ⟨z, us, r, ⟨_, Heap.get?_push_size _ rfl, rfl, _, rfl⟩⟩
theorem pe_lst (h : PA X es t) : PE X (.List es pos) (tLst t) := by
  intro pins s σ H Q I hq
  refine wpAny_List_spliced (thn (h pos pins s σ H _ I hq) fun us s1 ⟨xs, H1, I1, r, z, q⟩ => ⟨by rw [← r.length]; exact z, ?_⟩)
  have hf : H1 s1.heap.objs.size = none := I1.hok.fresh (Nat.le_refl _)
  refine ⟨.ref s1.heap.objs.size, upd H1 s1.heap.objs.size (.lst xs), I1.laid (t' := s1.toks) (fun b u e => Heap.get?_push_of_some _ e) (Nat.le_refl _) ?_, rfl, q _ hf⟩
  exact ⟨z, us, 0, r, Heap.get?_push_size _ rfl⟩
end

/-- a def's promise: the bound arguments in the parameters' order, the heap, the wanted end, the wanted exception -/
abbrev Sp := List V → Hp → VK → XK → Prop
/-- how an exception lies behind a call (file 08 gives it): the callers' frames, abstract heap and state ahead of the call, the wish, the exception, the state -/
abbrev CXT := List Env → Hp → Shared → XK → Value → Shared → Prop

/-- the state at a call -/
structure Env0 (P : Program) (w : World) (K : PySem.W.Frag) (mg : Str → Option Value) (base : Heap) (A : Around) (outer : List Env) (s : Shared) (H : Hp) : Prop where
  frames : A.frames = some outer
  mod : Mod K mg base
  bs : ∀ b o, base.get? b = some o → s.heap.get? b = some o ∧ H b = none
  bsz : base.objs.size ≤ s.heap.objs.size
  funs : s.heap.FunFrames base outer
  frf : ∀ b ∈ frs outer, H b = none
  hok : HOk P w H s.heap
  bare : AllBare s.gens
/-- a call's end -/
def CE (outer : List Env) (P : Program) (w : World) (H : Hp) (s : Shared) (Q : VK) (u : Value) (s' : Shared) : Prop :=
  ∃ v H', s'.os = s.os ∧ AllBare s'.gens ∧ Un (frs outer) [] H H' s.heap s'.heap ∧ HOk P w H' s'.heap ∧ RelV v u ∧ Q v H'
def CR (CX : CXT) (outer : List Env) (P : Program) (w : World) (H : Hp) (s : Shared) (Q : VK) (E : XK) (r : Result) (s' : Shared) : Prop :=
  match r with
  | .ok (.ret u) => CE outer P w H s Q u s'
  | .ok _ => False
  | .error e => CX outer H s E e s'
structure FnOk (P : Program) (w : World) (K : PySem.W.Frag) (mg : Str → Option Value) (base : Heap) (CX : CXT) (k : Nat) (f : Addr) (fd : FuncData) (ps : List Str) (sp : Sp) : Prop where
  len : ∀ vs H Q E, sp vs H Q E → vs.length = ps.length
  run : ∀ (A : Around) (outer : List Env) (s : Shared) (H : Hp) (args : Args) (us : List Value) (vs : List V) (Q : VK) (E : XK), Room k A → Env0 P w K mg base A outer s H → BindsTo s fd args (ps.zip us) → Vals vs us → sp vs H Q E →
    codeAny (model P w) A (.call (.ref f) args) (CR CX outer P w H s Q E) s
theorem FnOk.mono {P : Program} {w : World} {K : PySem.W.Frag} {mg : Str → Option Value} {base : Heap} {CX : CXT} {j k : Nat} {f : Addr} {fd : FuncData} {ps : List Str} {sp : Sp} (F : FnOk P w K mg base CX j f fd ps sp) (h : j ≤ k) :
    FnOk P w K mg base CX k f fd ps sp := ⟨F.len, fun A outer s H args us vs Q E hr => F.run A outer s H args us vs Q E (hr.mono h)⟩
/-- a weaker promise -/
theorem FnOk.imp {P : Program} {w : World} {K : PySem.W.Frag} {mg : Str → Option Value} {base : Heap} {CX : CXT} {k : Nat} {f : Addr} {fd : FuncData} {ps : List Str} {sp sp' : Sp} (F : FnOk P w K mg base CX k f fd ps sp)
    (h : ∀ vs H Q E, sp' vs H Q E → sp vs H Q E) : FnOk P w K mg base CX k f fd ps sp' :=
  ⟨fun vs H Q E q => F.len vs H Q E (h _ _ _ _ q), fun A outer s H args us vs Q E hr he hb hv hs => F.run A outer s H args us vs Q E hr he hb hv (h _ _ _ _ hs)⟩

theorem Env0.make {P : Program} {w : World} {K : PySem.W.Frag} {mg : Str → Option Value} {base : Heap} {A : Around} {outer : List Env} {s : Shared} {H : Hp} (e : Env0 P w K mg base A outer s H) (C : Addr) (us : List Value) (kw : List (Str × Value)) :
    Env0 P w K mg base (A.under (.builtin "type.__call__" ⟨.ref C :: us, kw⟩)) outer s H := ⟨by first | exact e.frames | (simpa [Around.under, Code.envs, Code.isFrame, pushEnvs] using e.frames), e.mod, e.bs, e.bsz, e.funs, e.frf, e.hok, e.bare⟩
theorem Env0.in1 {P : Program} {w : World} {K : PySem.W.Frag} {mg : Str → Option Value} {base : Heap} {A : Around} {outer : List Env} {s : Shared} {H : Hp} (e : Env0 P w K mg base A outer s H) :
    Env0 P w K mg base A.in1 outer s H := ⟨e.frames, e.mod, e.bs, e.bsz, e.funs, e.frf, e.hok, e.bare⟩

section
variable {X : Cx} {pins : List (Addr × Obj)} {σ : St} {H : Hp} {s s' : Shared}
/-- from a body: what a callee wants -/
theorem Inv.env0 (I : Inv X pins σ H s) : Env0 X.prog X.w X.K X.mg X.base X.A X.stack s H :=
  ⟨I.ok.frames, I.ok.mod, I.bs, Nat.le_trans I.ok.bsz I.sz, I.stack, I.stkFree, I.hok, I.bare⟩
/-- behind a call -/
theorem Inv.after {Q : VK} {u : Value} (I : Inv X pins σ H s) (h : CE X.stack X.prog X.w H s Q u s') : EP X pins σ Q u s' := by
  obtain ⟨v, H', os, bare, un, hok, r, q⟩ := h
  obtain ⟨hh, g, d, t, os'⟩ := s'
  obtain rfl : os' = s.os := os
  exact ⟨v, H', I.call (h' := hh) (g' := g) (d' := d) (t' := t) (ch := []) un hok bare (fun b z => absurd z (by simp)), r, q⟩
end

/-- f(..): the written arguments, then the defaults dvs; E: what is wanted of an exception -/
def tCall (sp : Sp) (dvs : List V) (E : XK) (t : TA) : TE := fun σ H Q => t σ H fun vs H1 => sp (vs ++ dvs) H1 Q E
/-- o.m(..) of an instance of the class at C -/
def tMeth (C : Addr) (m : Str) (sp : Sp) (dvs : List V) (E : XK) (ta : TE) (t : TA) : TE := fun σ H Q => ta σ H fun x H1 => ∃ a dx fs, x = .ref a ∧ H1 a = some (.ins C dx fs) ∧ fs.lookup m = none ∧
  t σ H1 fun vs H2 => sp (x :: (vs ++ dvs)) H2 Q E
/-- C(..): a new instance and its dict, then __init__ -/
def tMake (C : Addr) (sp : Sp) (dvs : List V) (E : XK) (t : TA) : TE := fun σ H Q => t σ H fun vs H1 => ∀ x dx, H1 x = none → H1 dx = none → dx ≠ x →
  sp (.ref x :: (vs ++ dvs)) (upd (upd H1 dx (.own x)) x (.ins C dx [])) (fun v H2 => v = .non ∧ Q (.ref x) H2) E

/-- how the parameters are bound: us the positional arguments, kw the keywords' values by name, ds the defaults that fill up -/
def Binds (K : PySem.W.Frag) (fd : FuncData) (ps : List Str) (ds : List Value) : Prop :=
  ∀ (s : Shared) (us : List Value), K.In s.heap → (us ++ ds).length = ps.length → BindsTo s fd ⟨us, []⟩ (ps.zip (us ++ ds))
/-- every parameter is given -/
theorem Binds.all {K : PySem.W.Frag} {fd : FuncData} {ps : List Str} (h : ∀ us : List Value, us.length = ps.length → bindArgs fd ⟨us, []⟩ = pure (ps.zip us)) : Binds K fd ps [] := fun s us _ hl => by
  rw [List.append_nil] at hl ⊢
  exact .of_eq (h us hl)

/-- an exception of a callee reaches what this body wants of exceptions -/
def Passes (CX : CXT) (X : Cx) (E : XK) : Prop := ∀ (pins : List (Addr × Obj)) (σ : St) (H : Hp) (s : Shared) (e : Value) (s' : Shared), Inv X pins σ H s → CX X.stack H s E e s' → X.xe e s'

section
variable {X : Cx} {CX : CXT} {k : Nat} {f C : Addr} {fd : FuncData} {ps : List Str} {sp : Sp} {dvs : List V} {ds : List Value} {E : XK} {x m : Str} {p pos apos : Pos} {e o : Expr} {es : List Expr} {ta : TE} {t : TA}

/-- the callee runs -/
theorem run_fn {pins : List (Addr × Obj)} {σ : St} {H : Hp} {s : Shared} {Q : VK} {us : List Value} {vs : List V} (F : FnOk X.prog X.w X.K X.mg X.base CX k f fd ps sp) (hr : Room k X.A) (hb : Binds X.K fd ps ds) (hd : Vals dvs ds) (hx : Passes CX X E)
    (I : Inv X pins σ H s) (r : Vals vs us) (h : sp (vs ++ dvs) H Q E) : wpAny (model X.prog X.w) X.A (call (.ref f) us) (EP X pins σ Q) X.xe s := by
  have r2 : Vals (vs ++ dvs) (us ++ ds) := r.append hd
  have hl : (us ++ ds).length = ps.length := by rw [← r2.length]; exact F.len _ _ _ _ h
  refine wpAny_call (codeAny_mono (F.run X.A X.stack s H ⟨us, []⟩ (us ++ ds) (vs ++ dvs) Q E hr I.env0 (hb s us I.kIn hl) r2 h) fun r s' hq => ?_)
  cases r with
  | error e => exact hx pins σ H s e s' I hq
  | ok fl =>
    cases fl with
    | ret u => exact I.after hq
    | next => exact False.elim hq
    | brk => exact False.elim hq
    | cont => exact False.elim hq

theorem pe_call (F : FnOk X.prog X.w X.K X.mg X.base CX k f fd ps sp) (hr : Room k X.A) (hg : Gl X x) (hm : X.mg x = some (.ref f)) (hk : PySem.W.keepIn X.K (.ref f) = true) (hb : Binds X.K fd ps ds) (hd : Vals dvs ds) (hx : Passes CX X E)
    (ha : PA X (e :: es) t) (hdb : (x == ("__debug__" : Str)) = false := by decide) (he : starEach (e :: es) X.env = (false, eval e X.env) :: starEach es X.env := by rfl) (hpl : (backTo pos (starEach es X.env)).any (·.1) = false := by rfl) :
    PE X (.Call (.Name x p) (e :: es) [] pos) (tCall sp dvs E t) := by
  intro pins s σ H Q I h
  refine wpAny_Call_Name_kw (ld_glob I hg hm ?_ hdb)
  refine PySem.W.callWith_K (h₀ := X.base) I.ok.mod.kin hk (thn (ha pos pins s σ H _ I h) fun us s1 ⟨vs, H1, I1, r, q⟩ => ⟨I1.kIn, ?_⟩) he hpl
  exact run_fn F hr hb hd hx I1 r q
/-- o.m(e, ..) -/
theorem pe_meth {pl : Sem Bool} (he : PE X o ta) (c : Cls X.K C) (hm : Meth X.K C m f) (F : FnOk X.prog X.w X.K X.mg X.base CX k f fd ps sp) (hr : Room k X.A) (hb : Binds X.K fd ps ds) (hd : Vals dvs ds) (hx : Passes CX X E) (ha : PA X (e :: es) t)
    (hst : starEach (e :: es) X.env = (false, eval e X.env) :: starEach es X.env := by rfl) (hpl : (backTo pos (starEach es X.env)).any (·.1) = false := by rfl)
    (ht : eval (.Call (.Attribute o m apos) (e :: es) [] pos) X.env = (do
      let ov ← eval o X.env
      standAt apos.atName
      let (f, first) ← holding [ov] (getMethod ov m pl)
      callWith pos f first (backTo pos (starEach (e :: es) X.env)) (backToKw pos (keywordEach [] X.env))) := by rfl) :
    PE X (.Call (.Attribute o m apos) (e :: es) [] pos) (tMeth C m sp dvs E ta t) := by
  intro pins s σ H Q I h
  refine PySem.W.methodCall_KW (pl := pl) (thn (he pins s σ H _ I h) fun u s1 ⟨x, H1, I1, rx, a, dx, fs, ex, ea, l, q⟩ => ?_) ht
  subst ex
  obtain rfl : u = Value.ref a := rx
  refine getmeth_ok I1 ea c hm l ?_
  refine PySem.W.callWith_K (first := [.ref a]) (h₀ := X.base) I.ok.mod.kin hm.kp (thn (ha pos pins s1 σ H1 _ I1 q) fun us s2 ⟨vs, H2, I2, r, q2⟩ => ⟨I2.kIn, ?_⟩) hst hpl
  exact run_fn (us := .ref a :: us) (vs := .ref a :: vs) F hr hb hd hx I2 (.cons rfl r) q2
/-- what a class must have to be made -/
structure Mk (K : PySem.W.Frag) (C f : Addr) : Prop where
  makes : PySem.W.makesIn K C = true
  init : PySem.W.findIn K (.ref C) "__init__" = some (some (.ref f))
  fn : PySem.W.isFn K (.ref f) = true
  kp : PySem.W.keepIn K (.ref C) = true

theorem run_make {pins : List (Addr × Obj)} {σ : St} {H : Hp} {s : Shared} {Q : VK} {us : List Value} {vs : List V} (M : Mk X.K C f) (F : FnOk X.prog X.w X.K X.mg X.base CX k f fd ps sp) (hr : Room (k + 1) X.A) (hb : Binds X.K fd ps ds) (hd : Vals dvs ds)
    (hx : Passes CX X E) (I : Inv X pins σ H s) (r : Vals vs us)
    (h : ∀ x dx, H x = none → H dx = none → dx ≠ x → sp (.ref x :: (vs ++ dvs)) (upd (upd H dx (.own x)) x (.ins C dx [])) (fun v H2 => v = .non ∧ Q (.ref x) H2) E) :
    wpAny (model X.prog X.w) X.A (call (.ref C) us) (EP X pins σ Q) X.xe s := by
  have hq := h (s.heap.objs.size + 1) s.heap.objs.size (I.hok.fresh (Nat.le_succ _)) (I.hok.fresh (Nat.le_refl _)) (Nat.ne_of_lt (Nat.lt_succ_self _))
  have I2 := Inv.made (C := C) I
  have r2 : Vals (V.ref (s.heap.objs.size + 1) :: (vs ++ dvs)) (Value.ref (s.heap.objs.size + 1) :: (us ++ ds)) := .cons rfl (r.append hd)
  have hl : (Value.ref (s.heap.objs.size + 1) :: us ++ ds).length = ps.length := by
    have e := r2.length
    rw [F.len _ _ _ _ hq] at e
    exact e.symm
  refine wpAny_call (make_map (f := f) I.kIn M.makes M.init (beq_iff_eq.mp M.fn) (codeAny_mono (F.run _ X.stack _ _ ⟨Value.ref (s.heap.objs.size + 1) :: us, []⟩ (Value.ref (s.heap.objs.size + 1) :: (us ++ ds)) _ _ E (hr.make C us [])
    (I2.env0.make C us []) (hb _ (Value.ref (s.heap.objs.size + 1) :: us) I2.kIn hl) r2 hq) fun r s' hq' => ?_))
  cases r with
  | error e => exact hx pins σ _ _ e s' I2 hq'
  | ok fl =>
    cases fl with
    | ret u =>
      obtain ⟨v, H', I3, rv, ev, q3⟩ := I2.after hq'
      subst ev
      exact ⟨rv, ⟨V.ref (s.heap.objs.size + 1), H', I3, rfl, q3⟩⟩
    | next => exact False.elim hq'
    | brk => exact False.elim hq'
    | cont => exact False.elim hq'
theorem pe_make (M : Mk X.K C f) (F : FnOk X.prog X.w X.K X.mg X.base CX k f fd ps sp) (hr : Room (k + 1) X.A) (hg : Gl X x) (hm : X.mg x = some (.ref C)) (hb : Binds X.K fd ps ds) (hd : Vals dvs ds) (hx : Passes CX X E)
    (ha : PA X (e :: es) t) (hdb : (x == ("__debug__" : Str)) = false := by decide) (he : starEach (e :: es) X.env = (false, eval e X.env) :: starEach es X.env := by rfl) (hpl : (backTo pos (starEach es X.env)).any (·.1) = false := by rfl) :
    PE X (.Call (.Name x p) (e :: es) [] pos) (tMake C sp dvs E t) := by
  intro pins s σ H Q I h
  refine wpAny_Call_Name_kw (ld_glob I hg hm ?_ hdb)
  refine PySem.W.callWith_K (h₀ := X.base) I.ok.mod.kin M.kp (thn (ha pos pins s σ H _ I h) fun us s1 ⟨vs, H1, I1, r, q⟩ => ⟨I1.kIn, ?_⟩) he hpl
  exact run_make M F hr hb hd hx I1 r q
end

section
variable {X : Cx} {CX : CXT} {k : Nat} {f C : Addr} {fd : FuncData} {ps ks : List Str} {sp : Sp} {E : XK} {x m : Str} {p pos apos kpos : Pos} {e o : Expr} {es : List Expr} {kws : List Keyword} {te ta : TE} {t tk : TA} {nm : Option Str}
variable {g : List Value → List Value → List Value} {gV : List V → List V → List V}
end

/-- names: the parameters first -/
structure FnScope (N P : List Str) (sc : Scope) : Prop where
  kind : sc.kind = .function
  co : sc.isCoroutine = false
  gen : sc.isGenerator = false
  nd : N.Nodup
  pre : N.take P.length = P
  par : ∀ x ∈ P, sc.names.lookup x = some .local ∨ sc.names.lookup x = some .cell
  nofree : ∀ y ∈ sc.names, y.2 ≠ .free

theorem bindL_out {kindOf : Str → Option NameKind} {x : Str} : ∀ {binds : List (Str × Value)} {m : Str → Option Value}, (∀ v, (x, v) ∉ binds) → bindL kindOf binds m x = m x
  | [], _, _ => rfl
  | (n, v) :: r, m, h => by
    unfold bindL
    rw [bindL_out fun w hw => h w (List.mem_cons_of_mem _ hw)]
    split
    · have : x ≠ n := by rintro rfl; exact h v List.mem_cons_self
      simp [this]
    · rfl
theorem bindC_out {kindOf : Str → Option NameKind} {x : Str} : ∀ {binds : List (Str × Value)} {m : Str → Option Value}, (∀ v, (x, v) ∉ binds) → bindC kindOf binds m x = m x
  | [], _, _ => rfl
  | (n, v) :: r, m, h => by
    unfold bindC
    rw [bindC_out fun w hw => h w (List.mem_cons_of_mem _ hw)]
    split
    · rfl
    · have : x ≠ n := by rintro rfl; exact h v List.mem_cons_self
      simp [this]
theorem bindL_get {kindOf : Str → Option NameKind} {x : Str} {v : Value} : ∀ {P : List Str} {vs : List Value} {i : Nat} {m : Str → Option Value}, P.Nodup → P[i]? = some x → vs[i]? = some v → kindOf x = some .local →
    bindL kindOf (P.zip vs) m x = some v
  | [], _, _, _, _, h, _, _ => by simp at h
  | _ :: _, [], _, _, _, _, h, _ => by simp at h
  | p :: P, w :: vs, 0, m, nd, h1, h2, hk => by
    simp at h1 h2; subst h1; subst h2
    show bindL kindOf ((p, w) :: P.zip vs) m p = _
    unfold bindL
    rw [bindL_out fun v hv => (List.nodup_cons.mp nd).1 (List.of_mem_zip hv).1, if_pos hk]
    simp
  | p :: P, w :: vs, i + 1, m, nd, h1, h2, hk => by
    show bindL kindOf ((p, w) :: P.zip vs) m x = _
    unfold bindL
    exact bindL_get (i := i) (List.nodup_cons.mp nd).2 (by simpa using h1) (by simpa using h2) hk
theorem bindC_get {kindOf : Str → Option NameKind} {x : Str} {v : Value} : ∀ {P : List Str} {vs : List Value} {i : Nat} {m : Str → Option Value}, P.Nodup → P[i]? = some x → vs[i]? = some v → kindOf x ≠ some .local →
    bindC kindOf (P.zip vs) m x = some v
  | [], _, _, _, _, h, _, _ => by simp at h
  | _ :: _, [], _, _, _, _, h, _ => by simp at h
  | p :: P, w :: vs, 0, m, nd, h1, h2, hk => by
    simp at h1 h2; subst h1; subst h2
    show bindC kindOf ((p, w) :: P.zip vs) m p = _
    unfold bindC
    rw [bindC_out fun v hv => (List.nodup_cons.mp nd).1 (List.of_mem_zip hv).1, if_neg hk]
    simp
  | p :: P, w :: vs, i + 1, m, nd, h1, h2, hk => by
    show bindC kindOf ((p, w) :: P.zip vs) m x = _
    unfold bindC
    exact bindC_get (i := i) (List.nodup_cons.mp nd).2 (by simpa using h1) (by simpa using h2) hk

/-- the names' values at the entry -/
def start (N : List Str) (vs : List V) : St := vs.map some ++ List.replicate (N.length - vs.length) none

/-- the context of a def's body, at its entry; an exception leaves the frame, then lies as CX says -/
def cxOf (CX : CXT) (P : Program) (w : World) (K : PySem.W.Frag) (mg : Str → Option Value) (base : Heap) (N : List Str) (qual : Str) (scope : Scope) (f : Addr) (cd : Value) (A : Around) (outer : List Env) (s : Shared) (H : Hp) (E : XK) : Cx where
  prog := P
  w := w
  K := K
  mg := mg
  base := base
  A := A.deeper (envOfC qual scope s.heap.objs.size f cd)
  N := N
  s₀ := s
  H₀ := H
  env := envOfC qual scope s.heap.objs.size f cd
  outer := outer
  stack := envOfC qual scope s.heap.objs.size f cd :: outer
  ex := []
  calm := true
  fn := fun _ => true
  pn := []
  xe := fun e s' => wpAny (model P w) (A.deeper (envOfC qual scope s.heap.objs.size f cd)) (leaving (envOfC qual scope s.heap.objs.size f cd) e) (fun _ s'' => CX outer H s E e s'') (fun e' s'' => CX outer H s E e' s'') s'

theorem cell_has {sc : Scope} {n : Nat} {x : Str} (h : sc.names.lookup x = some .cell) : ∃ c, (cellsFrom n sc.names []).lookup x = some c := by
  have q := PySem.W.cellsFrom_some sc.names n [] (.inl h)
  exact Option.isSome_iff_exists.mp q

theorem inv_start {CX : CXT} {P : Program} {w : World} {K : PySem.W.Frag} {mg : Str → Option Value} {base : Heap} {N ps : List Str} {qual : Str} {scope : Scope} {f : Addr} {cd : Value} {A : Around} {outer : List Env} {s s1 : Shared} {H : Hp} {E : XK} {us : List Value} {vs : List V}
    (S : FnScope N ps scope) (hd : A.handled = none) (e0 : Env0 P w K mg base A outer s H) (hl : vs.length = ps.length) (r : Vals vs us)
    (x : InCallC s s.heap.objs.size (bindL (envOfC qual scope s.heap.objs.size f cd).kindOf (ps.zip us) fun _ => none) (cellsFrom (s.heap.objs.size + 1) scope.names []) (bindC (envOfC qual scope s.heap.objs.size f cd).kindOf (ps.zip us) fun _ => none) s1) :
    Inv (cxOf CX P w K mg base N qual scope f cd A outer s H E) [] (start N vs) H s1 := by
  have hpl : ps.length ≤ N.length := by have := congrArg List.length S.pre; rw [List.length_take] at this; omega
  obtain ⟨h1, tk, rfl, hk⟩ := x.done
  have noA : ∀ b : Addr, b ∉ (cxOf CX P w K mg base N qual scope f cd A outer s H E).ex := fun b z => absurd (show b ∈ ([] : List Addr) from z) (by simp)
  refine ⟨⟨e0.mod, S.kind, rfl, rfl, Nat.le_refl _, fun y z c h1 h2 => ?_, fun y hy => ?_, fun y c _ h => ?_, fun _ => hd, Around.frames_deeper e0.frames, .inr ⟨rfl, rfl⟩, fun b z => absurd z (noA b), e0.bs, e0.bsz, fun b _ _ => noA b, fun b z => absurd z (noA b), e0.funs, e0.frf⟩,
    rfl, e0.bare, Un.kept hk, ⟨_, x.toInCall.ns, fun i y v h1 h2 h3 => ?_⟩, fun y c h => ⟨_, x.cell y c h⟩, e0.hok.fresh (Nat.le_refl _), fun y c h => ?_, fun p hp => absurd (show p ∈ ([] : List (Addr × Obj)) from hp) (by simp), e0.hok.kept hk, ?_⟩
  · exact name_of_addr x.apart (PySem.mem_of_lookup h1) (PySem.mem_of_lookup h2)
  · have hy : scope.names.lookup y = some .cell ∨ scope.names.lookup y = some .free := hy
    rcases hy with hy | hy
    · exact cell_has hy
    · exact absurd rfl (S.nofree _ (PySem.mem_of_lookup hy))
  · exact Nat.le_of_lt (x.above y c (PySem.mem_of_lookup h))
  · have hi : i < vs.length := by
      unfold start at h2
      by_cases hi : i < vs.length
      · exact hi
      · rw [List.getElem?_append_right (by simpa using hi)] at h2
        rw [List.getElem?_replicate] at h2
        split at h2 <;> cases h2
    have ha : vs[i]? = some v := by
      unfold start at h2
      rw [List.getElem?_append_left (by simpa using hi), List.getElem?_map] at h2
      cases e : vs[i]? with
      | none => rw [e] at h2; cases h2
      | some a => rw [e] at h2; cases h2; rfl
    obtain ⟨u, hu, rv⟩ := r.get ha
    have hp : ps[i]? = some y := by
      rw [← S.pre, List.getElem?_take_of_lt (by omega)]; exact h1
    have ndP : ps.Nodup := by rw [← S.pre]; exact S.nd.sublist (List.take_sublist _ _)
    refine ⟨u, rv, ?_⟩
    rcases S.par y (List.mem_of_getElem? hp) with k | k
    · exact .inl ⟨k, bindL_get ndP hp hu k⟩
    · obtain ⟨c, e⟩ := cell_has (n := s.heap.objs.size + 1) k
      refine .inr ⟨.inl k, c, e, ?_⟩
      have q := x.cell y c e
      rw [bindC_get ndP hp hu (by show scope.names.lookup y ≠ _; rw [k]; decide)] at q
      exact q
  · exact e0.hok.fresh (Nat.le_of_lt (x.above y c (PySem.mem_of_lookup h)))
  · unfold start
    show _ = N.length
    rw [List.length_append, List.length_map, List.length_replicate]
    omega

/-- THE RULE: a def (or a method) of the text, by its body. The body's reading t is chosen for each entry; it is run at the parameters' values -/
theorem fn_of {CX : CXT} {P : Program} {w : World} {K : PySem.W.Frag} {mg : Str → Option Value} {base : Heap} {k : Nat} {f : Addr} {name qual : Str} {params : Arguments} {body : List Stmt} {scope : Scope} {dV kV doc pm cdv ct oc : Value} {an od : Option Addr}
    {osl : Array (Option Value)} {N ps : List Str} {sp : Sp} (lk : K.lookup f = some ⟨oc, od, .func (PySem.W.fnOf name qual params body scope dV kV doc pm an cdv ct), osl⟩) (hcd : PySem.W.codeIn K cdv qual = true) (S : FnScope N ps scope)
    (len : ∀ vs H Q E, sp vs H Q E → vs.length = ps.length)
    (hbody : ∀ (A : Around) (outer : List Env) (s : Shared) (H : Hp) (vs : List V) (Q : VK) (E : XK), Room k (A.deeper (envOfC qual scope s.heap.objs.size f cdv)) → sp vs H Q E →
      ∃ t, PSs (cxOf CX P w K mg base N qual scope f cdv A outer s H E) body t ∧ t { nx := fun _ H' => Q .non H', rt := Q } (start N vs) H) :
    FnOk P w K mg base CX (k + 1) f (PySem.W.fnOf name qual params body scope dV kV doc pm an cdv ct) ps sp := by
  refine ⟨len, fun A outer s H args us vs Q E hr e0 hb r hsp => ?_⟩
  have hl := len _ _ _ _ hsp
  have KX : K.In s.heap := e0.mod.kin.keeps fun b o e => (e0.bs b o e).1
  have lim : s.heap.NoLimit := e0.mod.nolimit.keeps fun b o e => (e0.bs b o e).1
  have hkind : ∀ y ∈ ps.zip us, scope.names.lookup y.1 = some .local ∨ (scope.names.lookup y.1 = some .cell ∧ ((cellsFrom (s.heap.objs.size + 1) scope.names []).lookup y.1).isSome = true) := fun ⟨n, v⟩ hy => by
    rcases S.par n (List.of_mem_zip hy).1 with q | q
    · exact .inl q
    · exact .inr ⟨q, PySem.W.cellsFrom_some _ _ _ (.inl q)⟩
  refine codeAny_call_function hr.depth (KX _ _ lk) rfl S.co S.gen rfl (PySem.W.codeRec_of KX hcd) (hb _ _ _ _ ?_)
  refine wpAny_newFunctionEnv_cells S.kind hkind fun env he s1 x => ?_
  subst he
  refine ⟨lim.keeps x.toInCall.keep, codeAny_func ?_⟩
  obtain ⟨t, ht, hq⟩ := hbody A outer s H vs Q E (hr.deeper _) hsp
  have I : Inv (cxOf CX P w K mg base N qual scope f cdv A outer s H E) [] (start N vs) H s1 := inv_start S hr.hd e0 hl r x
  refine wpAny_mono (ht [] s1 (start N vs) H _ I hq) (fun fl s' hs => ?_) fun e s' hs => hs
  have fin : ∀ {σ' : St} {H' : Hp} {v : V} {u : Value}, Inv (cxOf CX P w K mg base N qual scope f cdv A outer s H E) [] σ' H' s' → RelV v u → Q v H' → CE outer P w H s Q u s' :=
    fun {σ' H' v u} J rv q => ⟨v, H', J.os, J.bare, J.base, J.hok, rv, q⟩
  cases fl with
  | ret u =>
    obtain ⟨v, σ', H', J, rv, q⟩ := hs
    exact fin J rv q
  | next =>
    obtain ⟨σ', H', J, q⟩ := hs
    exact fin (v := V.non) (u := Value.none) J rfl q
  | brk =>
    obtain ⟨_, _, _, q⟩ := hs
    exact False.elim q
  | cont =>
    obtain ⟨_, _, _, q⟩ := hs
    exact False.elim q
end L2

namespace L2
open PySem PySem.Spec PyProof.Rows
section
variable {X : Cx} {x : Str} {p pos : Pos} {e : Expr} {es : List Expr} {t : TA} {id T : String} {r : List V → Hp → VK → Prop}

def tCB (r : List V → Hp → VK → Prop) (t : TA) : TE := fun σ H Q => t σ H fun vs H1 => r vs H1 Q
/-- f(e, ..), f a built-in function -/
theorem pe_callB (hc : CallR X (.builtin id) r) (hg : Gl X x) (hm : X.mg x = none) (hv : bootBuiltins x = some (.builtin id)) (ha : PA X (e :: es) t) (hn : x ≠ "__name__" := by decide) (hdb : (x == ("__debug__" : Str)) = false := by decide)
    (he : starEach (e :: es) X.env = (false, eval e X.env) :: starEach es X.env := by rfl) (hpl : (backTo pos (starEach es X.env)).any (·.1) = false := by rfl) : PE X (.Call (.Name x p) (e :: es) [] pos) (tCB r t) := by
  intro pins s σ H Q I h
  refine wpAny_Call_Name_kw (ld_blt I hg hm hv ?_ hn hdb)
  exact PyProof.Rows.callWith_builtin1 (thn (ha pos pins s σ H _ I h) fun us s1 ⟨vs, H1, I1, r1, q1⟩ => hc pins s1 σ H1 vs us Q I1 r1 q1) he hpl
/-- T(e, ..), T a built-in type -/
theorem pe_callTy (hc : CallR X (.type T) r) (hg : Gl X x) (hm : X.mg x = none) (hv : bootBuiltins x = some (.type T)) (ha : PA X (e :: es) t) (hn : x ≠ "__name__" := by decide) (hdb : (x == ("__debug__" : Str)) = false := by decide)
    (he : starEach (e :: es) X.env = (false, eval e X.env) :: starEach es X.env := by rfl) (hpl : (backTo pos (starEach es X.env)).any (·.1) = false := by rfl) : PE X (.Call (.Name x p) (e :: es) [] pos) (tCB r t) := by
  intro pins s σ H Q I h
  refine wpAny_Call_Name_kw (ld_blt I hg hm hv ?_ hn hdb)
  exact PyProof.Rows.callWith_type1 (thn (ha pos pins s σ H _ I h) fun us s1 ⟨vs, H1, I1, r1, q1⟩ => hc pins s1 σ H1 vs us Q I1 r1 q1) he hpl
end
end L2

namespace HT
open PySem PyProof.Rows

section
open PySem.SeqAt
open PySem.AutoSeq1 (wpAny_loadPart')
open PySem.MeetsSeq PySem.MeetsSeq2 PySem.MeetsSeq3

end

section
variable {prog : Program} {w : World} {A : Around} {E : Value → Shared → Prop} {s : Shared}

/-- a slice's bound as a place among n (d where it is left out) -/
def sIx (n d : Nat) : Option Int → Nat
  | none => d
  | some v => if v < 0 then (v + (n : Int)).toNat else min v.toNat n
end
end HT

namespace L2
open PySem PySem.Spec PyProof.Rows

abbrev TO := St → Hp → (Option Int → Hp → Prop) → Prop
/-- a slice's part (left out, or an int) -/
def PO (X : Cx) (e : Option Expr) (t : TO) : Prop :=
  ∀ (pins : List (Addr × Obj)) (s : Shared) (σ : St) (H : Hp) (Q : Option Int → Hp → Prop), Inv X pins σ H s → t σ H Q →
    wpAny (model X.prog X.w) X.A (evalPart e X.env) (fun u s' => ∃ o H', Inv X pins σ H' s' ∧ IsPart u o ∧ Q o H') X.xe s
def tPart (t : TE) : TO := fun σ H Q => t σ H fun x H1 => ∃ i, x = .int i ∧ Q (some i) H1

section
variable {X : Cx} {e : Expr} {te : TE} {lo hi : Option Expr} {tl th : TO} {pos p2 : Pos}

theorem po_some (h : PE X e te) : PO X (some e) (tPart te) := by
  intro pins s σ H Q I hw
  rw [evalPart_some]
  refine thn (h pins s σ H _ I hw) fun u s1 ⟨x, H1, I1, r1, q1⟩ => ?_
  obtain ⟨i, rfl, q⟩ := q1
  obtain ⟨t, rfl⟩ := r1
  exact ⟨some i, H1, I1, .int i t, q⟩

/-- what a slice of a value is, by values: the slice object stands at sl -/
def SlR (X : Cx) (r : V → Option Int → Option Int → Hp → VK → Prop) : Prop :=
  ∀ (pins : List (Addr × Obj)) (s : Shared) (σ : St) (H : Hp) (x : V) (v vl vu : Value) (lo hi : Option Int) (sl : Addr) (Q : VK), Inv X pins σ H s → RelV x v → s.heap.IsSliceOf sl vl vu .none → IsPart vl lo → IsPart vu hi → r x lo hi H Q →
    ∃ T id, typeLookup (.type T) "__getitem__" = pure (some (.builtin id)) ∧ s.TypeIs v T ∧ wpAny (model X.prog X.w) X.A (getItem v (.ref sl)) (EP X pins σ Q) X.xe s
def tSl (r : V → Option Int → Option Int → Hp → VK → Prop) (te : TE) (tl th : TO) : TE := fun σ H Q => te σ H fun x H1 => tl σ H1 fun l H2 => th σ H2 fun u H3 => r x l u H3 Q
/-- a[lo:hi], any a -/
theorem pe_slice {r : V → Option Int → Option Int → Hp → VK → Prop} (hr : SlR X r) (he : PE X e te) (hl : PO X lo tl) (hu : PO X hi th) : PE X (.Subscript e (.Slice lo hi none p2) pos) (tSl r te tl th) := by
  intro pins s σ H Q I h
  refine Subscript_ (thn (he pins s σ H _ I h) fun v s1 ⟨x, H1, I1, r1, q1⟩ => ?_)
  refine wpAny_Slice (thn (hl pins s1 σ H1 _ I1 q1) fun vl s2 ⟨l, H2, I2, pl, q2⟩ => thn (hu pins s2 σ H2 _ I2 q2) fun vu s3 ⟨u, H3, I3, pu, q3⟩ => ?_)
  rw [evalPart_none]
  refine wpAny_pure ?_
  have I4 : Inv X pins σ H3 { s3 with heap := s3.heap.push { cls := .type "slice", data := .fields #[vl, vu, .none] } } := I3.kept (t' := s3.toks) fun b ob q => Heap.get?_push_of_some _ q
  obtain ⟨T, id, hT, ht, hg⟩ := hr pins { s3 with heap := s3.heap.push { cls := .type "slice", data := .fields #[vl, vu, .none] } } σ H3 x v vl vu l u s3.heap.objs.size Q I4 r1 (Heap.IsSliceOf.new ..) pl pu q3
  show wpAny (model X.prog X.w) X.A (subscriptTail e (.Slice lo hi none p2) v (.ref s3.heap.objs.size)) (EP X pins σ Q) X.xe { s3 with heap := s3.heap.push { cls := .type "slice", data := .fields #[vl, vu, .none] } }
  exact tail_any (ops := [.ref s3.heap.objs.size, v]) ht hT hg (by with_unfolding_all rfl)

/-- the items of xs[lo:hi] -/
def cutV (xs : List V) (lo hi : Option Int) : List V := (xs.drop (HT.sIx xs.length 0 lo)).take (HT.sIx xs.length xs.length hi - HT.sIx xs.length 0 lo)
theorem cutV_length (xs : List V) (lo hi : Option Int) : (cutV xs lo hi).length ≤ xs.length := by
  unfold cutV
  rw [List.length_take, List.length_drop]
  omega
end
end L2

namespace L2
open PySem PySem.Spec PyProof.Rows

/-- the place that an index of any sign means -/
def ixN (n : Nat) (i : Int) : Option Nat := if 0 ≤ i then (if i < n then some i.toNat else none) else if -(n : Int) ≤ i then some (i + n).toNat else none
def atI {α : Type} (xs : List α) (i : Int) : Option α := (ixN xs.length i).bind fun j => xs[j]?
theorem ixN_seq {n : Nat} {i : Int} {j : Nat} (h : ixN n i = some j) : seqIndex? i n = some j ∧ j < n ∧ -(n : Int) ≤ i ∧ i < n := by
  unfold ixN at h
  by_cases h0 : 0 ≤ i
  · rw [if_pos h0] at h
    by_cases h1 : i < n
    · rw [if_pos h1] at h
      have e : i.toNat = j := Option.some.inj h
      exact ⟨by rw [seqIndex_of h0 h1, e], by omega, by omega, h1⟩
    · rw [if_neg h1] at h; cases h
  · rw [if_neg h0] at h
    by_cases h1 : -(n : Int) ≤ i
    · rw [if_pos h1] at h
      have e : (i + n).toNat = j := Option.some.inj h
      exact ⟨by rw [seqIndex_neg (by omega) h1, e], by omega, h1, by omega⟩
    · rw [if_neg h1] at h; cases h
theorem atI_get {α : Type} {xs : List α} {i : Int} {v : α} (h : atI xs i = some v) : ∃ j, seqIndex? i xs.length = some j ∧ xs[j]? = some v ∧ j < xs.length ∧ -(xs.length : Int) ≤ i ∧ i < xs.length := by
  unfold atI at h
  cases e : ixN xs.length i with
  | none => rw [e] at h; cases h
  | some j =>
    rw [e] at h
    obtain ⟨h1, h2, h3, h4⟩ := ixN_seq e
    exact ⟨j, h1, h, h2, h3, h4⟩
theorem atI_nat {α : Type} {xs : List α} {j : Nat} {v : α} (h : xs[j]? = some v) : atI xs (j : Int) = some v := by
  have hj : j < xs.length := (List.getElem?_eq_some_iff.mp h).1
  have e : ixN xs.length (j : Int) = some j := by
    unfold ixN
    rw [if_pos (by omega), if_pos (by omega)]; simp
  unfold atI; rw [e]; exact h
/-- what stands as an index of a plain subscript -/
def PlainIx (b : Expr) : Prop := ∀ o i, subscripted b false o i = operate [o, i] (getItem o i)
/-- a subscript by values -/
def IxR (X : Cx) (r : R2) : Prop :=
  ∀ (value slice : Expr) (pins : List (Addr × Obj)) (s : Shared) (σ : St) (H : Hp) (x y : V) (v u : Value) (Q : VK), Inv X pins σ H s → RelV x v → RelV y u → r x y H Q →
    subscripted slice false v u = operate [v, u] (getItem v u) → wpAny (model X.prog X.w) X.A (subscriptTail value slice v u) (EP X pins σ Q) X.xe s
/-- a call of a builtin's method by values: the receiver, the arguments -/
def MtR (X : Cx) (id : String) (r : V → List V → Hp → VK → Prop) : Prop :=
  ∀ (pins : List (Addr × Obj)) (s : Shared) (σ : St) (H : Hp) (x : V) (xs : List V) (v : Value) (us : List Value) (Q : VK), Inv X pins σ H s → RelV x v → Vals xs us → r x xs H Q →
    wpAny (model X.prog X.w) X.A (call (.builtin id) (v :: us)) (EP X pins σ Q) X.xe s
section
variable {X : Cx} {a b : Expr} {ta tb : TE} {pos : Pos}
/-- a[b] -/
theorem pe_ix {r : R2} (hr : IxR X r) (ha : PE X a ta) (hb : PE X b tb) (hs : PlainIx b) : PE X (.Subscript a b pos) (tOp r ta tb) := by
  intro pins s σ H Q I h
  exact Subscript_ (binT ha hb I h fun v u s2 x y H2 I2 rx ry q => hr a b pins s2 σ H2 x y v u Q I2 rx ry q (hs _ _))

def rIxL (K : PySem.W.Frag) : R2 := fun x y H Q => ∃ p xs i v, x = .ref p ∧ y = .int i ∧ SqL K H p xs ∧ atI xs i = some v ∧ Q v H
def rIxT (K : PySem.W.Frag) : R2 := fun x y H Q => ∃ p xs i v, x = .ref p ∧ y = .int i ∧ SqT K H p xs ∧ atI xs i = some v ∧ Q v H
theorem ix_list : IxR X (rIxL X.K) := by
  intro value slice pins s σ H x y v u Q I rx ry h hs
  obtain ⟨p, xs, i, z, rfl, rfl, hq, he, q⟩ := h
  cases rx
  obtain ⟨t, rfl⟩ := ry
  obtain ⟨its, r, pl, hz⟩ := I.list hq
  obtain ⟨j, h1, h2, h3, h4, h5⟩ := atI_get he
  obtain ⟨w, ew, rw'⟩ := r.get h2
  have hl := r.length
  have hn := line63
  have fin : EP X pins σ Q w s := ⟨z, H, I, rw', q⟩
  by_cases h0 : 0 ≤ i
  · have hj : i.toNat = j := by
      rw [seqIndex_of h0 h5] at h1
      exact Option.some.inj h1
    exact item_listR pl.isList h0 (by omega) (by rw [hj]; simpa using ew) fin hs
  · have hj : (i + (its.toArray.size : Int)).toNat = j := by
      rw [seqIndex_neg (by omega) h4] at h1
      rw [List.size_toArray, ← hl]
      exact Option.some.inj h1
    exact subscriptTail_builtinR (x := w) pl.isList.typeIs slot_list_getitem.lookup
      (wpAny_getItem_list_neg (Q := fun r s' => r = w ∧ EP X pins σ Q r s') pl.isList (by omega) (by rw [List.size_toArray] <;> omega) (by omega) (by rw [hj]; simpa using ew) ⟨rfl, fin⟩) hs
theorem ix_tup : IxR X (rIxT X.K) := by
  intro value slice pins s σ H x y v u Q I rx ry h hs
  obtain ⟨p, xs, i, z, rfl, rfl, hq, he, q⟩ := h
  cases rx
  obtain ⟨t, rfl⟩ := ry
  obtain ⟨its, r, pl, hz⟩ := I.tuple hq
  obtain ⟨j, h1, h2, h3, h4, h5⟩ := atI_get he
  obtain ⟨w, ew, rw'⟩ := r.get h2
  have hl := r.length
  have hn := line63
  have fin : EP X pins σ Q w s := ⟨z, H, I, rw', q⟩
  exact subscriptTail_builtinR (x := w) pl.typeIs slot_tuple_getitem.lookup
    (getItem_tuple (j := j) (Q := fun r s' => r = w ∧ EP X pins σ Q r s') pl (by omega) (by omega) (by rw [List.size_toArray, ← hl]; exact h1) (by simpa using ew) ⟨rfl, fin⟩) hs
/-- the list's object behind a store -/
theorem mapSeq_set (its : List Value) (n j : Nat) (u : Value) : Obj.mapSeq (·.setIfInBounds j u) { cls := .type "list", data := .seq its.toArray n } = { cls := .type "list", data := .seq (its.set j u).toArray n } := by
  simp [Obj.mapSeq]
theorem Inv.lst {pins : List (Addr × Obj)} {σ : St} {H : Hp} {s : Shared} {p : Addr} {xs : List V} (I : Inv X pins σ H s) (h : H p = some (.lst xs)) :
    ∃ (its : List Value) (n : Nat), Vals xs its ∧ s.heap.get? p = some { cls := .type "list", data := .seq its.toArray n } ∧ xs.length ≤ sizeLine := by
  obtain ⟨z, its, n, r, e⟩ := I.hok p _ h
  exact ⟨its, n, r, e, z⟩
/-- the list at p is written by an update of its object -/
theorem Inv.lstUpd {pins : List (Addr × Obj)} {σ : St} {H : Hp} {s : Shared} {p : Addr} {xs ys : List V} {its its' : List Value} {n n' : Nat} {f : Obj → Obj} (I : Inv X pins σ H s) (h : H p = some (.lst xs))
    (ho : s.heap.get? p = some { cls := .type "list", data := .seq its.toArray n }) (hf : f { cls := .type "list", data := .seq its.toArray n } = { cls := .type "list", data := .seq its'.toArray n' }) (r : Vals ys its') (hz : ys.length ≤ sizeLine) (t : Nat) :
    Inv X pins σ (upd H p (.lst ys)) { s with heap := s.heap.update p f, toks := t } := by
  have e : (s.heap.update p f).get? p = some { cls := .type "list", data := .seq its'.toArray n' } := by
    rw [Heap.get?_update_self f ho (by rw [hf] <;> rfl), hf]
  refine I.write (x := p) (e := p) (by rw [h]; trivial) (.inl rfl) (fun b u hb q => (Heap.get?_update_other _ _ (Ne.symm hb)).trans q) ⟨_, e⟩ ?_
  exact ⟨hz, its', n', r, e⟩
def rSetL : V → V → V → Hp → (Hp → Prop) → Prop := fun o i v H Q => ∃ p xs k j, o = .ref p ∧ i = .int k ∧ H p = some (.lst xs) ∧ ixN xs.length k = some j ∧ Q (upd H p (.lst (xs.set j v)))
theorem set_list : PSet X rSetL := by
  intro pins s σ H o i v ov iv u Q I ro ri rv h
  obtain ⟨p, xs, k, j, rfl, rfl, hp, hj, q⟩ := h
  cases ro
  obtain ⟨t, rfl⟩ := ri
  obtain ⟨its, n, r, ho, hz⟩ := I.lst hp
  obtain ⟨h1, h2, h3, h4⟩ := ixN_seq hj
  have hl := r.length
  have hn := line63
  have I' : Inv X pins σ (upd H p (.lst (xs.set j v))) { s with heap := s.heap.update p (Obj.mapSeq (·.setIfInBounds j u)) } :=
    I.lstUpd hp ho (mapSeq_set its n j u) (r.set rv j) (by rw [List.length_set]; exact hz) s.toks
  by_cases h0 : 0 ≤ k
  · have hk : k.toNat = j := by
      rw [seqIndex_of h0 h4] at h1
      exact Option.some.inj h1
    exact PySem.W.ki_setAt ho h0 (by omega) (by rw [List.size_toArray, ← hl]; exact h4) (by rw [hk]; exact ⟨_, I', q⟩)
  · have hk : (k + (its.toArray.size : Int)).toNat = j := by
      rw [seqIndex_neg (by omega) h3] at h1
      rw [List.size_toArray, ← hl]
      exact Option.some.inj h1
    exact PySem.W.ki_setBack ho (by omega) (by rw [List.size_toArray, ← hl]; exact h3) (by omega) (by rw [hk]; exact ⟨_, I', q⟩)

theorem slice_bounds (lo hi : Option Int) (n : Nat) : (sliceBounds lo hi none n).1 = ((HT.sIx n 0 lo : Nat) : Int) ∧ (sliceBounds lo hi none n).2.1 = ((HT.sIx n n hi : Nat) : Int) ∧ (sliceBounds lo hi none n).2.2 = 1 := by
  refine ⟨?_, ?_, rfl⟩
  · cases lo with
    | none => simp [sliceBounds, HT.sIx]
    | some i =>
      simp only [sliceBounds, HT.sIx, Option.getD_none, show (1 : Int) > 0 by decide, if_true]
      by_cases h : i < 0
      · simp only [h, if_true] <;> omega
      · simp only [h, if_false] <;> omega
  · cases hi with
    | none => simp [sliceBounds, HT.sIx]
    | some i =>
      simp only [sliceBounds, HT.sIx, Option.getD_none, show (1 : Int) > 0 by decide, if_true]
      by_cases h : i < 0
      · simp only [h, if_true] <;> omega
      · simp only [h, if_false] <;> omega
theorem slicePick_cut (its : List Value) (lo hi : Option Int) : slicePick its.toArray lo hi none = ((its.drop (HT.sIx its.length 0 lo)).take (HT.sIx its.length its.length hi - HT.sIx its.length 0 lo)).toArray := by
  obtain ⟨h1, h2, h3⟩ := slice_bounds lo hi its.toArray.size
  unfold slicePick
  rw [h1, h2, h3]
  simp only [sliceRange_one, pick_run, List.size_toArray] <;> rfl
/-- xs[lo:hi] of a list: a new list -/
def rSlL (K : PySem.W.Frag) : V → Option Int → Option Int → Hp → VK → Prop := fun x lo hi H Q => ∃ a xs, x = .ref a ∧ SqL K H a xs ∧ ∀ p, H p = none → Q (.ref p) (upd H p (.lst (cutV xs lo hi)))
theorem sl_list : SlR X (rSlL X.K) := by
  intro pins s σ H x v vl vu lo hi sl Q I rx hs pl pu h
  obtain ⟨a, xs, rfl, hx, q⟩ := h
  cases rx
  obtain ⟨its, r, ht, hz⟩ := I.list hx
  have hlen := r.length
  refine ⟨"list", _, slot_list_getitem.lookup, ht.isList.typeIs, ?_⟩
  refine wpAny_getItem_list_slice ht.isList hs pl pu .none (by simp) ?_ (by rw [List.size_toArray] <;> omega)
  rw [slicePick_cut, ← hlen]
  refine ⟨.ref s.heap.objs.size, _, I.laid (t' := s.toks) (o := .lst (cutV xs lo hi)) (fun b ob q => Heap.get?_push_of_some _ q) (Nat.le_refl _) ?_, rfl, q _ (I.hok.fresh (Nat.le_refl _))⟩
  exact ⟨Nat.le_trans (cutV_length xs lo hi) hz, _, 0, (r.drop (HT.sIx xs.length 0 lo)).take (HT.sIx xs.length xs.length hi - HT.sIx xs.length 0 lo), Heap.get?_push_size _ rfl⟩

def flatV : V → Bool
  | .non => true
  | .bl _ => true
  | .int _ => true
  | .str _ => true
  | _ => false
/-- == of flat values -/
def eqV : V → V → Bool
  | .non, .non => true
  | .bl a, .bl b => a == b
  | .bl a, .int b => (if a then 1 else 0) == b
  | .int a, .bl b => a == (if b then 1 else 0)
  | .int a, .int b => a == b
  | .str a, .str b => a == b
  | _, _ => false
theorem eqAt_V {A : Around} {s : Shared} {y x : V} {u v : Value} (ry : RelV y u) (rx : RelV x v) (fy : flatV y = true) (fx : flatV x = true) : SeqAt.EqAt A s u v (eqV y x) := by
  cases y with
  | non =>
    cases ry
    cases x with
    | non => cases rx; exact SeqAt.EqAt.same _
    | bl b => cases rx; exact SeqAt.EqAt.none_bool b
    | int b => obtain ⟨t, rfl⟩ := rx; exact SeqAt.EqAt.none_int b t
    | str b => obtain ⟨t, rfl⟩ := rx; exact SeqAt.EqAt.none_str b t
    | _ => exact absurd (show false = true from fx) Bool.false_ne_true
  | bl a =>
    cases ry
    cases x with
    | non => cases rx; exact SeqAt.EqAt.bool_none a
    | bl b => cases rx; exact SeqAt.EqAt.bool_bool a b
    | int b => obtain ⟨t, rfl⟩ := rx; exact SeqAt.EqAt.bool_int a b t
    | str b => obtain ⟨t, rfl⟩ := rx; exact SeqAt.EqAt.bool_str a b t
    | _ => exact absurd (show false = true from fx) Bool.false_ne_true
  | int a =>
    obtain ⟨t', rfl⟩ := ry
    cases x with
    | non => cases rx; exact SeqAt.EqAt.int_none a t'
    | bl b => cases rx; exact SeqAt.EqAt.int_bool a t' b
    | int b => obtain ⟨t, rfl⟩ := rx; exact SeqAt.EqAt.int_int a t' b t
    | str b => obtain ⟨t, rfl⟩ := rx; exact SeqAt.EqAt.int_str a t' b t
    | _ => exact absurd (show false = true from fx) Bool.false_ne_true
  | str a =>
    obtain ⟨t', rfl⟩ := ry
    cases x with
    | non => cases rx; exact SeqAt.EqAt.str_none a t'
    | bl b => cases rx; exact SeqAt.EqAt.str_bool a t' b
    | int b => obtain ⟨t, rfl⟩ := rx; exact SeqAt.EqAt.str_int a t' b t
    | str b => obtain ⟨t, rfl⟩ := rx; exact SeqAt.EqAt.str_str a t' b t
    | _ => exact absurd (show false = true from fx) Bool.false_ne_true
  | _ => exact absurd (show false = true from fy) Bool.false_ne_true
theorem call_len_seq : CallR X (.builtin "len") (fun xs H Q => ∃ p ys, xs = [.ref p] ∧ (SqL X.K H p ys ∨ SqT X.K H p ys) ∧ Q (.int ys.length) H) := by
  intro pins s σ H xs us Q I r h
  obtain ⟨p, ys, rfl, hq, q⟩ := h
  obtain ⟨u, rfl, rx⟩ := vals1 r
  cases rx
  have hn := line63
  rcases hq with hq | hq
  · obtain ⟨its, r', pl, hz⟩ := I.list hq
    have hlen := r'.length
    exact Calls.call_len_list pl.isList (by simp only [List.size_toArray] <;> omega) ⟨.int ys.length, H, I.tok _, ⟨s.toks + 1, by rw [List.size_toArray, hlen]⟩, q⟩
  · obtain ⟨its, r', pl, hz⟩ := I.tuple hq
    have hlen := r'.length
    exact len_tuple pl (by simp only [List.size_toArray] <;> omega) ⟨.int ys.length, H, I.tok _, ⟨s.toks + 1, by rw [List.size_toArray, hlen]⟩, q⟩
theorem call_list_of : CallR X (.type "list") (fun xs H Q => ∃ p ys, xs = [.ref p] ∧ (SqL X.K H p ys ∨ SqT X.K H p ys) ∧ ∀ l, H l = none → Q (.ref l) (upd H l (.lst ys))) := by
  intro pins s σ H xs us Q I r h
  obtain ⟨p, ys, rfl, hq, q⟩ := h
  obtain ⟨u, rfl, rx⟩ := vals1 r
  cases rx
  have fin : ∀ (its : List Value), Vals ys its → ys.length ≤ sizeLine → ∀ (h' : Heap) (c' : Nat), (∀ b o', s.heap.get? b = some o' → h'.get? b = some o') →
      h'.get? s.heap.objs.size = some { cls := .type "list", dict := none, data := .seq its.toArray c', slots := #[] } → EP X pins σ Q (.ref s.heap.objs.size) { s with heap := h' } := fun its r' hz h' c' kp e =>
    ⟨.ref s.heap.objs.size, _, I.laid (t' := s.toks) kp (Nat.le_refl _) (show ObjOk X.prog X.w _ h' _ (.lst ys) from ⟨hz, its, c', r', e⟩), rfl, q _ (I.hok.fresh (Nat.le_refl _))⟩
  rcases hq with hq | hq
  · obtain ⟨its, r', pl, hz⟩ := I.list hq
    have hlen := r'.length
    obtain ⟨o, ho, hc, n, hd⟩ := pl.isList
    exact call_list_seq p (.inl rfl) ho hc hd (fun h' c' kp e => fin its r' hz h' c' kp e) (by simp only [List.size_toArray] <;> omega)
  · obtain ⟨its, r', pl, hz⟩ := I.tuple hq
    have hlen := r'.length
    obtain ⟨o, ho, hc, n, hd⟩ := pl
    exact call_list_seq p (.inr rfl) ho hc hd (fun h' c' kp e => fin its r' hz h' c' kp e) (by simp only [List.size_toArray] <;> omega)
/-- the value is of that builtin type -/
def tyV (K : PySem.W.Frag) (T : String) (x : V) (H : Hp) : Prop := match x with
  | .str _ => T = "str"
  | .int _ => T = "int"
  | .ref p => (T = "list" ∧ ∃ xs, SqL K H p xs) ∨ (T = "tuple" ∧ ∃ o, K.lookup p = some o ∧ o.cls = .type "tuple" ∧ o.dict = none) ∨
      (T = "dict" ∧ ((∃ kvs, H p = some (.dK kvs)) ∨ ∃ kvs, H p = some (.dT kvs))) ∨ (T = "set" ∧ ∃ S n, H p = some (.set S n))
  | _ => False
theorem tyV_is {pins : List (Addr × Obj)} {σ : St} {H : Hp} {s : Shared} {T : String} {x : V} {v : Value} (I : Inv X pins σ H s) (r : RelV x v) (ty : tyV X.K T x H) :
    s.TypeIs v T ∧ ∀ a, v = .ref a → ∃ ob, s.heap.get? a = some ob ∧ ob.dict = none := by
  cases x with
  | str z =>
    obtain ⟨t, rfl⟩ := r
    cases (show T = "str" from ty)
    exact ⟨typeIs_str s z t, fun _ e => nomatch e⟩
  | int i =>
    obtain ⟨t, rfl⟩ := r
    cases (show T = "int" from ty)
    exact ⟨typeIs_int s i t, fun _ e => nomatch e⟩
  | ref p =>
    cases r
    rcases ty with ⟨rfl, xs, hq⟩ | ⟨rfl, o, hk, hc, hd⟩ | ⟨rfl, hk⟩ | ⟨rfl, S, n, hk⟩
    · obtain ⟨its, _, pl, _⟩ := I.list hq
      refine ⟨pl.isList.typeIs, fun a e => ?_⟩
      cases e
      obtain ⟨o, n, e, c, hd, _⟩ := pl
      exact ⟨o, e, hd⟩
    · refine ⟨⟨o, I.kIn p o hk, hc⟩, fun a e => ?_⟩
      cases e
      exact ⟨o, I.kIn _ o hk, hd⟩
    · have z : ∃ o, s.heap.get? p = some o ∧ o.ExactDict := by
        rcases hk with ⟨kvs, hk⟩ | ⟨kvs, hk⟩
        · obtain ⟨_, _, _, _, o, _, _, e, ex, _⟩ := I.hok p _ hk
          exact ⟨o, e, ex⟩
        · obtain ⟨_, _, _, _, o, _, _, e, ex, _⟩ := I.hok p _ hk
          exact ⟨o, e, ex⟩
      obtain ⟨o, e, ex⟩ := z
      refine ⟨⟨o, e, ex.1⟩, fun a e2 => ?_⟩
      cases e2
      exact ⟨o, e, ex.2.1⟩
    · obtain ⟨o, _, _, _, e, ex, _⟩ := I.hok p _ hk
      refine ⟨⟨o, e, ex.1⟩, fun a e2 => ?_⟩
      cases e2
      exact ⟨o, e, ex.2.1⟩
  | _ => exact False.elim ty
def tBM0 (K : PySem.W.Frag) (T : String) (r : V → List V → Hp → VK → Prop) (to : TE) : TE := fun σ H Q => to σ H fun x H1 => tyV K T x H1 ∧ r x [] H1 Q
def tBM (K : PySem.W.Frag) (T : String) (r : V → List V → Hp → VK → Prop) (to : TE) (t : TA) : TE := fun σ H Q => to σ H fun x H1 => tyV K T x H1 ∧ t σ H1 fun xs H2 => r x xs H2 Q
variable {o e : Expr} {es : List Expr} {to : TE} {t : TA} {name : Str} {apos cpos : Pos} {T id : String} {r : V → List V → Hp → VK → Prop}
theorem pe_bm0 (pa : PlainAttrs T) (slot : Slot T name id) (hty : typeOf (.builtin id) = pure (.type "method_descriptor")) (hm : MtR X id r) (ho : PE X o to)
    (hbase : attributeBase o name X.env (eval o X.env) = eval o X.env := by rfl) (hline : (apos.endLine == cpos.line) = true := by rfl) : PE X (.Call (.Attribute o name apos) [] [] cpos) (tBM0 X.K T r to) := by
  intro pins s σ H Q I h
  refine wpAny_Call_method0_late hbase hline (thn (ho pins s σ H _ I h) fun v s1 ⟨x, H1, I1, r1, ty, q1⟩ => ?_)
  obtain ⟨h1, h2⟩ := tyV_is I1 r1 ty
  exact ⟨T, id, pa, slot, hty, h1, h2, Calls.callWith_builtin rfl (PySem.evalArgs_none (hm pins s1 σ H1 x [] v [] Q I1 r1 .nil q1))⟩
theorem pe_bm (pa : PlainAttrs T) (slot : Slot T name id) (hty : typeOf (.builtin id) = pure (.type "method_descriptor")) (hm : MtR X id r) (ho : PE X o to) (ha : PA X (e :: es) t)
    (hbase : attributeBase o name X.env (eval o X.env) = eval o X.env := by rfl)
    (hfew : ((backTo cpos (starEach (e :: es) X.env)).all (fun x => !x.1) && (backToKw cpos (keywordEach [] X.env)).all (fun x => x.1.isSome)
      && decide ((e :: es).length + ([] : List Keyword).length + (if ([] : List Keyword).isEmpty then 0 else 1) < 30)) = true := by rfl)
    (hline : (apos.endLine == cpos.line) = true := by rfl) (hs : starEach (e :: es) X.env = (false, eval e X.env) :: starEach es X.env := by rfl) (hplain : (backTo cpos (starEach es X.env)).any (·.1) = false := by rfl) :
    PE X (.Call (.Attribute o name apos) (e :: es) [] cpos) (tBM X.K T r to t) := by
  intro pins s σ H Q I h
  refine wpAny_Call_method_late hbase hfew hline rfl (thn (ho pins s σ H _ I h) fun v s1 ⟨x, H1, I1, r1, ty, q1⟩ => ?_)
  obtain ⟨h1, h2⟩ := tyV_is I1 r1 ty
  refine ⟨T, id, pa, slot, hty, h1, h2, ?_⟩
  have hA := ha cpos pins s1 σ H1 _ I1 q1
  rw [hs] at hA ⊢
  refine Calls.callWith_builtin (by show (false || (backTo cpos (starEach es X.env)).any (·.1)) = false; rw [hplain] <;> rfl) (Calls.evalArgs_plain ?_)
  exact thn hA fun us s2 ⟨vs, H2, I2, r2, q2⟩ => hm pins s2 σ H2 x vs v us Q I2 r1 r2 q2
/- xs.append(e), list.index on a module's tuple .. are MtR facts of 06m -/
end
end L2

namespace L2
open PySem PySem.Spec PyProof.Rows

def MtM (X : Cx) (id : String) (r : V → List V → Hp → VK → Prop) : Prop :=
  ∀ (pins : List (Addr × Obj)) (s : Shared) (σ : St) (H : Hp) (x : V) (xs : List V) (v : Value) (us : List Value) (Q : VK), Inv X pins σ H s → RelV x v → Vals xs us → r x xs H Q →
    wpAny (model X.prog X.w) X.A (call (.builtin id) (v :: us)) (EP X pins σ Q) X.xe s

theorem Vals.one {x : V} {us : List Value} (h : Vals [x] us) : ∃ u, us = [u] ∧ RelV x u := by
  cases h with
  | cons r t => cases t; exact ⟨_, rfl, r⟩
theorem Vals.two {x y : V} {us : List Value} (h : Vals [x, y] us) : ∃ u v, us = [u, v] ∧ RelV x u ∧ RelV y v := by
  cases h with
  | cons r t =>
    cases t with
    | cons q e => cases e; exact ⟨_, _, rfl, r, q⟩
theorem Vals.zero : ∀ {us : List Value}, Vals [] us → us = []
  | _, .nil => rfl
theorem Vals.dropLast {xs : List V} {us : List Value} (h : Vals xs us) : Vals xs.dropLast us.dropLast := by
  induction h with
  | nil => exact .nil
  | cons r t ih =>
    cases t with
    | nil => exact .nil
    | cons q t' => exact .cons r ih
theorem Vals.rep {xs : List V} {us : List Value} (h : Vals xs us) : ∀ k : Nat, Vals (List.replicate k xs).flatten (List.replicate k us).flatten
  | 0 => .nil
  | k + 1 => by
    rw [List.replicate_succ, List.replicate_succ, List.flatten_cons, List.flatten_cons]
    exact Vals.append h (Vals.rep h k)
theorem erase_last {α : Type} (l : List α) : l.eraseIdx (l.length - 1) = l.dropLast := by
  induction l with
  | nil => rfl
  | cons a r ih =>
    cases r with
    | nil => rfl
    | cons b r =>
      have e : (a :: b :: r).length - 1 = ((b :: r).length - 1) + 1 := by
        have h1 : (a :: b :: r).length = r.length + 2 := rfl
        have h2 : (b :: r).length = r.length + 1 := rfl
        omega
      rw [e, List.eraseIdx_cons_succ, ih]
      all_goals rfl
theorem foldl_rep (its : List Value) : ∀ (k : Nat) (acc : List Value),
    List.foldl (fun x1 x2 => x1 ++ x2) acc.toArray (List.replicate k its.toArray) = (acc ++ (List.replicate k its).flatten).toArray
  | 0, acc => by simp
  | k + 1, acc => by
    have e : acc.toArray ++ its.toArray = (acc ++ its).toArray := by simp
    have e2 : (acc ++ its) ++ (List.replicate k its).flatten = acc ++ (List.replicate (k + 1) its).flatten := by
      rw [List.replicate_succ, List.flatten_cons, List.append_assoc]
    rw [← e2, ← foldl_rep its k (acc ++ its), ← e, List.replicate_succ, List.foldl_cons]

section
variable {X : Cx} {pins : List (Addr × Obj)} {σ : St} {H : Hp} {s : Shared} {l b : Addr} {xs ys zs : List V}

theorem Inv.lset {its its' : List Value} {n : Nat} {f : Array Value → Array Value} {t' : Nat} (I : Inv X pins σ H s) (hH : H l = some (.lst xs))
    (e : s.heap.get? l = some { cls := .type "list", data := .seq its.toArray n }) (hf : f its.toArray = its'.toArray) (hv : Vals ys its') (hz : ys.length ≤ sizeLine) :
    Inv X pins σ (upd H l (.lst ys)) { s with heap := s.heap.update l (Obj.mapSeq f), toks := t' } := by
  have q := PySem.IsL.update e f
  rw [hf] at q
  refine I.write (x := l) (e := l) (by rw [hH]; exact trivial) (.inl rfl) (fun b' u hb hu => (Heap.get?_update_other s.heap (Obj.mapSeq f) (Ne.symm hb)).trans hu) ⟨_, q⟩ ?_
  exact ⟨hz, its', _, hv, q⟩
theorem Inv.lnew {its : List Value} {t' : Nat} (I : Inv X pins σ H s) (hv : Vals ys its) (hz : ys.length ≤ sizeLine) :
    Inv X pins σ (upd H s.heap.objs.size (.lst ys)) { s with heap := s.heap.push { cls := .type "list", data := .seq its.toArray }, toks := t' } :=
  I.laid (fun _ _ q => Heap.get?_push_of_some _ q) (Nat.le_refl _) ⟨hz, its, 0, hv, Heap.get?_push_size _ rfl⟩
theorem Inv.fresh (I : Inv X pins σ H s) : H s.heap.objs.size = none := I.hok.fresh (Nat.le_refl _)
theorem Inv.lstM (I : Inv X pins σ H s) (hH : H l = some (.lst xs)) : xs.length ≤ sizeLine ∧ ∃ (its : List Value) (n : Nat), Vals xs its ∧ xs.length = its.length ∧ s.heap.get? l = some { cls := .type "list", data := .seq its.toArray n } := by
  obtain ⟨z, its, n, r, e⟩ := I.hok l _ hH
  exact ⟨z, its, n, r, r.length, e⟩

theorem notLongL {n : Nat} (h : n ≤ sizeLine) : Builtin.List.listTooLong n = false := by
  unfold Builtin.List.listTooLong
  exact decide_eq_false (by omega)
end

section
variable {X : Cx}

def rAppend : V → List V → Hp → VK → Prop := fun x vs H Q => ∃ l xs y, x = .ref l ∧ vs = [y] ∧ H l = some (.lst xs) ∧ xs.length < sizeLine ∧ Q .non (upd H l (.lst (xs ++ [y])))
theorem mt_append : MtM X "list.append" rAppend := by
  intro pins s σ H x vs v us Q I rx rv h
  obtain ⟨l, xs, y, rfl, rfl, hH, hz, q⟩ := h
  cases rx
  obtain ⟨u, rfl, ru⟩ := rv.one
  obtain ⟨z, its, n, r, hl, e⟩ := I.lstM hH
  refine call_meets F.slot_list_append ⟨_, e, rfl⟩ F.entry_list_append (F.args_list_append_2 _ _) (PySem.list_append l its.toArray n u (by rw [List.size_toArray]; omega)) ⟨e, ?_⟩
  refine ⟨.non, _, I.lset (its' := its ++ [u]) hH e (by simp) (r.append (.cons ru .nil)) ?_, rfl, q⟩
  rw [List.length_append, List.length_singleton]
  omega

def rPop : V → List V → Hp → VK → Prop := fun x vs H Q => ∃ l xs y, x = .ref l ∧ vs = [] ∧ H l = some (.lst xs) ∧ xs[xs.length - 1]? = some y ∧ Q y (upd H l (.lst xs.dropLast))
theorem mt_pop : MtM X "list.pop" rPop := by
  intro pins s σ H x vs v us Q I rx rv h
  obtain ⟨l, xs, y, rfl, rfl, hH, hy, q⟩ := h
  cases rx
  have hus := rv.zero
  subst hus
  obtain ⟨z, its, n, r, hl, e⟩ := I.lstM hH
  obtain ⟨u, hu, ru⟩ := r.get hy
  have hy' : its.toArray[its.toArray.size - 1]? = some u := by
    show its.toArray[its.length - 1]? = some u
    rw [← Array.getElem?_toList, ← hl]
    exact hu
  refine call_meets F.slot_list_pop ⟨_, e, rfl⟩ F.entry_list_pop (F.args_list_pop_1 _) (MeetsSeq.list_pop_last l its.toArray n u hy' (by rw [List.size_toArray]; omega)) ⟨e, ?_⟩
  refine ⟨y, _, I.lset (its' := its.dropLast) hH e ?_ r.dropLast ?_, ru, q⟩
  · show its.toArray.eraseIdxIfInBounds (its.toArray.size - 1) = its.dropLast.toArray
    rw [List.size_toArray, List.eraseIdxIfInBounds_toArray, erase_last]
  · rw [List.length_dropLast]
    omega

def rCat : R2 := fun x y H Q => ∃ l b xs zs, x = .ref l ∧ y = .ref b ∧ H l = some (.lst xs) ∧ H b = some (.lst zs) ∧ xs.length + zs.length ≤ sizeLine ∧ ∀ p, H p = none → Q (.ref p) (upd H p (.lst (xs ++ zs)))
theorem op_cat : OpR X (binaryOp .Add) rCat := by
  intro pins s σ H x y v u Q I rx ry h
  obtain ⟨l, b, xs, zs, rfl, rfl, hH, hB, hz, q⟩ := h
  cases rx
  cases ry
  obtain ⟨z, its, n, r, hl, e⟩ := I.lstM hH
  obtain ⟨z2, its2, n2, r2, hl2, e2⟩ := I.lstM hB
  refine PySem.P.add_list e e2 ?_ (by rw [List.size_toArray, List.size_toArray]; omega)
  have ea : its.toArray ++ its2.toArray = (its ++ its2).toArray := by simp
  rw [ea]
  exact ⟨.ref _, _, I.lnew (t' := s.toks) (r.append r2) (by rw [List.length_append]; omega), rfl, q _ I.fresh⟩
/-- a list times an int (a negative one is nothing) -/
def rRep : R2 := fun x y H Q => ∃ l k xs, x = .ref l ∧ y = .int k ∧ H l = some (.lst xs) ∧ -(2 ^ 63) ≤ k ∧ k < 2 ^ 63 ∧ xs.length * k.toNat ≤ sizeLine ∧
  ∀ p, H p = none → Q (.ref p) (upd H p (.lst (List.replicate k.toNat xs).flatten))
theorem len_rep {α : Type} (xs : List α) (k : Nat) : (List.replicate k xs).flatten.length = k * xs.length := by
  induction k with
  | zero => simp
  | succ k ih => rw [List.replicate_succ, List.flatten_cons, List.length_append, ih, Nat.succ_mul, Nat.add_comm]
theorem op_rep : OpR X (binaryOp .Mult) rRep := by
  intro pins s σ H x y v u Q I rx ry h
  obtain ⟨l, k, xs, rfl, rfl, hH, h1, h2, hz, q⟩ := h
  cases rx
  obtain ⟨t, rfl⟩ := ry
  obtain ⟨z, its, n, r, hl, e⟩ := I.lstM hH
  have hlen : its.toArray.size * k.toNat ≤ sizeLine := by rw [List.size_toArray, ← hl]; exact hz
  have hcap : ¬ its.toArray.size * k.toNat > (2 ^ 63 - 1) / 8 := by
    have : (sizeLine : Nat) ≤ (2 ^ 63 - 1) / 8 := by decide
    omega
  have hfit : ¬ (!Builtin.List.listFitsIndex k) = true := by
    rw [fitsIndex_both h1 h2]
    exact Bool.false_ne_true
  have hlong : ¬ Builtin.List.listTooLong (its.toArray.size * k.toNat) = true := by
    rw [notLongL hlen]
    exact Bool.false_ne_true
  have hnew : List.foldl (fun x1 x2 => x1 ++ x2) #[] (List.replicate (if its.toArray.isEmpty = true then 0 else k.toNat) its.toArray) = (List.replicate k.toNat its).flatten.toArray := by
    have f0 : ∀ m : Nat, List.foldl (fun x1 x2 => x1 ++ x2) #[] (List.replicate m its.toArray) = (List.replicate m its).flatten.toArray := fun m => by
      have := foldl_rep its m []
      rw [List.nil_append] at this
      exact this
    rw [f0]
    cases its with
    | nil => simp
    | cons a r' => rw [if_neg (by simp)]
  refine wpAny_binaryOp_repeat_ref (T := "list") (U := "int") (by decide) ⟨_, e, rfl⟩ (fun s' => typeIs_int s' k t) noFill_list_mul F.fills_int_mul F.slot_int_rmul repeat_list F.slot_int_index.lookup
    (call_meets F.slot_int_rmul (typeIs_int s k t) F.entry_int_rmul (F.args_int_rmul_2 _ _) (int___rmul___int_list k t l its.toArray n)
      ⟨e, rfl, ⟨_, e, rfl⟩, call_meets F.slot_list_mul ⟨_, e, rfl⟩ F.entry_list_mul (F.args_list_mul_2 _ _) (AutoListH.list___mul___list_int_3 l its.toArray n k t hfit hcap hlong) ⟨e, ?_⟩⟩)
  rw [hnew]
  exact ⟨.ref _, _, I.lnew (t' := s.toks) (r.rep k.toNat) (by rw [len_rep, Nat.mul_comm]; exact hz), rfl, q _ I.fresh⟩

end

section
variable {prog : Program} {w : World} {A : Around} {E : Value → Shared → Prop} {s : Shared}
end

section
variable {X : Cx}
end
end L2

namespace Att
open PySem PySem.W PySem.Calls PyProof.Rows

theorem ints_of_wellAll {P : Params} {h : Heap} : ∀ (ns : List Int) (vs : List Value), WellAll P h vs (ns.map WData.int) → IntsAre vs ns := by
  intro ns
  induction ns with
  | nil =>
    intro vs w
    rw [List.map_nil] at w
    cases w
    exact .nil
  | cons n ns ih =>
    intro vs w
    rw [List.map_cons] at w
    cases w with
    | cons a b =>
      cases a
      exact .cons _ _ (ih _ b)

theorem script_of {l : OpenLaw} {n : Nat} (hn : l.most = some n) {P : Params} {h : Heap} {args : List WData} {vals : List Value}
    (hpre : l.row.toRowW.claim.pre args = true) (hwl : WellAll P h vals args) :
    ∃ a vs ns, vals = [Value.ref a] ∧ args = [WData.list (ns.map WData.int)] ∧ h.get? a = some { cls := .type "list", data := .seq vs.toArray } ∧ IntsAre vs ns ∧ ns.length ≤ n := by
  have hsh : WShape.hasAll [] args [.list .int] = true := (pre_splitW hpre).1
  have hc : l.pre.holds [] { args := args } = true := (pre_splitW hpre).2
  obtain ⟨d, r, rfl, h1, h2⟩ := hasAllW_cons hsh
  obtain rfl := hasAllW_nil h2
  obtain ⟨xs, rfl, h3⟩ := hasW_list h1
  obtain ⟨ns, rfl⟩ := items_int h3
  have hlen : ns.length ≤ n := by
    unfold OpenLaw.pre at hc
    have h4 : (WTm.not (.lt (.lit (.int (n : Int))) (.len (.arg 0)))).holds [] { args := [.list (ns.map .int)] } = true := by
      have h4 := (holds_andW hc).1
      rw [hn] at h4
      exact h4
    have h5 := condW_of h4 (w_not (w_lt w_lit (w_len_list (w_arg rfl))))
    rw [List.length_map] at h5
    refine Nat.le_of_not_lt fun q => ?_
    have q' : (n : Int) < ((ns.length : Nat) : Int) := by omega
    first
      | (rw [decide_eq_true q'] at h5; exact absurd h5 (by decide))
      | (simp at h5; omega)
  cases hwl with
  | cons w1 w2 =>
    cases w2
    cases w1 with
    | list ho hall => exact ⟨_, _, ns, rfl, rfl, ho, ints_of_wellAll ns _ hall, hlen⟩

theorem post_true (l : OpenLaw) (args : List WData) : l.row.toRowW.claim.post args (.bool true) args = true :=
  postW_of (r := l.row.toRowW) (X := (true == true))
    (show WShape.has [] (.bool true) .bool = true by first | rfl | decide | simp [WShape.has, WShape.arms, WShape.armsAll])
    (show (WTm.eq .res (.lit (.bool true))).value [] { args := args, res := some (.bool true), after := args } = some (.bool (true == true)) from w_eq_bool (w_res rfl) w_lit) rfl

/-- the same from a codeAny of the CALL (for a layer whose function contracts speak of calls) -/
theorem attach_call {l : OpenLaw} {n : Nat} {q : Program} {loose : List Str} {XP : (Str → Option Value) → Heap → Prop} {YP : World → Heap → Prop} {d : DefRec}
    (hn : l.most = some n) (hdf : d.params.defaults = [])
    (call : ∀ (w : World) (s₀ s₁ : Shared) (mg mb : Str → Option Value) (fa : Addr) (o : Obj) (pm cd doc : Value) (a : Addr) (vs : List Value) (ns : List Int),
      Ground q loose [] XP w s₀ mg mb s₁.heap → YP w s₁.heap →
      s₁.heap.get? fa = some o → o.data = .func (docDef d.name d.params d.body d.scope pm cd doc) → s₁.heap.CodeRec cd d.name → mg d.name = some (.ref fa) →
      s₁.heap.get? a = some { cls := .type "list", data := .seq vs.toArray } → IntsAre vs ns → ns.length ≤ n → s₁.gens = #[] →
      codeAny (model l.prog w) callerA (.call (.ref fa) ⟨[.ref a], []⟩) (fun r s' => r = .ok (.ret (.bool true)) ∧ OldK s₁.heap s'.heap ∧ s'.os = s₁.os ∧ AllBare s'.gens) s₁) :
    WalkO q loose XP YP l.row.toRowW d [] (fun f vs => PySem.call f vs) := by
  intro w s₀ s₁ mg mb G Y fa o pm cd doc dV kV ho hd hcd hD hmg hg args vals as hpre hlay hrd hwl hlo
  obtain rfl : dV = .none := Dflts.none hD hdf
  obtain rfl : kV = .none := Dflts.noKw hD
  obtain ⟨a, vs, ns, rfl, rfl, hobj, hints, hlen⟩ := script_of hn hpre hwl
  refine enter_call (codeAny_mono (call w s₀ s₁ mg mb fa o pm cd doc a vs ns G Y ho (fd_plain hd) hcd hmg hobj hints hlen hg) fun r s' hq => ?_)
  obtain ⟨rfl, h2, h3, h4⟩ := hq
  exact ⟨.inl ⟨.bool true, .bool true, [], rfl, fun _ => rfl, .bool true, post_true l _, fun _ => ⟨List.Pairwise.nil, fun _ hm => (nomatch hm)⟩⟩, h2, h3, h4⟩

section
variable {prog : Program} {w : World} {A : Around} {E : Value → Shared → Prop} {s : Shared} {K : Frag}

end
end Att

namespace L2
open PySem PySem.Spec PyProof.Rows

theorem vals_ints : ∀ {vs : List Value} {ns : List Int}, IntsAre vs ns → Vals (ns.map V.int) vs
  | _, _, .nil => .nil
  | _, _, .cons n t h => .cons ⟨t, rfl⟩ (vals_ints h)

/-- nothing is tracked but the script, known to the object (or it is an object of the module) -/
def Only (H : Hp) : Prop := ∀ b, H b = none ∨ ∃ o xs, H b = some (.frz o (.lst xs))

/-- THE HEAD: the law's promise, at the heap behind the top. F, the promise of the law's def, may use that base is part of the heap (so K.In base, base.Ns mainGlobals mg stand in Mod) -/
theorem law_call {P : Program} {w : World} {K : PySem.W.Frag} {mg mb : Str → Option Value} {CX : CXT} {k : Nat} {fa a : Addr} {fd : FuncData} {x : Str} {sp : Sp} {s₁ : Shared} {vs : List Value} {ns : List Int}
    (KX : K.In s₁.heap) (hns : s₁.heap.Ns mainGlobals mg) (hb : s₁.heap.Ns builtinsNs mb) (hbb : ∀ x : Str, x ≠ "__name__" → mb x = bootBuiltins x) (hlim : s₁.heap.NoLimit) (hg : s₁.gens = #[])
    (ha : s₁.heap.get? a = some { cls := .type "list", data := .seq vs.toArray }) (hi : IntsAre vs ns) (hl : ns.length ≤ sizeLine) (hr : Room k callerA)
    (F : ∀ base : Heap, K.In base → base.Ns mainGlobals mg → FnOk P w K mg base CX k fa fd [x] sp) (hbind : ∀ (s : Shared) (u : Value), BindsTo s fd ⟨[u], []⟩ [(x, u)])
    (hsp : ∀ H : Hp, Only H → SqL K H a (ns.map V.int) → sp [.ref a] H (fun v _ => v = .bl true) fun _ _ _ => False)
    (hCX : ∀ H e s', CX [] H s₁ (fun _ _ _ => False) e s' → False) :
    codeAny (model P w) callerA (.call (.ref fa) ⟨[.ref a], []⟩) (fun r s' => r = .ok (.ret (.bool true)) ∧ OldK s₁.heap s'.heap ∧ s'.os = s₁.os ∧ AllBare s'.gens) s₁ := by
  have rv := vals_ints hi
  have lenV := hi.length
  -- from an abstract heap in which nothing but the script may be tracked
  have core : ∀ H : Hp, Only H → SqL K H a (ns.map V.int) → HOk P w H s₁.heap → (∀ b, H b ≠ none → b = a) → (H a ≠ none → K.lookup a = none) →
      codeAny (model P w) callerA (.call (.ref fa) ⟨[.ref a], []⟩) (fun r s' => r = .ok (.ret (.bool true)) ∧ OldK s₁.heap s'.heap ∧ s'.os = s₁.os ∧ AllBare s'.gens) s₁ := by
    intro H hO hS hok hA hK
    have base_of : ∀ {b : Addr} {o : Obj}, s₁.heap.get? b = some o → H b = none → (hidT s₁.heap H).get? b = some o := fun e n => hidT_get e n
    have noA : ∀ {b : Addr} {o : Obj} {es : Array DictEntry} {ep : Nat}, s₁.heap.get? b = some o → o.data = .dict es ep → H b = none := fun {b o es ep} e d => by
      cases q : H b with
      | none => rfl
      | some u =>
        have e' : b = a := hA b (by rw [q]; simp)
        subst e'
        rw [ha] at e; cases e
        have d' : Data.seq vs.toArray _ = Data.dict es ep := d
        cases d'
    have nsK : ∀ {b : Addr} {m : Str → Option Value}, s₁.heap.Ns b m → (hidT s₁.heap H).Ns b m := fun {b m} ⟨o, es, ep, e, d, r⟩ => ⟨o, es, ep, base_of e (noA e d), d, r⟩
    have hKb : K.In (hidT s₁.heap H) := fun b o e => base_of (KX b o e) (by
      cases q : H b with
      | none => rfl
      | some u =>
        have e' : b = a := hA b (by rw [q]; simp)
        subst e'
        rw [hK (by rw [q]; simp)] at e; cases e)
    have hM : Mod K mg (hidT s₁.heap H) := ⟨hKb, nsK hns, ⟨mb, nsK hb, hbb⟩, let ⟨mc, h1, h2⟩ := hlim; ⟨mc, nsK h1, h2⟩⟩
    have e0 : Env0 P w K mg (hidT s₁.heap H) callerA [] s₁ H := ⟨rfl, hM, fun b o e => of_hidT e, Nat.le_of_eq (hidT_size _ _), trivial, fun b hb => absurd (show b ∈ ([] : List Addr) from hb) (by simp), hok, .of_eq hg⟩
    refine codeAny_mono ((F _ hKb (nsK hns)).run callerA [] s₁ H ⟨[.ref a], []⟩ [.ref a] [.ref a] _ _ hr e0 (hbind s₁ (.ref a)) (.cons rfl .nil) (hsp H hO hS)) fun r s' h => ?_
    cases r with
    | error e => exact (hCX H e s' h).elim
    | ok fl =>
      cases fl with
      | next => exact False.elim h
      | brk => exact False.elim h
      | cont => exact False.elim h
      | ret u =>
        obtain ⟨v, H', os, bare, un, hok', r', q⟩ := h
        have q' : v = .bl true := q
        subst q'
        obtain rfl : u = Value.bool true := r'
        refine ⟨rfl, OldK.of_keep fun b o e => ?_, os, bare⟩
        cases q : H b with
        | none => exact un.keep b o e q (by intro z; exact absurd (show b ∈ ([] : List Addr) from z) (by simp)) (by simp)
        | some u =>
          rcases hO b with z | ⟨ob, xs, z⟩
          · rw [q] at z; cases z
          · have z2 := un.frzs b ob _ z
            obtain ⟨e1, _⟩ := hok b _ z
            obtain ⟨e2, _⟩ := hok' b _ z2
            rw [e] at e1; cases e1
            exact e2
  cases hk : K.lookup a with
  | some o =>
    -- the script is one of the module's own objects
    have e := KX a o hk
    rw [ha] at e
    cases e
    refine core (fun _ => none) (fun _ => .inl rfl) (.inr ⟨_, vs.toArray, _, hk, rfl, rfl, rfl, by rw [List.size_toArray, lenV]; exact hl, by simpa using rv⟩) (fun b u z => by have z' : (none : Option HO) = some u := z; cases z') (fun b z => absurd rfl z) fun z => absurd rfl z
  | none =>
    refine core (fun b => if b = a then some (.frz { cls := .type "list", data := .seq vs.toArray } (.lst (ns.map V.int))) else none) (fun b => ?_) (.inl (.inr ⟨{ cls := .type "list", data := .seq vs.toArray }, if_pos rfl⟩)) (fun b u z => ?_) (fun b z => ?_) fun _ => hk
    · by_cases hb : b = a
      · exact .inr ⟨_, _, if_pos hb⟩
      · exact .inl (if_neg hb)
    · by_cases hb : b = a
      · have z' := (if_pos hb).symm.trans z
        cases z'
        subst hb
        exact ⟨ha, by rw [List.length_map]; exact hl, vs, _, rv, ha⟩
      · have z' := (if_neg hb).symm.trans z
        cases z'
    · by_cases hb : b = a
      · exact hb
      · exact absurd (if_neg hb) z
end L2

namespace L2
open PySem PySem.Spec PyProof.Rows

/-- the goal that k_head leaves (case hc), from the law's promise. F gives the function object fd (K's own) once, then the promise over every base -/
theorem walk_of {l : PySem.W.OpenLaw} {n k : Nat} {q : Program} {loose : List Str} {XP : (Str → Option Value) → Heap → Prop} {YP : World → Heap → Prop} {d : DefRec} {K : Params → PySem.W.Frag} {CX : World → CXT} {sp : World → Sp} {x : Str}
    (hn : l.most = some n) (hn2 : n ≤ sizeLine) (hdf : d.params.defaults = []) (hr : Room k callerA)
    (hY : ∀ (w : World) (h : Heap), YP w h → (K w.params).In h)
    (F : ∀ (w : World) (mg : Str → Option Value) (fa : Addr) (h : Heap), (K w.params).In h → h.Ns mainGlobals mg → mg d.name = some (.ref fa) →
      ∃ fd : FuncData, (∀ (s : Shared) (u : Value), BindsTo s fd ⟨[u], []⟩ [(x, u)]) ∧
        ∀ base : Heap, (K w.params).In base → base.Ns mainGlobals mg → FnOk l.prog w (K w.params) mg base (CX w) k fa fd [x] (sp w))
    (hsp : ∀ (w : World) (H : Hp) (a : Addr) (ns : List Int), ns.length ≤ n → Only H → SqL (K w.params) H a (ns.map V.int) → sp w [.ref a] H (fun v _ => v = .bl true) fun _ _ _ => False)
    (hCX : ∀ (w : World) (H : Hp) (s : Shared) (e : Value) (s' : Shared), CX w [] H s (fun _ _ _ => False) e s' → False) :
    PySem.W.WalkO q loose XP YP l.row.toRowW d [] (fun f vs => PySem.call f vs) := by
  refine Att.attach_call hn hdf fun w s₀ s₁ mg mb fa o pm cd doc a vs ns G Y ho hd hcd hmg hobj hints hlen hg => ?_
  have KX := hY w _ Y
  obtain ⟨fd, hb, hF⟩ := F w mg fa _ KX G.T.g hmg
  exact law_call KX G.T.g G.T.b G.T.builtins G.T.nolimit hg hobj hints (Nat.le_trans hlen hn2) hr hF hb (fun H hO hS => hsp w H a ns hlen hO hS) fun H e s' => hCX w H s₁ e s'
end L2



namespace L2
open PySem PySem.Spec PyProof.Rows

/-- the j-th statement of a class's body -/
def inClass (s : Stmt) (j : Nat) : Stmt := match s with
  | .ClassDef _ _ _ body _ _ _ _ _ _ _ => body.getD j (.Pass ⟨0, 0, 0, 0⟩)
  | _ => .Pass ⟨0, 0, 0, 0⟩
def defArgs (s : Stmt) : Arguments := match s with
  | .FunctionDef _ a _ _ _ _ _ _ _ _ => a
  | _ => { posonlyargs := [], args := [], vararg := none, kwonlyargs := [], kw_defaults := [], kwarg := none, defaults := [] }
def defBody (s : Stmt) : List Stmt := match s with
  | .FunctionDef _ _ b _ _ _ _ _ _ _ => b
  | _ => []
def defScope (s : Stmt) : Scope := match s with
  | .FunctionDef _ _ _ _ _ _ sc _ _ _ => sc
  | _ => { kind := .function, names := [], isGenerator := false, isCoroutine := false }

abbrev CX0 : CXT := fun _ _ _ _ _ _ => False
abbrev E0 : XK := fun _ _ _ => False
theorem pass0 {X : Cx} : Passes CX0 X E0 := fun _ _ _ _ _ _ _ h => h.elim

structure Fun (K : PySem.W.Frag) (x qual : Str) (st : Stmt) (f : Addr) (fd : FuncData) : Prop where
  ex : ∃ (oc : Value) (od : Option Addr) (kV doc pm : Value) (an : Option Addr) (cdv ct : Value) (osl : Array (Option Value)),
    fd = PySem.W.fnOf x qual (defArgs st) (defBody st) (defScope st) .none kV doc pm an cdv ct ∧ K.lookup f = some ⟨oc, od, .func fd, osl⟩ ∧ PySem.W.codeIn K cdv qual = true
  kp : PySem.W.keepIn K (.ref f) = true
section
variable {P : Program} {w : World} {K : PySem.W.Frag} {mg : Str → Option Value} {base : Heap}
/-- THE RULE for a def: its body as a term of rules, and the reading of that term -/
theorem Fun.ok {x qual : Str} {st : Stmt} {f : Addr} {fd : FuncData} {N ps : List Str} {k : Nat} {sp : Sp} (F : Fun K x qual st f fd) (S : FnScope N ps (defScope st)) (len : ∀ vs H Q E, sp vs H Q E → vs.length = ps.length)
    (hbody : ∀ (cdv : Value) (A : Around) (outer : List Env) (s : Shared) (H : Hp) (vs : List V) (Q : VK) (E : XK), Room k (A.deeper (envOfC qual (defScope st) s.heap.objs.size f cdv)) → sp vs H Q E →
      ∃ t, PSs (cxOf CX0 P w K mg base N qual (defScope st) f cdv A outer s H E).nox (defBody st) t ∧ t { nx := fun _ H' => Q .non H', rt := Q } (start N vs) H) : FnOk P w K mg base CX0 (k + 1) f fd ps sp := by
  obtain ⟨oc, od, kV, doc, pm, an, cdv, ct, osl, rfl, lk, hcd⟩ := F.ex
  refine fn_of lk hcd S len fun A outer s H vs Q E hr hsp => ?_
  obtain ⟨t, h, q⟩ := hbody cdv A outer s H vs Q E hr hsp
  exact ⟨t, h.nox, q⟩
/-- how its arguments bind (no defaults): h is «fun _ _ _ _ _ _ us hl => match us, hl with | [_, _], _ => rfl», one _ a parameter -/
theorem Fun.binds {x qual : Str} {st : Stmt} {f : Addr} {fd : FuncData} {ps : List Str} (F : Fun K x qual st f fd)
    (h : ∀ (kV doc pm : Value) (an : Option Addr) (cdv ct : Value) (us : List Value), us.length = ps.length → bindArgs (PySem.W.fnOf x qual (defArgs st) (defBody st) (defScope st) .none kV doc pm an cdv ct) ⟨us, []⟩ = pure (ps.zip us)) : Binds K fd ps [] := by
  obtain ⟨oc, od, kV, doc, pm, an, cdv, ct, osl, rfl, lk, hcd⟩ := F.ex
  exact .all (h kV doc pm an cdv ct)
theorem fun_mk {x qual : Str} {st : Stmt} {f : Addr} {oc : Value} {od an : Option Addr} {osl : Array (Option Value)} {kV doc pm cdv ct : Value} (l : K.lookup f = some ⟨oc, od, .func (PySem.W.fnOf x qual (defArgs st) (defBody st) (defScope st) .none kV doc pm an cdv ct), osl⟩)
    (c : PySem.W.codeIn K cdv qual = true) (k : PySem.W.keepIn K (.ref f) = true) : Fun K x qual st f (PySem.W.fnOf x qual (defArgs st) (defBody st) (defScope st) .none kV doc pm an cdv ct) := ⟨⟨oc, od, kV, doc, pm, an, cdv, ct, osl, rfl, l, c⟩, k⟩
end
theorem hu_of {A : Around} {k : Nat} (hr : Room k A) : A.units + 1 < cLine := Nat.lt_of_le_of_lt (Nat.add_le_add_left (by decide : 1 ≤ 64) _) hr.units
theorem small1000 {n : Nat} (h : n ≤ 1000) : n < sizeLine := Nat.lt_of_le_of_lt h (by decide)

section
variable {X : Cx}
theorem pv (i : Nat) {x : Str} {pos : Pos} (hN : X.N[i]? = some x := by rfl) (hv : Vis X.env.scope x := by first | exact Or.inl rfl | exact Or.inr (Or.inl rfl) | exact Or.inr (Or.inr rfl)) (hd : (x == ("__debug__" : Str)) = false := by decide)
    (hcd : (x == ("__classdict__" : Str)) = false := by decide) : PE X (.Name x pos) (tVar i) := pe_var hN hv hd hcd
end

theorem iteF {A B : Prop} (h : B) : if false = true then A else B := by
  rw [if_neg Bool.false_ne_true]
  exact h
theorem iteT {A B : Prop} (h : A) : if true = true then A else B := by
  rw [if_pos rfl]
  exact h
/-- all that was tracked is as it was -/
def Same (H H' : Hp) : Prop := ∀ b o, H b = some o → H' b = some o
theorem Same.refl (H : Hp) : Same H H := fun _ _ h => h
theorem Same.trans {H H1 H2 : Hp} (a : Same H H1) (b : Same H1 H2) : Same H H2 := fun c o h => b c o (a c o h)
theorem Same.free {H H' : Hp} (e : Same H H') {l : Addr} (h : H' l = Option.none) : H l = Option.none := by
  cases q : H l with
  | none => rfl
  | some o =>
    rw [e l o q] at h
    cases h
theorem Same.seq {K : PySem.W.Frag} {H H' : Hp} {a : Addr} {xs : List V} (e : Same H H') (h : SqL K H a xs) : SqL K H' a xs := by
  rcases h with (h | ⟨o, h⟩) | h
  · exact .inl (.inl (e _ _ h))
  · exact .inl (.inr ⟨o, e _ _ h⟩)
  · exact .inr h

end L2
namespace L2
open PySem PySem.Spec PyProof.Rows

def clGo (env : Env) : List (Str × NameKind) → List (Str × Addr) → List (Str × Addr)
  | [], acc => acc
  | (n, k) :: r, acc => clGo env r (if k == .free then (n, (env.cells.lookup n).getD 0) :: acc else acc)
theorem clGo_run (env : Env) : ∀ (l : List (Str × NameKind)) (acc : List (Str × Addr)), (∀ x ∈ l, x.2 = .free → ∃ c, env.cells.lookup x.1 = some c) →
    (forIn l acc (fun x r => if (x.snd == NameKind.free) = true then (do let c ← cellOf env x.fst; pure (ForInStep.yield ((x.fst, c) :: r))) else pure (ForInStep.yield r)) : Sem (List (Str × Addr))) = pure (clGo env l acc)
  | [], acc, _ => rfl
  | (n, k) :: r, acc, h => by
    rw [List.forIn_cons]
    have ih := clGo_run env r
    unfold clGo
    by_cases hk : (k == NameKind.free) = true
    · obtain ⟨c, hc⟩ := h (n, k) List.mem_cons_self (by simpa using hk)
      have e : cellOf env n = pure c := by unfold cellOf; rw [hc]
      have hc' : env.cells.lookup n = some c := hc
      dsimp only
      rw [if_pos hk, if_pos hk, e, hc']
      exact ih _ fun x hx => h x (List.mem_cons_of_mem _ hx)
    · dsimp only
      rw [if_neg hk, if_neg hk]
      exact ih _ fun x hx => h x (List.mem_cons_of_mem _ hx)
theorem clGo_eq {scope : Scope} {env : Env} (h : ∀ x ∈ scope.names, x.2 = .free → ∃ c, env.cells.lookup x.1 = some c) : closureFor scope env = pure (clGo env scope.names []) := by
  simp only [closureFor]
  rw [clGo_run env scope.names [] h]
  rfl
theorem clGo_sub {env : Env} : ∀ (l : List (Str × NameKind)) (acc : List (Str × Addr)), (∀ x ∈ l, x.2 = .free → ∃ c, env.cells.lookup x.1 = some c) → (∀ x c, acc.lookup x = some c → env.cells.lookup x = some c) →
    ∀ x c, (clGo env l acc).lookup x = some c → env.cells.lookup x = some c
  | [], acc, _, ha => ha
  | (n, k) :: r, acc, h, ha => by
    unfold clGo
    refine clGo_sub r _ (fun x hx => h x (List.mem_cons_of_mem _ hx)) fun x c e => ?_
    by_cases hk : (k == NameKind.free) = true
    · rw [if_pos hk] at e
      obtain ⟨c', hc⟩ := h (n, k) List.mem_cons_self (by simpa using hk)
      have hc' : env.cells.lookup n = some c' := hc
      rw [List.lookup_cons] at e
      split at e
      · rename_i q
        have q' : x = n := by simpa using q
        subst q'
        rw [hc'] at e ⊢
        simpa using e
      · exact ha x c e
    · rw [if_neg hk] at e
      exact ha x c e
theorem clGo_mono {env : Env} : ∀ (l : List (Str × NameKind)) (acc : List (Str × Addr)) (x : Str), (∃ c, acc.lookup x = some c) → ∃ c, (clGo env l acc).lookup x = some c
  | [], _, _, h => h
  | (n, k) :: r, acc, x, h => by
    unfold clGo
    refine clGo_mono r _ x ?_
    by_cases hk : (k == NameKind.free) = true
    · rw [if_pos hk, List.lookup_cons]
      split
      · exact ⟨_, rfl⟩
      · exact h
    · rw [if_neg hk]; exact h
theorem clGo_has {env : Env} : ∀ (l : List (Str × NameKind)) (acc : List (Str × Addr)) (x : Str), (x, NameKind.free) ∈ l → ∃ c, (clGo env l acc).lookup x = some c
  | (n, k) :: r, acc, x, h => by
    unfold clGo
    rcases List.mem_cons.mp h with e | h
    · cases e
      refine clGo_mono r _ _ ?_
      rw [if_pos (by rfl), List.lookup_cons]
      simp
    · exact clGo_has r _ x h
/-- a name that is free in a block is looked up in a cell there -/
theorem relabel_free {env : Env} : ∀ {names : List (Str × NameKind)} {x : Str}, names.lookup x = some .free →
    (names.map fun (n, k) => if (k == NameKind.free && env.scope.kind == .function && env.kindOf n == some .cell) then (n, NameKind.cell) else (n, k)).lookup x = some .cell ∨
    (names.map fun (n, k) => if (k == NameKind.free && env.scope.kind == .function && env.kindOf n == some .cell) then (n, NameKind.cell) else (n, k)).lookup x = some .free
  | [], _, h => by simp at h
  | (n, k) :: r, x, h => by
    rw [List.map_cons]
    by_cases hx : (x == n) = true
    · rw [List.lookup_cons, hx] at h
      dsimp only at h ⊢
      cases h
      split
      · rw [List.lookup_cons, hx]; exact .inl rfl
      · rw [List.lookup_cons, hx]; exact .inr rfl
    · have hx' : (x == n) = false := by simpa using hx
      rw [List.lookup_cons, hx'] at h
      have ih := relabel_free (env := env) (names := r) (x := x) h
      dsimp only at h ⊢
      split
      · rw [List.lookup_cons, hx']; exact ih
      · rw [List.lookup_cons, hx']; exact ih
theorem relabel_kinds {env : Env} : ∀ {names : List (Str × NameKind)} {x : Str}, 
    ((names.map fun (n, k) => if (k == NameKind.free && env.scope.kind == .function && env.kindOf n == some .cell) then (n, NameKind.cell) else (n, k)).lookup x = some .cell ∨
    (names.map fun (n, k) => if (k == NameKind.free && env.scope.kind == .function && env.kindOf n == some .cell) then (n, NameKind.cell) else (n, k)).lookup x = some .free) →
    (x, NameKind.free) ∈ names ∨ (x, NameKind.cell) ∈ names
  | [], _, h => by simp at h
  | (n, k) :: r, x, h => by
    rw [List.map_cons] at h
    by_cases hx : (x == n) = true
    · have q' : x = n := by simpa using hx
      dsimp only at h
      split at h
      · rename_i hc
        have : k = NameKind.free := by
          cases k <;> simp_all
        subst this q'
        exact .inl List.mem_cons_self
      · rw [List.lookup_cons, hx] at h
        dsimp only at h
        subst q'
        rcases h with h | h
        · cases h; exact .inr List.mem_cons_self
        · cases h; exact .inl List.mem_cons_self
    · have hx' : (x == n) = false := by simpa using hx
      have ih := relabel_kinds (env := env) (names := r) (x := x)
      dsimp only at h
      split at h
      · rw [List.lookup_cons, hx'] at h
        exact (ih h).elim (fun z => .inl (List.mem_cons_of_mem _ z)) fun z => .inr (List.mem_cons_of_mem _ z)
      · rw [List.lookup_cons, hx'] at h
        exact (ih h).elim (fun z => .inl (List.mem_cons_of_mem _ z)) fun z => .inr (List.mem_cons_of_mem _ z)

/-- own: the block's own names; fr: the slots of the frame's names that it reads -/
def compN (own : List Str) (fr : List Nat) (N : List Str) : List Str := own ++ fr.map fun i => (N[i]?).getD ("" : Str)
def compSt (own : List Str) (fr : List Nat) (σ : St) : St := own.map (fun _ => none) ++ fr.map fun i => (σ[i]?).join
def cxComp (X : Cx) (scope : Scope) (own : List Str) (fr : List Nat) (C : Addr) (s₂ : Shared) (H₂ : Hp) (fp : List Addr) : Cx :=
  { X with N := compN own fr X.N, s₀ := s₂, H₀ := H₂, env := compEnvC scope (clGo X.env scope.names []) C X.env, outer := X.stack, ex := fp, fn := fun _ => false, pn := [], xe := fun _ _ => False }
/-- what a block's scope is to be -/
structure CompSc (sc : Scope) (N : List Str) (scope : Scope) (own : List Str) (fr : List Nat) : Prop where
  kind : scope.kind = .function
  nocell : ∀ y ∈ scope.names, y.2 ≠ .cell
  names : ∀ y ∈ scope.names, y.2 = .local → scope.names.lookup y.1 = some .local
  free : ∀ y ∈ scope.names, y.2 = .free → sc.names.lookup y.1 = some .cell ∨ sc.names.lookup y.1 = some .free
  fr0 : ∀ i ∈ fr, (N[i]?.bind fun x => scope.names.lookup x) = some .free
  nd : (compN own fr N).Nodup
theorem CompSc.fr {sc : Scope} {N : List Str} {scope : Scope} {own : List Str} {fr : List Nat} (S : CompSc sc N scope own fr) : ∀ i ∈ fr, ∃ x, N[i]? = some x ∧ scope.names.lookup x = some .free := fun i hi => by
  have q := S.fr0 i hi
  cases e : N[i]? with
  | none => rw [e] at q; cases q
  | some x => rw [e] at q; exact ⟨x, rfl, q⟩
section
variable {X : Cx} {scope : Scope} {own : List Str} {fr : List Nat} {pins : List (Addr × Obj)} {σ : St} {H₂ : Hp} {s₂ : Shared} {fp : List Addr} {C D : Addr} {h₁ : Heap} {m : Str → Option Value} {tk : Nat}
theorem CompSc.cells (S : CompSc X.env.scope X.N scope own fr) (ok : X.Ok) : ∀ x ∈ scope.names, x.2 = .free → ∃ c, X.env.cells.lookup x.1 = some c := fun x hx hf => ok.has x.1 (S.free x hx hf)
theorem compSt_get {i : Nat} {v : V} (h : (compSt own fr σ)[i]? = some (some v)) : ∃ j, own.length ≤ i ∧ fr[i - own.length]? = some j ∧ σ[j]? = some (some v) := by
  unfold compSt at h
  by_cases hi : i < own.length
  · rw [List.getElem?_append_left (by simpa using hi), List.getElem?_map] at h
    cases e : own[i]? with
    | none => rw [e] at h; cases h
    | some a => rw [e] at h; cases h
  · rw [List.getElem?_append_right (by simpa using hi), List.getElem?_map, List.length_map] at h
    cases e : fr[i - own.length]? with
    | none => rw [e] at h; cases h
    | some j =>
      rw [e] at h
      refine ⟨j, by omega, rfl, ?_⟩
      have h' : (σ[j]?).join = some v := by simpa using h
      cases q : σ[j]? with
      | none => rw [q] at h'; cases h'
      | some o => rw [q] at h'; exact congrArg some h'
theorem inv_comp (S : CompSc X.env.scope X.N scope own fr) (I : Inv X pins σ H₂ s₂) (f2 : ∀ b ∈ fp, FpOk X pins H₂ b) (fo : ∀ b ∈ fp, b < s₂.heap.objs.size)
    (hC : s₂.heap.objs.size ≤ C) (hD : s₂.heap.objs.size ≤ D) (hDC : D ≠ C) (old : ∀ b o, s₂.heap.get? b = some o → h₁.get? b = some o) (hns : h₁.Ns C m) (new : ∃ n, h₁.get? D = some { cls := .type "list", data := .seq #[] n }) :
    Inv (cxComp X scope own fr C s₂ H₂ fp) [] (compSt own fr σ) (upd H₂ D (.lst [])) { s₂ with heap := h₁, toks := tk } := by
  have hk := S.cells I.ok
  have sub := clGo_sub (env := X.env) scope.names [] hk (fun x c e => by cases e)
  have fl : ∀ x c, (clGo X.env scope.names []).lookup x = some c → ∃ v, s₂.heap.IsCell c v := fun x c e => I.cell x c (sub x c e)
  have okX : (cxComp X scope own fr C s₂ H₂ fp).Ok := by
    refine ⟨I.ok.mod, S.kind, I.ok.glob, I.ok.blt, hC, fun x y c e1 e2 => I.ok.inj x y c (sub x c e1) (sub y c e2), fun x hx => ?_, fun x c hf => absurd hf (by intro z; cases z), I.ok.hd, I.ok.frames, .inl rfl, fun b hb => ⟨?_, fun x c e z => ?_⟩,
      I.bs, Nat.le_trans I.ok.bsz I.sz, fun b o e hb => ?_, fun b hb => ?_, I.stack, I.stkFree⟩
    · rcases relabel_kinds hx with z | z
      · exact clGo_has _ _ _ z
      · exact absurd rfl (S.nocell _ z)
    · exact Nat.ne_of_lt (Nat.lt_of_lt_of_le (fo b hb) hC)
    · exact (f2 b hb).2.2.2.2.1 x c (sub x c e) z
    · obtain ⟨_, _, _, f3, _⟩ := f2 b hb
      rcases f3 with z | z
      · exact I.ok.noex b o e z
      · exact absurd (Nat.lt_of_lt_of_le (Heap.lt_size (I.ok.bs b o e).1) z) (Nat.lt_irrefl _)
    · obtain ⟨_, f1, f2', _⟩ := f2 b hb
      intro z
      rcases List.mem_cons.mp (I.stkSub b z) with q | q
      · exact f1 q
      · exact f2' q
  have frH : ∀ a, s₂.heap.objs.size ≤ a → H₂ a = none := fun a h => I.hok.fresh h
  refine ⟨okX, rfl, I.bare, Un.laid old hD (frH D hD), ⟨m, hns, fun i x v e1 e2 e3 => ?_⟩, fun x c e => ?_, ?_, fun x c e => ?_, fun p hp => absurd (show p ∈ ([] : List (Addr × Obj)) from hp) (by simp), I.hok.laid old hD ?_, ?_⟩
  · obtain ⟨j, hi, hj, hv⟩ := compSt_get e2
    have hx : X.N[j]? = some x := by
      obtain ⟨y, hy, _⟩ := S.fr j (List.mem_of_getElem? hj)
      have e1' : (compN own fr X.N)[i]? = some x := e1
      unfold compN at e1'
      rw [List.getElem?_append_right hi, List.getElem?_map, hj] at e1'
      have e1'' : (X.N[j]?).getD ("" : Str) = x := by simpa using e1'
      rw [hy] at e1'' ⊢
      exact congrArg some e1''
    obtain ⟨y, hy, hfree⟩ := S.fr j (List.mem_of_getElem? hj)
    rw [hx] at hy; cases hy
    have hkind : X.env.kindOf x = some .cell ∨ X.env.kindOf x = some .free := S.free _ (PySem.mem_of_lookup hfree) rfl
    obtain ⟨mo, hno, hlo⟩ := I.loc
    obtain ⟨u, r, l⟩ := hlo j x v hx hv (hkind.elim (fun z => .inr (.inl z)) fun z => .inr (.inr z))
    refine ⟨u, r, .inr ⟨relabel_free hfree, ?_⟩⟩
    obtain ⟨c, hc⟩ := clGo_has (env := X.env) scope.names [] x (PySem.mem_of_lookup hfree)
    refine ⟨c, hc, ?_⟩
    have hc' := sub x c hc
    rcases l with ⟨k, _⟩ | ⟨_, c', e, o, z1, z2⟩
    · rcases hkind with z | z
      · rw [k] at z; cases z
      · rw [k] at z; cases z
    · rw [hc'] at e; cases e
      exact ⟨o, old _ _ z1, z2⟩
  · obtain ⟨v, o, z1, z2⟩ := fl x c e
    exact ⟨v, o, old _ _ z1, z2⟩
  · show (upd H₂ D (.lst [])) C = none
    rw [upd_ne (Ne.symm hDC)]; exact frH C hC
  · obtain ⟨v, o, z1, z2⟩ := fl x c e
    rw [upd_ne (Nat.ne_of_lt (Nat.lt_of_lt_of_le (Heap.lt_size z1) hD))]
    exact I.freeC x c (sub x c e)
  · obtain ⟨n, e⟩ := new
    exact ⟨Nat.zero_le _, [], n, .nil, e⟩
  · show (compSt own fr σ).length = (compN own fr X.N).length
    simp [compSt, compN]
end

def PIf (X : Cx) (ifs : List Expr) (t : TT) : Prop :=
  ∀ (pins : List (Addr × Obj)) (s : Shared) (σ : St) (H : Hp) (Q : Bool → Hp → Prop), Inv X pins σ H s → t σ H Q →
    wpAny (model X.prog X.w) X.A (forIn ifs true fun c r => if r = true then (do let ok ← isTrue c X.env (eval c X.env); pure (ForInStep.yield ok)) else pure (ForInStep.yield r)) (TP X pins σ Q) X.xe s
def tAll : TT := fun _ H Q => Q true H
theorem pif_nil {X : Cx} : PIf X [] tAll := fun _ _ _ H _ I h => wpAny_tests_nil ⟨H, I, h⟩
theorem pif_one {X : Cx} {c : Expr} {t : TT} (h : PT X c t) : PIf X [c] t := fun pins s σ H Q I hw => wpAny_tests_one (h pins s σ H Q I hw)

section
variable {prog : Program} {w : World} {A : Around} {R : Result → Shared → Prop} {s : Shared}
theorem comp_loop {elt target iter : Expr} {ifs : List Expr} {scope : Scope} {pos : Pos} {it acc : Value} {env : Env} (J : Nat → Shared → Prop)
    (turn : ∀ n s, J n s → wpAny (model prog w) A (pyNext it) (fun r s₁ => match r with
      | none => R (.ok .next) s₁
      | some v => wpAny (model prog w) A (letOwnedTupleGo target it v) (fun _ s₂ => wpAny (model prog w) A (assign target env v) (fun _ s₃ =>
          wpAny (model prog w) A (forIn ifs true fun c r => if r = true then (do let ok ← isTrue c env (eval c env); pure (ForInStep.yield ok)) else pure (ForInStep.yield r)) (fun ok s₄ =>
            if ok = true then wpAny (model prog w) A (eval elt env) (fun x s₅ => wpAny (model prog w) A (call (.builtin "list.append") [acc, x]) (fun _ s₆ => ∃ m, m < n ∧ J m s₆) (fun _ _ => False) s₅) (fun _ _ => False) s₄
            else ∃ m, m < n ∧ J m s₄) (fun _ _ => False) s₃) (fun _ _ => False) s₂) (fun _ _ => False) s₁) (fun _ _ => False) s)
    (n : Nat) (h : J n s) : codeAny (model prog w) A (.compLoop (.ListComp elt [⟨target, iter, ifs, 0⟩] scope pos) 0 it acc env) R s := by
  refine codeAny_loop rfl J (fun n s hJ => ?_) n h
  show wpAny _ A ((compTurn (.ListComp elt [⟨target, iter, ifs, 0⟩] scope pos) 0 it acc env).onRaise (fun x => (do noteFrame x env; theTreesLotGoes x))) _ _ s
  have nf : ∀ {x : Value} {s' : Shared}, False → notedBy (model prog w) A env (fun e s' => R (.error e) s') x s' := fun z => z.elim
  refine wpAny_noted ?_
  rw [compTurn_list]
  refine wpAny_bind (wpAny_standAt (wpAny_bind (wpAny_mono (turn n s hJ) (fun r s₁ h₁ => ?_) fun _ _ z => nf z)))
  cases r with
  | none => exact wpAny_pure h₁
  | some v =>
    refine wpAny_bind (wpAny_mono h₁ (fun _ s₂ h₂ => ?_) fun _ _ z => nf z)
    refine wpAny_bind (wpAny_mono h₂ (fun _ s₃ h₃ => ?_) fun _ _ z => nf z)
    refine wpAny_bind (wpAny_mono h₃ (fun ok s₄ h₄ => ?_) fun _ _ z => nf z)
    cases ok with
    | false => exact wpAny_pure ⟨rfl, h₄⟩
    | true =>
      refine wpAny_bind (wpAny_bind (wpAny_mono h₄ (fun x s₅ h₅ => ?_) fun _ _ z => nf z))
      exact wpAny_bind (wpAny_mono h₅ (fun _ s₆ h₆ => wpAny_pure (wpAny_pure ⟨rfl, h₆⟩)) fun _ _ z => nf z)
end

/-- what a block makes: a new list at D, item by item; W: the invariant by the turn and a measure -/
def tComp (own : List Str) (fr : List Nat) (wi : TI) (g : TG) (tt : TT) (te : TE) : TE := fun σ H Q => wi σ H fun J H1 => ∀ D, H1 D = none →
  ∃ W : Nat → Nat → St → Hp → Prop, (∃ m, W 0 m (compSt own fr σ) (upd H1 D (.lst []))) ∧ ∀ i m σ' H', W i m σ' H' →
    (J.stop i H' ∧ Q (.ref D) H') ∨ (J.go i H' ∧ ∀ x H2, J.yld i H' x H2 → g x σ' H2 fun σ2 H3 => tt σ2 H3 fun ok H4 =>
      if ok = true then te σ2 H4 fun y H5 => ∃ ys, H5 D = some (.lst ys) ∧ ys.length < sizeLine ∧ ∃ m', m' < m ∧ W (i + 1) m' σ2 (upd H5 D (.lst (ys ++ [y]))) else ∃ m', m' < m ∧ W (i + 1) m' σ2 H4)
section
variable {X : Cx} {elt tg iter : Expr} {ifs : List Expr} {scope : Scope} {pos : Pos} {own : List Str} {fr : List Nat} {wi : TI} {g : TG} {tt : TT} {te : TE}
theorem comp_core {pins : List (Addr × Obj)} {s : Shared} {σ : St} {H : Hp} {Q : VK} {RR : Value → Addr → Result → Shared → Prop} (hc : X.calm = true) (S : CompSc X.env.scope X.N scope own fr) (hi : PI X tg iter wi)
    (hb : ∀ C s₂ H₂ fp, PG (cxComp X scope own fr C s₂ H₂ fp) tg g ∧ PIf (cxComp X scope own fr C s₂ H₂ fp) ifs tt ∧ PE (cxComp X scope own fr C s₂ H₂ fp) elt te)
    (I : Inv X pins σ H s) (h : tComp own fr wi g tt te σ H Q)
    (hRR : ∀ D C s' H' m', Inv X pins σ H' s' → Q (.ref D) H' → FpOk X pins H' C → s'.heap.Ns C m' → RR (.ref D) C (.ok .next) s') :
    wpAny (model X.prog X.w) X.A (eval iter X.env) (fun v s₁ => wpAny (model X.prog X.w) X.A (pyIter v) (fun it s₂ => wpAny (model X.prog X.w) X.A (newList []) (fun acc s₃ =>
      wpAny (model X.prog X.w) X.A (newFunctionEnv scope X.env.globals (clGo X.env scope.names []) [] X.env.qual none .none (some X.env)) (fun cenv s₄ =>
        codeAny (model X.prog X.w) X.A (.compStart (.ListComp elt [⟨tg, iter, ifs, 0⟩] scope pos) 0 it acc { cenv with scope := relabel scope X.env }) (RR acc cenv.locals) s₄) X.xe s₃) X.xe s₂) X.xe s₁) X.xe s := by
  refine thn (hi pins s σ H _ I h) fun v s1 h1 => thn h1 fun itv s2 h2 => ?_
  obtain ⟨it, fp, tn, J, H2, e, I2, T, st2, f2, hq⟩ := h2
  subst e
  refine wpAny_newObj_type (wpAny_newFunctionEnv S.nocell (by intro y hy; simp at hy) (fun h₁ hns₁ hsb₁ => ?_) S.kind)
  dsimp only at hns₁ hsb₁ ⊢
  have hD := I2.hok.fresh (Nat.le_refl s2.heap.objs.size)
  obtain ⟨W, ⟨m0, w0⟩, turn⟩ := hq s2.heap.objs.size hD
  generalize hH2 : s2.heap.push { cls := .type "list", dict := none, data := .seq ([] : List Value).toArray } = G at hns₁ hsb₁ ⊢
  have hG : G.objs.size = s2.heap.objs.size + 1 := by rw [← hH2, Heap.size_push]
  have hDC : s2.heap.objs.size ≠ G.objs.size := by rw [hG]; exact Nat.ne_of_lt (Nat.lt_succ_self _)
  have hC : s2.heap.objs.size ≤ G.objs.size := by rw [hG]; exact Nat.le_succ _
  have old : ∀ b o, s2.heap.get? b = some o → h₁.get? b = some o := fun b o e =>
    hsb₁.extBut b o (by rw [hG]; exact Nat.ne_of_lt (Nat.lt_succ_of_lt (Heap.lt_size e))) (Heap.get?_push_of_some _ (hH2 ▸ Heap.get?_push_of_some _ e))
  have new : h₁.get? s2.heap.objs.size = some { cls := .type "list", data := .seq #[] 0 } := hsb₁.extBut _ _ hDC (Heap.get?_push_of_some _ (hH2 ▸ Heap.get?_push_size _ rfl))
  have fo : ∀ b ∈ fp, b < s2.heap.objs.size := fun b hb' => let ⟨o, e, _⟩ := T.obj 0 _ st2 b hb'; Heap.lt_size e
  have I4 : Inv (cxComp X scope own fr G.objs.size s2 H2 fp) [] (compSt own fr σ) (upd H2 s2.heap.objs.size (.lst [])) { s2 with heap := h₁, toks := s2.toks + ([] : List (Str × Value)).length } :=
    inv_comp S I2 f2 fo hC (Nat.le_refl _) hDC old hns₁ ⟨_, new⟩
  obtain ⟨hg, ht, he⟩ := hb G.objs.size s2 H2 fp
  have fpX : ∀ {H' : Hp}, (∀ b ∈ fp, H' b = none) → ∀ b ∈ fp, FpOk (cxComp X scope own fr G.objs.size s2 H2 fp) [] H' b := fun {H'} hn b hb' => by
    refine ⟨hn b hb', Nat.ne_of_lt (Nat.lt_of_lt_of_le (fo b hb') hC), I4.ok.exfs b hb', .inl hb', (I4.ok.exf b hb').2, fun p hp => absurd (show p ∈ ([] : List (Addr × Obj)) from hp) (by simp)⟩
  have fr0 : ∀ b ∈ fp, (upd H2 s2.heap.objs.size (.lst [])) b = none := fun b hb' => by
    rw [upd_ne (Nat.ne_of_lt (fo b hb'))]; exact (f2 b hb').1
  have tn0 : tn 0 h₁ := T.keep _ _ _ st2 fun b hb' o e => old b o e
  have loop : codeAny (model X.prog X.w) X.A (.compLoop (.ListComp elt [⟨tg, iter, ifs, 0⟩] scope pos) 0 (.ref it) (.ref s2.heap.objs.size) (compEnvC scope (clGo X.env scope.names []) G.objs.size X.env))
      (RR (.ref s2.heap.objs.size) G.objs.size) { s2 with heap := h₁, toks := s2.toks + ([] : List (Str × Value)).length } := by
    refine comp_loop (fun n s' => ∃ i σ' H', Inv (cxComp X scope own fr G.objs.size s2 H2 fp) [] σ' H' s' ∧ tn i s'.heap ∧ (∀ b ∈ fp, H' b = none) ∧ W i n σ' H') ?_ m0 ⟨0, _, _, I4, tn0, fr0, w0⟩
    rintro n s3 ⟨i, σ3, H3, I3, st3, fr3, w3⟩
    have nfp : ∀ {H' : Hp} {s' : Shared} {σ' : St} {pl : List (Addr × Obj)}, Inv (cxComp X scope own fr G.objs.size s2 H2 fp) pl σ' H' s' → pl = pinsAt fp s'.heap → True := fun _ _ => trivial
    rcases turn i n σ3 H3 w3 with ⟨stop, qn⟩ | ⟨go, step⟩
    · refine thn (T.done (cxComp X scope own fr G.objs.size s2 H2 fp) rfl rfl rfl hc i [] s3 σ3 H3 (fun _ _ => False) I3 (fpX fr3) st3 stop) fun r s4 ⟨hr, I5⟩ => ?_
      subst hr
      have IX : Inv X pins σ H3 s4 := I2.call' (ch := fp) I5.os I5.base I5.hok I5.bare fun b hb' => let ⟨_, f1, _, f3, f4, f5⟩ := f2 b hb'; ⟨f3, f1, f4, f5⟩
      obtain ⟨m', hn', _⟩ := I5.loc
      exact hRR _ _ _ _ m' IX qn (I2.fpOk hC I5.free) hn'
    · refine thn (T.item (cxComp X scope own fr G.objs.size s2 H2 fp) rfl rfl rfl hc i [] s3 σ3 H3 (fun _ _ => False) I3 (fpX fr3) st3 go) fun r s4 ⟨u, hr, h4⟩ => ?_
      subst hr
      refine thn h4 fun _ s5 ⟨x, H5, I5, r5, y5, st5, fr5⟩ => ?_
      have I5' := I5.pinned (fpX fr5) (T.obj _ _ st5)
      refine thn (hg _ s5 σ3 H5 x u _ I5' r5 (step x H5 y5)) fun _ s6 ⟨σ6, H6, I6, q6⟩ => ?_
      have again : ∀ {s7 : Shared} {σ7 : St} {H7 : Hp} {m' : Nat}, Inv (cxComp X scope own fr G.objs.size s2 H2 fp) ([] ++ pinsAt fp s5.heap) σ7 H7 s7 → m' < n → W (i + 1) m' σ7 H7 →
          ∃ m, m < n ∧ ∃ i σ' H', Inv (cxComp X scope own fr G.objs.size s2 H2 fp) [] σ' H' s7 ∧ tn i s7.heap ∧ (∀ b ∈ fp, H' b = none) ∧ W i m σ' H' := fun {s7 σ7 H7 m'} I7 hm w7 => by
        refine ⟨m', hm, i + 1, σ7, H7, I7.unpinned, T.keep _ _ _ st5 fun b hb' o e => (I7.pin (b, o) (List.mem_append_right _ (List.mem_append_right _ (mem_pinsAt hb' e)))).1, fun b hb' => ?_, w7⟩
        obtain ⟨o, e, d⟩ := T.obj _ _ st5 b hb'
        exact (I7.pin (b, o) (List.mem_append_right _ (List.mem_append_right _ (mem_pinsAt hb' e)))).2.1
      refine thn (ht _ s6 σ6 H6 _ I6 q6) fun ok s7 ⟨H7, I7, q7⟩ => ?_
      cases ok with
      | false =>
        rw [if_neg Bool.false_ne_true] at q7 ⊢
        obtain ⟨m', hm, w7⟩ := q7
        exact again I7 hm w7
      | true =>
        rw [if_pos rfl] at q7 ⊢
        refine thn (he _ s7 σ6 H7 _ I7 q7) fun y s8 ⟨yv, H8, I8, r8, q8⟩ => ?_
        obtain ⟨ys, hy, hl, m', hm, w8⟩ := q8
        refine thn (mt_append _ s8 σ6 H8 (.ref s2.heap.objs.size) [yv] _ [y] (fun _ H9 => H9 = upd H8 s2.heap.objs.size (.lst (ys ++ [yv]))) I8 rfl (.cons r8 .nil) ⟨_, ys, yv, rfl, rfl, hy, hl, rfl⟩) fun _ s9 ⟨_, H9, I9, _, e9⟩ => ?_
        subst e9
        exact again I9 hm w8
  exact codeAny_compStart_list loop (T.self X.A 0 _ _ _ tn0 loop)
/-- [elt for tg in iter if ..] -/
theorem pe_comp (hc : X.calm = true) (S : CompSc X.env.scope X.N scope own fr) (hi : PI X tg iter wi)
    (hb : ∀ C s₂ H₂ fp, PG (cxComp X scope own fr C s₂ H₂ fp) tg g ∧ PIf (cxComp X scope own fr C s₂ H₂ fp) ifs tt ∧ PE (cxComp X scope own fr C s₂ H₂ fp) elt te)
    (hs : ∀ x, foldedSetIterable iter X.env x = pure x := by intro _; rfl) : PE X (.ListComp elt [⟨tg, iter, ifs, 0⟩] scope pos) (tComp own fr wi g tt te) := by
  intro pins s σ H Q I h
  rw [eval_ListComp]
  refine wpAny_comprehension_free (use := none) rfl hs (clGo_eq (S.cells I.ok)) S.kind S.names ?_
  refine comp_core (RR := fun acc C => compPost (model X.prog X.w) X.A X.xe none (EP X pins σ Q) acc C) hc S hi hb I h ?_
  intro D C s' H' m' I' q f hn
  obtain ⟨f0, f1, f2, f3, f4, f5⟩ := f
  exact ⟨m', hn, fun h' sb => ⟨.ref D, H', I'.turned (t' := s'.toks) (fun b o hb e => (sb.2 b hb).trans e) f0 f1 f3 f4 f5, rfl, q⟩⟩
/-- y = [elt for tg in iter if ..]: the store comes ahead of the block's end -/
theorem ps_setComp {i : Nat} {y : Str} {py spos : Pos} (hc : X.calm = true) (hN : X.N.Nodup) (hi' : X.N[i]? = some y) (hy : Loc X.env.scope y) (S : CompSc X.env.scope X.N scope own fr) (hi : PI X tg iter wi)
    (hb : ∀ C s₂ H₂ fp, PG (cxComp X scope own fr C s₂ H₂ fp) tg g ∧ PIf (cxComp X scope own fr C s₂ H₂ fp) ifs tt ∧ PE (cxComp X scope own fr C s₂ H₂ fp) elt te)
    (hsw : swapsWith (.ListComp elt [⟨tg, iter, ifs, 0⟩] scope pos) (some (.Name y py)) spos.line X.env = pure true)
    (hs : ∀ x, foldedSetIterable iter X.env x = pure x := by intro _; rfl) (hf : X.fn y = true ∨ X.env.scope.names.lookup y = some .local := by first | exact .inl rfl | exact .inr rfl | assumption) :
    PS X (.Assign [.Name y py] (.ListComp elt [⟨tg, iter, ifs, 0⟩] scope pos) spos) (tAsg (tComp own fr wi g tt te) (gName i)) := by
  intro pins s σ H D I h
  rw [exec_Assign_Name_used _ _ _ _ hsw]
  refine wpAny_bind (wpAny_standAt (wpAny_bind ?_))
  show wpAny _ X.A (do let _ ← comprehension (.ListComp elt [⟨tg, iter, ifs, 0⟩] scope pos) scope X.env _ (newList []) false (eval iter X.env) (some (assign (.Name y py) X.env))) _ _ s
  refine wpAny_bind (wpAny_mono (wpAny_comprehension_free (use := some (assign (.Name y py) X.env)) (Q := fun _ s' => SP X pins D .next s') rfl hs (clGo_eq (S.cells I.ok)) S.kind S.names ?_) (fun _ s' hq => wpAny_pure (wpAny_pure hq)) fun _ _ e => e)
  refine comp_core (RR := fun acc C => compPost (model X.prog X.w) X.A X.xe (some (assign (.Name y py) X.env)) (fun _ s' => SP X pins D .next s') acc C) hc S hi hb I h ?_
  intro D' C s' H' m' I' q f hn
  show wpAny _ _ (assign (.Name y py) X.env (.ref D')) _ _ _
  refine wpAny_assign_Name (store_ok2 I' hN hi' hy (v := .ref D') rfl (fun s2 I2 ⟨a, sb, ha⟩ => ?_) hf)
  obtain ⟨f0, f1, f2, f3, f4, f5⟩ := f
  have hCa : C ≠ a := by
    rcases ha with e | e
    · rw [e]; exact f1
    · exact fun z => f4 y a e z.symm
  refine ⟨m', hn.sameBut sb hCa, fun h' sb' => ?_⟩
  exact ⟨_, H', I2.turned (t' := s2.toks) (fun b o hb e => (sb'.2 b hb).trans e) f0 f1 f3 f4 f5, q⟩
end
end L2

namespace L2
open PySem PySem.Spec PyProof.Rows

class Rep (α : Type) where
  is : PySem.W.Frag → Hp → V → α → Prop
  mono : ∀ {K : PySem.W.Frag} {H H' : Hp} {v : V} {a : α}, Same H H' → is K H v a → is K H' v a
instance : Rep Int := ⟨fun _ _ v a => v = .int a, fun _ h => h⟩
instance : Rep Nat := ⟨fun _ _ v a => v = .int (a : Int), fun _ h => h⟩
instance : Rep Bool := ⟨fun _ _ v a => v = .bl a, fun _ h => h⟩
theorem Paired.get {α β : Type} {F : α → β → Prop} : ∀ {l₁ : List α} {l₂ : List β} {i : Nat} {b : β}, Paired F l₁ l₂ → l₂[i]? = some b → ∃ a, l₁[i]? = some a ∧ F a b
  | _, _, _, _, .nil, e => by simp at e
  | _, _, 0, _, .cons r _, e => by simp at e; subst e; exact ⟨_, rfl, r⟩
  | _, _, i + 1, b, .cons _ t, e => by
    obtain ⟨a, h1, h2⟩ := Paired.get (i := i) (b := b) t (by simpa using e)
    exact ⟨a, by simpa using h1, h2⟩
theorem Paired.getL {α β : Type} {F : α → β → Prop} : ∀ {l₁ : List α} {l₂ : List β} {i : Nat} {a : α}, Paired F l₁ l₂ → l₁[i]? = some a → ∃ b, l₂[i]? = some b ∧ F a b
  | _, _, _, _, .nil, e => by simp at e
  | _, _, 0, _, .cons r _, e => by simp at e; subst e; exact ⟨_, rfl, r⟩
  | _, _, i + 1, b, .cons _ t, e => by
    obtain ⟨a, h1, h2⟩ := Paired.getL (i := i) (a := b) t (by simpa using e)
    exact ⟨a, by simpa using h1, h2⟩
theorem Paired.app {α β : Type} {F : α → β → Prop} : ∀ {l₁ l₃ : List α} {l₂ l₄ : List β}, Paired F l₁ l₂ → Paired F l₃ l₄ → Paired F (l₁ ++ l₃) (l₂ ++ l₄)
  | _, _, _, _, .nil, s => s
  | _, _, _, _, .cons r t, s => .cons r (Paired.app t s)
theorem Paired.takeP {α β : Type} {F : α → β → Prop} : ∀ {l₁ : List α} {l₂ : List β} (n : Nat), Paired F l₁ l₂ → Paired F (l₁.take n) (l₂.take n)
  | _, _, 0, _ => .nil
  | _, _, _ + 1, .nil => .nil
  | _, _, n + 1, .cons r t => .cons r (Paired.takeP n t)
theorem Paired.dropP {α β : Type} {F : α → β → Prop} : ∀ {l₁ : List α} {l₂ : List β} (n : Nat), Paired F l₁ l₂ → Paired F (l₁.drop n) (l₂.drop n)
  | _, _, 0, r => r
  | _, _, _ + 1, .nil => .nil
  | _, _, n + 1, .cons _ t => Paired.dropP n t
theorem Paired.of_map {α β γ : Type} {F : α → β → Prop} {f : γ → α} {g : γ → β} (h : ∀ c, F (f c) (g c)) : ∀ l : List γ, Paired F (l.map f) (l.map g)
  | [] => .nil
  | c :: r => .cons (h c) (Paired.of_map h r)
instance {α : Type} [Rep α] : Rep (List α) :=
  ⟨fun K H v l => ∃ p xs, v = .ref p ∧ SqL K H p xs ∧ Paired (Rep.is K H) xs l, fun e ⟨p, xs, h1, h2, h3⟩ => ⟨p, xs, h1, e.seq h2, Paired.mapP h3 fun _ _ q => Rep.mono e q⟩⟩
theorem Same.tup {K : PySem.W.Frag} {H H' : Hp} {a : Addr} {xs : List V} (e : Same H H') (h : SqT K H a xs) : SqT K H' a xs := by
  rcases h with (h | ⟨o, h⟩) | h
  · exact .inl (.inl (e _ _ h))
  · exact .inl (.inr ⟨o, e _ _ h⟩)
  · exact .inr h
instance {α β : Type} [Rep α] [Rep β] : Rep (α × β) :=
  ⟨fun K H v l => ∃ p x y, v = .ref p ∧ SqT K H p [x, y] ∧ Rep.is K H x l.1 ∧ Rep.is K H y l.2, fun e ⟨p, x, y, h1, h2, h3, h4⟩ => ⟨p, x, y, h1, e.tup h2, Rep.mono e h3, Rep.mono e h4⟩⟩
/-- v is the data a -/
abbrev At {α : Type} [Rep α] (K : PySem.W.Frag) (H : Hp) (v : V) (a : α) : Prop := Rep.is K H v a
/-- an item of a list of data -/
theorem At.item {α : Type} [Rep α] {K : PySem.W.Frag} {H : Hp} {v : V} {l : List α} {i : Nat} {a : α} (h : At K H v l) (e : l[i]? = some a) : ∃ p xs x, v = .ref p ∧ SqL K H p xs ∧ atI xs (i : Int) = some x ∧ At K H x a := by
  obtain ⟨p, xs, rfl, hS, hP⟩ := h
  obtain ⟨x, hx, r⟩ := Paired.get hP e
  exact ⟨p, xs, x, rfl, hS, atI_nat hx, r⟩
theorem At.len {α : Type} [Rep α] {K : PySem.W.Frag} {H : Hp} {v : V} {l : List α} (h : At K H v l) : ∃ p xs, v = .ref p ∧ SqL K H p xs ∧ xs.length = l.length := by
  obtain ⟨p, xs, rfl, hS, hP⟩ := h
  exact ⟨p, xs, rfl, hS, hP.length⟩

class RepEq (α : Type) [Rep α] [DecidableEq α] where
  depth : Nat
  inj : ∀ {X : Cx} {pins : List (Addr × Obj)} {σ : St} {H : Hp} {s : Shared} {x : V} {a b : α}, Inv X pins σ H s → At X.K H x a → At X.K H x b → a = b
  eq : ∀ {X : Cx} {pins : List (Addr × Obj)} {σ : St} {H : Hp} {s : Shared} {A : Around} {x y : V} {u v : Value} {a b : α}, Inv X pins σ H s → At X.K H x a → At X.K H y b → RelV x u → RelV y v → A.units + depth < cLine →
    SeqAt.EqAt A s u v (decide (a = b))
instance : RepEq Int where
  depth := 0
  inj := fun _ h h' => by cases h; cases h'; rfl
  eq := fun {X pins σ H s A x y u v a b} _ hx hy ru rv _ => by
    cases hx; cases hy
    have q := eqAt_V (A := A) (s := s) ru rv rfl rfl
    have e : eqV (.int a) (.int b) = decide (a = b) := rfl
    rw [e] at q; exact q
instance : RepEq Nat where
  depth := 0
  inj := fun _ h h' => by
    have q := (show _ = V.int _ from h).symm.trans (show _ = V.int _ from h')
    injection q with q
    exact Int.ofNat.inj q
  eq := fun {X pins σ H s A x y u v a b} _ hx hy ru rv _ => by
    cases hx; cases hy
    have q := eqAt_V (A := A) (s := s) ru rv rfl rfl
    have e : eqV (.int (a : Int)) (.int (b : Int)) = decide (a = b) := by
      show decide ((a : Int) = (b : Int)) = decide (a = b)
      exact decide_eq_decide.mpr Int.ofNat_inj
    rw [e] at q; exact q
theorem room_in1 {A : Around} {n : Nat} (h : A.units + (n + 1) < cLine) : A.in1.units + n < cLine := by
  show A.units + 1 + n < cLine
  omega
theorem paired_inj {X : Cx} {pins : List (Addr × Obj)} {σ : St} {H : Hp} {s : Shared} {α : Type} [Rep α] [DecidableEq α] [RepEq α] (I : Inv X pins σ H s) :
    ∀ {xs : List V} {as bs : List α}, Paired (Rep.is X.K H) xs as → Paired (Rep.is X.K H) xs bs → as = bs
  | _, _, _, .nil, .nil => rfl
  | _, _, _, .cons r t, .cons r' t' => by rw [RepEq.inj I r r', paired_inj I t t']
theorem range_all {α : Type} [DecidableEq α] : ∀ (as bs : List α), as.length = bs.length → ((List.range as.length).all fun j => decide (as[j]? = bs[j]?)) = decide (as = bs) := by
  intro as bs hl
  rw [Bool.eq_iff_iff]
  simp only [List.all_eq_true, List.mem_range, decide_eq_true_eq]
  constructor
  · intro h
    refine List.ext_getElem? fun i => ?_
    by_cases hi : i < as.length
    · exact h i hi
    · rw [List.getElem?_eq_none (by omega), List.getElem?_eq_none (by omega)]
  · intro h i _; rw [h]
theorem list_rc {X : Cx} {pins : List (Addr × Obj)} {σ : St} {H : Hp} {s : Shared} {A : Around} {α : Type} [Rep α] [DecidableEq α] [RepEq α] {p q : Addr} {xs ys : List V} {as bs : List α}
    (I : Inv X pins σ H s) (h1 : SqL X.K H p xs) (r1 : Paired (Rep.is X.K H) xs as) (h2 : SqL X.K H q ys) (r2 : Paired (Rep.is X.K H) ys bs) (hu : A.units + (RepEq.depth α + 1) < cLine) (hl : as.length = bs.length) :
    ∃ its its2 : List Value, s.heap.IsList p its.toArray ∧ s.heap.IsList q its2.toArray ∧ its.toArray.size = its2.toArray.size ∧ its.toArray.size = as.length ∧
      ∀ j (h1 : j < its.toArray.size) (h2 : j < its2.toArray.size), SeqAt.EqAt A.in1 s its.toArray[j] its2.toArray[j] (decide (as[j]? = bs[j]?)) := by
  obtain ⟨its, v1, p1, _⟩ := I.list h1
  obtain ⟨its2, v2, p2, _⟩ := I.list h2
  have e1 := v1.length
  have e2 := v2.length
  have e3 := r1.length
  have e4 := r2.length
  refine ⟨its, its2, p1.isList, p2.isList, by simp; omega, by simp; omega, fun j h1 h2 => ?_⟩
  have h1' : j < its.length := by simpa using h1
  have h2' : j < its2.length := by simpa using h2
  have hx : j < xs.length := by omega
  have hy : j < ys.length := by omega
  obtain ⟨u, hu1, ru⟩ := v1.get (i := j) (x := xs[j]) (by simp [hx])
  obtain ⟨v, hv1, rv⟩ := v2.get (i := j) (x := ys[j]) (by simp [hy])
  obtain ⟨a, ha, ra⟩ := Paired.getL r1 (i := j) (a := xs[j]) (by simp [hx])
  obtain ⟨b, hb, rb⟩ := Paired.getL r2 (i := j) (a := ys[j]) (by simp [hy])
  have eu : its.toArray[j] = u := by
    have : its[j]? = some its[j] := by simp [h1']
    rw [this] at hu1
    simpa using hu1
  have ev : its2.toArray[j] = v := by
    have : its2[j]? = some its2[j] := by simp [h2']
    rw [this] at hv1
    simpa using hv1
  rw [eu, ev, ha, hb]
  have z := RepEq.eq (A := A.in1) I ra rb ru rv (room_in1 hu)
  have e : decide (some a = some b) = decide (a = b) := by simp
  rw [e]; exact z
instance {α : Type} [Rep α] [DecidableEq α] [RepEq α] : RepEq (List α) where
  depth := RepEq.depth α + 1
  inj := fun {X pins σ H s x a b} I h h' => by
    obtain ⟨p, xs, e, h1, r1⟩ := h
    obtain ⟨q, ys, e', h2, r2⟩ := h'
    subst e
    cases e'
    have := I.list_inj h1 h2
    subst this
    exact paired_inj I r1 r2
  eq := fun {X pins σ H s A x y u v a b} I hx hy ru rv hu => by
    obtain ⟨p, xs, e, h1, r1⟩ := hx
    obtain ⟨q, ys, e', h2, r2⟩ := hy
    subst e e'
    cases (show u = Value.ref p from ru)
    cases (show v = Value.ref q from rv)
    by_cases hpq : p = q
    · subst hpq
      have := I.list_inj h1 h2
      subst this
      have := paired_inj I r1 r2
      subst this
      rw [decide_eq_true rfl]
      exact SeqAt.EqAt.same _
    · refine SeqAt.EqAt.of_refs hpq ?_
      have hu0 : A.units < cLine := by omega
      by_cases hl : a.length = b.length
      · obtain ⟨its, its2, l1, l2, e1, e2, he⟩ := list_rc (A := A) I h1 r1 h2 r2 hu hl
        have z := SeqAt.RcAt.lists l1 l2 e1 hu0 he
        rw [e2, range_all a b hl] at z
        exact z
      · obtain ⟨its, v1, p1, _⟩ := I.list h1
        obtain ⟨its2, v2, p2, _⟩ := I.list h2
        have e1 := v1.length
        have e2 := v2.length
        have e3 := r1.length
        have e4 := r2.length
        rw [decide_eq_false (fun z => hl (by rw [z]))]
        exact SeqAt.RcAt.lists_lengths p1.isList p2.isList (by simp; omega) hu0
/-- == of two lists of data -/
theorem op_eqL {X : Cx} (α : Type) [Rep α] [DecidableEq α] [RepEq α] (hu : X.A.units + 64 < cLine) (hd : RepEq.depth α ≤ 32 := by decide) :
    OpR X (compareOp .Eq) (fun x y H Q => ∃ as bs : List α, At X.K H x as ∧ At X.K H y bs ∧ Q (.bl (decide (as = bs))) H) := by
  intro pins s σ H x y u v Q I ru rv h
  obtain ⟨as, bs, ⟨p, xs, e, h1, r1⟩, ⟨q, ys, e', h2, r2⟩, hq⟩ := h
  subst e e'
  cases (show u = Value.ref p from ru)
  cases (show v = Value.ref q from rv)
  have hu0 : X.A.units < cLine := by omega
  by_cases hl : as.length = bs.length
  · obtain ⟨its, its2, l1, l2, e1, e2, he⟩ := list_rc (A := X.A) I h1 r1 h2 r2 (by omega) hl
    refine SeqAt.eq_listAt l1 l2 e1 hu0 he ?_
    rw [e2, range_all as bs hl]
    exact ⟨.bl _, H, I, rfl, hq⟩
  · obtain ⟨its, v1, p1, _⟩ := I.list h1
    obtain ⟨its2, v2, p2, _⟩ := I.list h2
    have e1 := v1.length
    have e2 := v2.length
    have e3 := r1.length
    have e4 := r2.length
    rw [decide_eq_false (fun z => hl (by rw [z]))] at hq
    exact SeqAt.eq_list_lengthsAt p1.isList p2.isList (by simp; omega) hu0 ⟨.bl false, H, I, rfl, hq⟩
/-- != of two lists of data -/
theorem op_neL {X : Cx} (α : Type) [Rep α] [DecidableEq α] [RepEq α] (hu : X.A.units + 64 < cLine) (hd : RepEq.depth α ≤ 32 := by decide) :
    OpR X (compareOp .NotEq) (fun x y H Q => ∃ as bs : List α, At X.K H x as ∧ At X.K H y bs ∧ Q (.bl (!decide (as = bs))) H) := by
  intro pins s σ H x y u v Q I ru rv h
  obtain ⟨as, bs, ⟨p, xs, e, h1, r1⟩, ⟨q, ys, e', h2, r2⟩, hq⟩ := h
  subst e e'
  cases (show u = Value.ref p from ru)
  cases (show v = Value.ref q from rv)
  have hu0 : X.A.units < cLine := by omega
  have fin : ∀ k : Bool, Q (.bl k) H → Value.bool k ≠ Value.notImplemented ∧ EP X pins σ Q (.bool k) s := fun k z => ⟨(fun z => nomatch z), .bl k, H, I, rfl, z⟩
  by_cases hl : as.length = bs.length
  · obtain ⟨its, its2, l1, l2, e1, e2, he⟩ := list_rc (A := X.A) I h1 r1 h2 r2 (by omega) hl
    obtain ⟨⟨cls, dd, data, sl⟩, ho, hc, n, hd'⟩ := id l1
    obtain ⟨⟨cls2, dd2, data2, sl2⟩, ho2, hc2, n2, hd2⟩ := id l2
    simp only at hc hd' hc2 hd2
    subst hc hd' hc2 hd2
    have hq' := fin _ hq
    rw [← range_all as bs hl, ← e2] at hq'
    exact richCompare_meets_room (op := .NotEq) ⟨_, ho, rfl⟩ ⟨_, ho2, rfl⟩ F.slot_list_ne F.entry_list_ne (F.args_list_ne_2 _ _) (SeqAt.list_neAt p q _ _ n n2 dd dd2 sl sl2 e1 _) ⟨ho, ho2, he, hq'⟩ hu0
  · obtain ⟨its, v1, p1, _⟩ := I.list h1
    obtain ⟨its2, v2, p2, _⟩ := I.list h2
    have e1 := v1.length
    have e2 := v2.length
    have e3 := r1.length
    have e4 := r2.length
    rw [decide_eq_false (fun z => hl (by rw [z]))] at hq
    obtain ⟨⟨cls, dd, data, sl⟩, ho, hc, n, hd'⟩ := id p1.isList
    obtain ⟨⟨cls2, dd2, data2, sl2⟩, ho2, hc2, n2, hd2⟩ := id p2.isList
    simp only at hc hd' hc2 hd2
    subst hc hd' hc2 hd2
    exact richCompare_meets_room (op := .NotEq) ⟨_, ho, rfl⟩ ⟨_, ho2, rfl⟩ F.slot_list_ne F.entry_list_ne (F.args_list_ne_2 _ _) (SeqAt.list_ne_lengthsAt p q _ _ n n2 dd dd2 sl sl2 (by simp; omega)) ⟨ho, ho2, fin _ hq⟩ hu0

theorem call_isinst {X : Cx} : CallR X (.builtin "isinstance") (fun xs H Q => ∃ x n t b, xs = [x, .ty n] ∧ TyOf X.K H x t ∧ PySem.W.kitOne X.K t (.type n) = some b ∧ Q (.bl b) H) := by
  intro pins s σ H xs us Q I r h
  obtain ⟨x, n, t, b, rfl, ty, e, q⟩ := h
  obtain ⟨u, v, rfl, ru, rv⟩ := r.two
  cases (show v = Value.type n from rv)
  exact isinst_ok I ru ty e fun tk => ⟨.bl b, H, I.tok tk, rfl, q⟩

structure Df (K : PySem.W.Frag) (mg : Str → Option Value) (x : Str) (st : Stmt) (ps : List Str) where
  f : Addr
  fd : FuncData
  fn : Fun K x x st f fd
  bd : Binds K fd ps []
  nm : mg x = some (.ref f)
section
variable {X : Cx} {x : Str} {st : Stmt} {ps : List Str} {k : Nat} {sp : Sp} {p pos : Pos} {e : Expr} {es : List Expr} {t : TA}
theorem pe_df (d : Df X.K X.mg x st ps) (G : FnOk X.prog X.w X.K X.mg X.base CX0 k d.f d.fd ps sp) (hr : Room k X.A) (hg : Gl X x) (ha : PA X (e :: es) t) (hdb : (x == ("__debug__" : Str)) = false := by decide)
    (he : starEach (e :: es) X.env = (false, eval e X.env) :: starEach es X.env := by rfl) (hpl : (backTo pos (starEach es X.env)).any (·.1) = false := by rfl) :
    PE X (.Call (.Name x p) (e :: es) [] pos) (tCall sp [] E0 t) := pe_call G hr hg d.nm d.fn.kp d.bd .nil pass0 ha hdb he hpl
end
/-- the promise of a def, by its body -/
theorem Df.ok {P : Program} {w : World} {K : PySem.W.Frag} {mg : Str → Option Value} {base : Heap} {x : Str} {st : Stmt} {N ps : List Str} {k : Nat} {sp : Sp} (d : Df K mg x st ps) (S : FnScope N ps (defScope st)) (len : ∀ vs H Q E, sp vs H Q E → vs.length = ps.length)
    (hbody : ∀ (cdv : Value) (A : Around) (outer : List Env) (s : Shared) (H : Hp) (vs : List V) (Q : VK) (E : XK), Room k (A.deeper (envOfC x (defScope st) s.heap.objs.size d.f cdv)) → sp vs H Q E →
      ∃ t, PSs (cxOf CX0 P w K mg base N x (defScope st) d.f cdv A outer s H E).nox (defBody st) t ∧ t { nx := fun _ H' => Q .non H', rt := Q } (start N vs) H) : FnOk P w K mg base CX0 (k + 1) d.f d.fd ps sp :=
  d.fn.ok S len hbody
theorem same_new {H : Hp} {p : Addr} (h : H p = none) (o : HO) : Same H (upd H p o) := fun b u q => by rw [upd_ne (ne_of_none q h)]; exact q
theorem small {n : Nat} (h : n ≤ 1000) : n ≤ sizeLine := Nat.le_of_lt (small1000 h)
end L2

namespace L2
open PySem PySem.Spec PyProof.Rows
def isB (x : V) (H : Hp) (QB : Bool → Hp → Prop) : Prop := ∃ k, x = .bl k ∧ QB k H
abbrev isF (K : PySem.W.Frag) (f : Str) (x : V) (H1 : Hp) (Q : VK) : Prop := ∃ a C dx fs v, x = .ref a ∧ H1 a = some (.ins C dx fs) ∧ Cls K C ∧ NoAttr K C f ∧ fs.lookup f = some v ∧ Q v H1
def isI (x : V) (H : Hp) (QO : Option Int → Hp → Prop) : Prop := ∃ i, x = .int i ∧ QO (some i) H
def loopK (g : TG) (t : TS) (D : Ends) (σ : St) : It → Hp → Prop := fun J H1 => ∃ W : Nat → Nat → St → Hp → Prop, (∃ m, W 0 m σ H1) ∧ ∀ i m σ H, W i m σ H →
    (J.stop i H ∧ D.nx σ H) ∨ (J.go i H ∧ ∃ N : St → Hp → Prop, (∀ σ' H', N σ' H' → ∃ m', m' < m ∧ W (i + 1) m' σ' H') ∧ ∀ x H', J.yld i H x H' → g x σ H' fun σ2 H2 => t { D with nx := N, ct := N, bk := D.nx } σ2 H2)
def compK (own : List Str) (fr : List Nat) (g : TG) (tt : TT) (ta : TE) (σ : St) (Q : VK) : It → Hp → Prop := fun J H1 => ∀ d, H1 d = none → ∃ W : Nat → Nat → St → Hp → Prop, (∃ m, W 0 m (compSt own fr σ) (upd H1 d (.lst []))) ∧ ∀ i m σ' H', W i m σ' H' →
    (J.stop i H' ∧ Q (.ref d) H') ∨ (J.go i H' ∧ ∀ x H2, J.yld i H' x H2 → g x σ' H2 fun σ2 H3 => tt σ2 H3 fun ok H4 =>
      if ok = true then ta σ2 H4 fun y H5 => ∃ ys, H5 d = some (.lst ys) ∧ ys.length < sizeLine ∧ ∃ m', m' < m ∧ W (i + 1) m' σ2 (upd H5 d (.lst (ys ++ [y]))) else ∃ m', m' < m ∧ W (i + 1) m' σ2 H4)
def srcL (K : PySem.W.Frag) (x : V) (H : Hp) (R : It → Hp → Prop) : Prop := ∃ a, x = .ref a ∧ (∃ xs, SqL K H a xs) ∧ R (Itl K a) H
def srcR (vs : List V) (H : Hp) (R : It → Hp → Prop) : Prop := ∃ j : Int, vs = [.int j] ∧ -(2 ^ 62) ≤ j ∧ j < 2 ^ 62 ∧ R (Itr 0 j.toNat) H
section
variable {σ : St} {H : Hp} {Q : VK} {QB : Bool → Hp → Prop} {D : Ends} {K : PySem.W.Frag} {t u : TS} {ta tb tc : TE} {g : TG} {i : Nat} {v x y : V} {tt tu : TT} {tA : TA} {a b : Int}
theorem r_next (h : D.nx σ H) : tNext D σ H := h
theorem r_asg (h : ta σ H fun x H1 => g x σ H1 D.nx) : tAsg ta g D σ H := h
theorem r_name {QS : St → Hp → Prop} (h : QS (σ.set i (some v)) H) : gName i v σ H QS := h
theorem r_drop (h : ta σ H fun _ H1 => D.nx σ H1) : tDrop ta D σ H := h
theorem r_ret (h : ta σ H D.rt) : tRet ta D σ H := h
theorem r_ifS (h : tt σ H fun b H1 => if b = true then t D σ H1 else u D σ H1) : tIfS tt t u D σ H := h
theorem r_ifJ (J : St → Hp → Prop) (main : ∀ N : St → Hp → Prop, (∀ σ' H', J σ' H' → N σ' H') → tt σ H fun b H1 => if b = true then t { D with nx := N } σ H1 else u { D with nx := N } σ H1)
    (key : ∀ σ' H', J σ' H' → D.nx σ' H') : tIfS tt t u D σ H := main D.nx key
theorem r_var (e : σ[i]? = some (some v)) (h : Q v H) : tVar i σ H Q := ⟨v, e, h⟩
theorem r_C (h : Q v H) : tC v σ H Q := h
theorem r_op {r : R2} (h : ta σ H fun x H1 => tb σ H1 fun y H2 => r x y H2 Q) : tOp r ta tb σ H Q := h
theorem r_un {r : V → Hp → VK → Prop} (h : ta σ H fun x H1 => r x H1 Q) : tUn r ta σ H Q := h
theorem r_rI0 {f : Int → Int → V} (h : Q (f a b) H) : rI0 f (.int a) (.int b) H Q := ⟨a, b, rfl, rfl, h⟩
theorem r_rI {C : Int → Int → Prop} {f : Int → Int → V} (c : C a b) (h : Q (f a b) H) : rI C f (.int a) (.int b) H Q := ⟨a, b, rfl, rfl, c, h⟩
theorem r_eqI (h : Q (.bl (decide (a = b))) H) : rEq (.int a) (.int b) H Q := ⟨rfl, by
  have e : decide (V.int a = V.int b) = decide (a = b) := decide_eq_decide.mpr ⟨fun z => by injection z, fun z => by rw [z]⟩
  rw [e]; exact h⟩
theorem r_neI (h : Q (.bl (!decide (a = b))) H) : rNe (.int a) (.int b) H Q := ⟨rfl, by
  have e : decide (V.int a = V.int b) = decide (a = b) := decide_eq_decide.mpr ⟨fun z => by injection z, fun z => by rw [z]⟩
  rw [e]; exact h⟩
theorem r_test (h : ta σ H fun x H' => isB x H' QB) : tTest ta σ H QB := h
theorem r_tB (h : ta σ H fun x H1 => isB x H1 QB) : tB ta σ H QB := h
theorem r_bl {c : Bool} (h : QB c H) : isB (.bl c) H QB := ⟨c, rfl, h⟩
theorem r_and (h : tt σ H fun c H1 => if c = true then tu σ H1 QB else QB false H1) : tAnd tt tu σ H QB := h
theorem r_or (h : tt σ H fun c H1 => if c = true then QB true H1 else tu σ H1 QB) : tOr tt tu σ H QB := h
theorem r_not (h : tt σ H fun c H1 => QB (!c) H1) : tNot tt σ H QB := h
theorem r_andV (h : ta σ H fun x H1 => isB x H1 fun c H1 => if c = true then tb σ H1 Q else Q (.bl false) H1) : tAndV ta tb σ H Q := h
theorem r_notV (h : ta σ H fun x H1 => isB x H1 fun c H1 => Q (.bl (!c)) H1) : tNotV ta σ H Q := h
theorem r_nil {QA : List V → Hp → Prop} (h : QA [] H) : tNil σ H QA := h
theorem r_cons {QA : List V → Hp → Prop} (h : ta σ H fun x H1 => tA σ H1 fun xs H2 => QA (x :: xs) H2) : tCons ta tA σ H QA := h
theorem r_CB {r : List V → Hp → VK → Prop} (h : tA σ H fun vs H1 => r vs H1 Q) : tCB r tA σ H Q := h
theorem r_call {sp : Sp} {E : XK} (h : tA σ H fun vs H1 => sp (vs ++ []) H1 Q E) : tCall sp [] E tA σ H Q := h
theorem r_lst (h : tA σ H fun xs H1 => xs.length ≤ sizeLine ∧ ∀ p, H1 p = none → Q (.ref p) (upd H1 p (.lst xs))) : tLst tA σ H Q := h
theorem r_tup (h : tA σ H fun xs H1 => xs.length ≤ sizeLine ∧ ∀ p, H1 p = none → Q (.ref p) (upd H1 p (.tup xs))) : tTup tA σ H Q := h
theorem r_notN (h : ta σ H fun x H1 => Q (.bl (!decide (x = .non))) H1) : tNotN ta σ H Q := h
theorem r_for {wi : TI} (h : wi σ H (loopK g t D σ)) : tFor wi g t D σ H := h
theorem r_iList {R : It → Hp → Prop} (h : ta σ H fun x H1 => srcL K x H1 R) : iList K ta σ H R := h
theorem r_iRng1 {R : It → Hp → Prop} (h : tA σ H fun vs H1 => srcR vs H1 R) : iRng1 tA σ H R := h
theorem r_comp {own : List Str} {fr : List Nat} {wi : TI} (h : wi σ H (compK own fr g tt ta σ Q)) : tComp own fr wi g tt ta σ H Q := h
theorem r_sl {r : V → Option Int → Option Int → Hp → VK → Prop} {tl th : TO} (h : ta σ H fun x H1 => tl σ H1 fun l H2 => th σ H2 fun u H3 => r x l u H3 Q) : tSl r ta tl th σ H Q := h
theorem r_part {QO : Option Int → Hp → Prop} (h : ta σ H fun x H1 => isI x H1 QO) : tPart ta σ H QO := h
theorem r_int1 {QO : Option Int → Hp → Prop} (h : QO (some a) H) : isI (.int a) H QO := ⟨a, rfl, h⟩
theorem r_bm {T : String} {r : V → List V → Hp → VK → Prop} (h : ta σ H fun x H1 => tyV K T x H1 ∧ tA σ H1 fun xs H2 => r x xs H2 Q) : tBM K T r ta tA σ H Q := h
theorem r_fld {f : Str} (h : ta σ H fun x H1 => isF K f x H1 Q) : tFld K ta f σ H Q := h
theorem r_make {C : Addr} {sp : Sp} {dvs : List V} {E : XK} (h : tA σ H fun vs H1 => ∀ x dx, H1 x = none → H1 dx = none → dx ≠ x → sp (.ref x :: (vs ++ dvs)) (upd (upd H1 dx (.own x)) x (.ins C dx [])) (fun v H2 => v = .non ∧ Q (.ref x) H2) E) : tMake C sp dvs E tA σ H Q := h
theorem r_sFld {f : Str} (h : tb σ H fun y H1 => ta σ H1 fun x H2 => ∃ a C dx fs, x = .ref a ∧ H2 a = some (.ins C dx fs) ∧ Cls K C ∧ NoAttr K C f ∧ fs.length < 1000 ∧ D.nx σ (upd H2 a (.ins C dx (putF f y fs)))) : sFld K ta tb f D σ H := h
theorem r_ix {α : Type} [Rep α] {l : List α} {n : Nat} {c : α} (h : At K H v l) (e : a = (n : Int)) (hn : l[n]? = some c) (q : ∀ w, At K H w c → Q w H) : rIxL K v (.int a) H Q := by
  obtain ⟨p, xs, x, rfl, hS, hx, hc⟩ := h.item hn
  subst e
  exact ⟨p, xs, _, x, rfl, rfl, hS, hx, q x hc⟩
theorem r_ixI {l : List Int} {n : Nat} {c : Int} (h : At K H v l) (e : a = (n : Int)) (hn : l[n]? = some c) (q : Q (.int c) H) : rIxL K v (.int a) H Q :=
  r_ix h e hn fun w hw => by cases (show w = V.int c from hw); exact q
/-- a loop over range(n) -/
theorem rd_range {n : Nat} (e : a = (n : Int)) (hn : n ≤ 1000000) (Pv : Nat → St → Hp → Prop) (h0 : Pv 0 σ H)
    (hs : ∀ i σ' H', i < n → Pv i σ' H' → g (.int (i : Int)) σ' H' fun σ2 H2 => t { D with nx := Pv (i + 1), ct := Pv (i + 1), bk := D.nx } σ2 H2) (hd : ∀ σ' H', Pv n σ' H' → D.nx σ' H') :
    srcR [.int a] H (loopK g t D σ) := by
  subst e
  refine ⟨n, rfl, by omega, by omega, ?_⟩
  have z : ((n : Int)).toNat = n := by omega
  show loopK g t D σ (Itr 0 (n : Int).toNat) H
  rw [z]
  exact for_range Pv h0 (fun i σ' H' hi p => by rw [Int.zero_add]; exact hs i σ' H' hi p) hd
/-- a loop over a list of data that the body leaves as it is -/
theorem rd_list {α : Type} [Rep α] {l : List α} (h : At K H v l) (Pv : Nat → St → Hp → Prop) (h0 : Pv 0 σ H) (hl : ∀ i σ' H', Pv i σ' H' → Same H H')
    (hs : ∀ i c w σ' H', l[i]? = some c → At K H' w c → Pv i σ' H' → g w σ' H' fun σ2 H2 => t { D with nx := Pv (i + 1), ct := Pv (i + 1), bk := D.nx } σ2 H2) (hd : ∀ σ' H', Pv l.length σ' H' → D.nx σ' H') :
    srcL K v H (loopK g t D σ) := by
  obtain ⟨p, xs, rfl, hS, hP⟩ := h
  refine ⟨p, rfl, ⟨xs, hS⟩, for_list (K := K) (a := p) (xs := xs) Pv h0 (fun i σ' H' _ q => (hl i σ' H' q).seq hS) (fun i x σ' H' hx q => ?_) (fun σ' H' q => ?_)⟩
  · obtain ⟨c, hc, r⟩ := Paired.getL hP hx
    exact hs i c x σ' H' hc (Rep.mono (hl i σ' H' q) r) q
  · rw [hP.length] at q; exact hd σ' H' q
/-- the heap without the thing at d -/
def del (H : Hp) (d : Addr) : Hp := fun a => if a = d then none else H a
theorem del_ne {H : Hp} {d b : Addr} (h : b ≠ d) : del H d b = H b := if_neg h
theorem del_same {H H' : Hp} {d : Addr} (e : Same H H') : Same (del H d) (del H' d) := fun b o h => by
  by_cases hb : b = d
  · rw [hb] at h; have z : del H d d = none := if_pos rfl
    rw [z] at h; cases h
  · rw [del_ne hb] at h ⊢; exact e b o h
theorem del_upd {H : Hp} {d : Addr} {o : HO} : Same (del H d) (del (upd H d o) d) := fun b u h => by
  by_cases hb : b = d
  · rw [hb] at h; have z : del H d d = none := if_pos rfl
    rw [z] at h; cases h
  · rw [del_ne hb] at h ⊢; rw [upd_ne hb]; exact h
theorem del_le {H : Hp} {d : Addr} : Same (del H d) H := fun b u h => by
  by_cases hb : b = d
  · rw [hb] at h; have z : del H d d = none := if_pos rfl
    rw [z] at h; cases h
  · rw [del_ne hb] at h; exact h
/-- what a comprehension makes, by its source J of n turns: acc i is what stands after i turns -/
theorem comp_by {β : Type} [Rep β] {J : It} {n : Nat} {own : List Str} {fr : List Nat} (Src : Nat → V → Hp → Prop) (acc : Nat → List β) (Sh : St → Prop)
    (hgo : ∀ i H', i < n → Same H H' → J.go i H') (hst : ∀ H', Same H H' → J.stop n H') (hy : ∀ i H' x H2, i < n → Same H H' → J.yld i H' x H2 → H2 = H' ∧ Src i x H')
    (hz : n ≤ 100000) (ha0 : acc 0 = []) (hal : ∀ i, i ≤ n → (acc i).length ≤ i) (h0 : Sh (compSt own fr σ))
    (turn : ∀ i w σ' H' (d : Addr) (R : St → V → Hp → Prop) (R0 : St → Hp → Prop), i < n → Same H H' → Src i w H' → Sh σ' →
      (∀ σ2 y b H5, Sh σ2 → Same H' H5 → At K (del H5 d) y b → acc (i + 1) = acc i ++ [b] → R σ2 y H5) → (∀ σ2 H5, Sh σ2 → Same H' H5 → acc (i + 1) = acc i → R0 σ2 H5) → (∃ ys, H' d = some (.lst ys)) →
      g w σ' H' fun σ2 H3 => tt σ2 H3 fun ok H4 => if ok = true then ta σ2 H4 (R σ2) else R0 σ2 H4)
    (fin : ∀ d H', H d = none → Same H H' → (∃ ys, H' d = some (.lst ys) ∧ Paired (Rep.is K (del H' d)) ys (acc n)) → Q (.ref d) H') (d : Addr) (hd : H d = none) :
    ∃ W : Nat → Nat → St → Hp → Prop, (∃ m, W 0 m (compSt own fr σ) (upd H d (.lst []))) ∧ ∀ i m σ' H', W i m σ' H' →
      (J.stop i H' ∧ Q (.ref d) H') ∨ (J.go i H' ∧ ∀ x H2, J.yld i H' x H2 → g x σ' H2 fun σ2 H3 => tt σ2 H3 fun ok H4 =>
        if ok = true then ta σ2 H4 fun y H5 => ∃ ys, H5 d = some (.lst ys) ∧ ys.length < sizeLine ∧ ∃ m', m' < m ∧ W (i + 1) m' σ2 (upd H5 d (.lst (ys ++ [y]))) else ∃ m', m' < m ∧ W (i + 1) m' σ2 H4) := by
  refine ⟨fun i m σ' H' => m = n - i ∧ i ≤ n ∧ Sh σ' ∧ Same H H' ∧ ∃ ys, H' d = some (.lst ys) ∧ Paired (Rep.is K (del H' d)) ys (acc i), ⟨n, rfl, Nat.zero_le _, h0, same_new hd _, [], upd_same, by rw [ha0]; exact .nil⟩, ?_⟩
  rintro i m σ' H' ⟨rfl, hi, hsh, hs, ys, hys, hp⟩
  by_cases hlt : i < n
  · refine .inr ⟨hgo i H' hlt hs, fun x H2 hx => ?_⟩
    obtain ⟨rfl, hsrc⟩ := hy i H' x H2 hlt hs hx
    refine turn i x σ' H2 d _ _ hlt hs hsrc hsh (fun σ2 y b H5 h1 h2 h3 h4 => ?_) (fun σ2 H5 h1 h2 h4 => ?_) ⟨ys, hys⟩
    · have hl := hp.length
      have hl2 := hal i hi
      refine ⟨ys, h2 _ _ hys, Nat.lt_of_le_of_lt (show ys.length ≤ 100000 by omega) (by rw [sizeLine_eq]; decide), n - (i + 1), by omega, rfl, hlt, h1, fun b' o e => ?_, ys ++ [y], upd_same, ?_⟩
      · rw [upd_ne (ne_of_none e hd)]; exact h2 _ _ (hs _ _ e)
      · rw [h4]
        exact Paired.app (Paired.mapP hp fun _ _ q => Rep.mono del_upd (Rep.mono (del_same h2) q)) (.cons (Rep.mono del_upd h3) .nil)
    · refine ⟨n - (i + 1), by omega, rfl, hlt, h1, hs.trans h2, ys, h2 _ _ hys, ?_⟩
      rw [h4]
      exact Paired.mapP hp fun _ _ q => Rep.mono (del_same h2) q
  · have e : i = n := by omega
    subst e
    exact .inl ⟨hst H' hs, fin d H' hd hs ⟨ys, hys, hp⟩⟩
/-- a comprehension over a list of data -/
theorem rd_clistG {α β : Type} [Rep α] [Rep β] {l : List α} {own : List Str} {fr : List Nat} (h : At K H v l) (hz : l.length ≤ 100000) (acc : Nat → List β) (Sh : St → Prop) (ha0 : acc 0 = []) (hal : ∀ i, i ≤ l.length → (acc i).length ≤ i) (h0 : Sh (compSt own fr σ))
    (turn : ∀ i c w σ' H' (d : Addr) (R : St → V → Hp → Prop) (R0 : St → Hp → Prop), l[i]? = some c → Same H H' → At K H' w c → Sh σ' →
      (∀ σ2 y b H5, Sh σ2 → Same H' H5 → At K (del H5 d) y b → acc (i + 1) = acc i ++ [b] → R σ2 y H5) → (∀ σ2 H5, Sh σ2 → Same H' H5 → acc (i + 1) = acc i → R0 σ2 H5) → (∃ ys, H' d = some (.lst ys)) →
      g w σ' H' fun σ2 H3 => tt σ2 H3 fun ok H4 => if ok = true then ta σ2 H4 (R σ2) else R0 σ2 H4)
    (fin : ∀ d H', H d = none → Same H H' → (∃ ys, H' d = some (.lst ys) ∧ Paired (Rep.is K (del H' d)) ys (acc l.length)) → Q (.ref d) H') :
    srcL K v H (compK own fr g tt ta σ Q) := by
  obtain ⟨p, xs, rfl, hS, hP⟩ := h
  have hl := hP.length
  refine ⟨p, rfl, ⟨xs, hS⟩, comp_by (J := Itl K p) (n := l.length) (fun i w H' => ∃ c, l[i]? = some c ∧ At K H' w c) acc Sh (fun i H' hi e => ⟨xs, xs[i]'(by omega), e.seq hS, by simp [hl, hi]⟩) (fun H' e => ⟨xs, e.seq hS, Nat.le_of_eq hl⟩)
    (fun i H' x H2 hi e hy => ?_) hz ha0 hal h0 (fun i w σ' H' d R R0 hi e ⟨c, hc, hw⟩ => turn i c w σ' H' d R R0 hc e hw) fin⟩
  obtain ⟨e1, e2⟩ := hy
  have z := e2 xs (e.seq hS)
  obtain ⟨c, hc, r⟩ := Paired.getL hP z
  exact ⟨e1, c, hc, Rep.mono e r⟩
theorem rd_clist {α β : Type} [Rep α] [Rep β] {l : List α} {own : List Str} {fr : List Nat} (h : At K H v l) (hz : l.length ≤ 100000) (acc : Nat → List β) (Sh : St → Prop) (ha0 : acc 0 = []) (hal : ∀ i, i ≤ l.length → (acc i).length ≤ i) (h0 : Sh (compSt own fr σ))
    (turn : ∀ i c w σ' H' (d : Addr) (R : St → V → Hp → Prop) (R0 : St → Hp → Prop), l[i]? = some c → Same H H' → At K H' w c → Sh σ' →
      (∀ σ2 y b H5, Sh σ2 → Same H' H5 → At K (del H5 d) y b → acc (i + 1) = acc i ++ [b] → R σ2 y H5) → (∀ σ2 H5, Sh σ2 → Same H' H5 → acc (i + 1) = acc i → R0 σ2 H5) → (∃ ys, H' d = some (.lst ys)) →
      g w σ' H' fun σ2 H3 => tt σ2 H3 fun ok H4 => if ok = true then ta σ2 H4 (R σ2) else R0 σ2 H4)
    (fin : ∀ d H', Same H H' → At K H' (.ref d) (acc l.length) → Q (.ref d) H') :
    srcL K v H (compK own fr g tt ta σ Q) :=
  rd_clistG h hz acc Sh ha0 hal h0 turn fun d H' _ hs ⟨ys, hys, hp⟩ => fin d H' hs ⟨d, ys, rfl, SqL.of hys, Paired.mapP hp fun _ _ q => Rep.mono del_le q⟩
theorem r_all (h : QB true H) : tAll σ H QB := h
theorem r_true {A B : Prop} (h : A) : if true = true then A else B := iteT h
end
theorem rd_if {c A B : Prop} [Decidable c] (h1 : c → A) (h2 : ¬ c → B) : if decide c = true then A else B := by
  by_cases h : c
  · rw [decide_eq_true h]; exact iteT (h1 h)
  · rw [decide_eq_false h]; exact iteF (h2 h)
theorem rd_ifn {c A B : Prop} [Decidable c] (h1 : ¬ c → A) (h2 : c → B) : if (!decide c) = true then A else B := by
  by_cases h : c
  · rw [decide_eq_true h]; exact iteF (h2 h)
  · rw [decide_eq_false h]; exact iteT (h1 h)
end L2

namespace L2
open PySem PySem.Spec PyProof.Rows
/-- the list at d holds the data l, none of which stands at d itself -/
def Gr {β : Type} [Rep β] (K : PySem.W.Frag) (H : Hp) (d : Addr) (l : List β) : Prop := ∃ ys, H d = some (.lst ys) ∧ Paired (Rep.is K (del H d)) ys l
section
variable {β : Type} [Rep β] {K : PySem.W.Frag} {H H' : Hp} {d : Addr} {l : List β} {y : V} {b : β} {Q : VK}
theorem Gr.nil (h : H d = some (.lst [])) : Gr K H d ([] : List β) := ⟨[], h, .nil⟩
theorem Gr.at (h : Gr K H d l) : At K H (.ref d) l := by
  obtain ⟨ys, h1, h2⟩ := h
  exact ⟨d, ys, rfl, SqL.of h1, Paired.mapP h2 fun _ _ q => Rep.mono del_le q⟩
theorem Gr.mono (s : Same H H') (h : Gr K H d l) : Gr K H' d l := by
  obtain ⟨ys, h1, h2⟩ := h
  exact ⟨ys, s _ _ h1, Paired.mapP h2 fun _ _ q => Rep.mono (del_same s) q⟩
theorem Gr.is (h : Gr K H d l) : ∃ ys, H d = some (.lst ys) := let ⟨ys, h1, _⟩ := h; ⟨ys, h1⟩
theorem Gr.ty (h : Gr K H d l) : tyV K "list" (.ref d) H := by
  obtain ⟨ys, h1, _⟩ := h
  exact .inl ⟨rfl, _, SqL.of h1⟩
/-- append: all else stays -/
theorem r_append (h : Gr K H d l) (hl : l.length ≤ 100000) (hy : At K (del H d) y b) (q : ∀ H', Gr K H' d (l ++ [b]) → (∀ a o, a ≠ d → H a = some o → H' a = some o) → (∀ a, a ≠ d → H' a = H a) → Q .non H') : rAppend (.ref d) [y] H Q := by
  obtain ⟨ys, h1, h2⟩ := h
  have e := h2.length
  refine ⟨d, ys, y, rfl, rfl, h1, Nat.lt_of_le_of_lt (show ys.length ≤ 100000 by omega) (by rw [sizeLine_eq]; decide), ?_⟩
  refine q _ ⟨_, upd_same, Paired.app (Paired.mapP h2 fun _ _ z => Rep.mono del_upd z) (.cons (Rep.mono del_upd hy) .nil)⟩ (fun a o ha z => by rw [upd_ne ha]; exact z) fun a ha => upd_ne ha
theorem Same.but {H₀ : Hp} (hd : H₀ d = none) (s : Same H₀ H) (k : ∀ a o, a ≠ d → H a = some o → H' a = some o) : Same H₀ H' := fun a o z => k a o (ne_of_none z hd) (s a o z)
end
/-- a slice of a list of data -/
def cut {α : Type} (l : List α) (lo hi : Option Int) : List α := (l.drop (HT.sIx l.length 0 lo)).take (HT.sIx l.length l.length hi - HT.sIx l.length 0 lo)
theorem r_slice {α : Type} [Rep α] {K : PySem.W.Frag} {H : Hp} {v : V} {Q : VK} {l : List α} {lo hi : Option Int} (h : At K H v l) (q : ∀ p H', Same H H' → H p = none → At K H' (.ref p) (cut l lo hi) → Q (.ref p) H') : rSlL K v lo hi H Q := by
  obtain ⟨p, xs, rfl, hS, hP⟩ := h
  refine ⟨p, xs, rfl, hS, fun d hd => q d _ (same_new hd _) hd ⟨d, _, rfl, SqL.of upd_same, ?_⟩⟩
  have e := hP.length
  unfold cutV cut
  rw [e]
  exact Paired.takeP _ (Paired.dropP _ (Paired.mapP hP fun _ _ z => Rep.mono (same_new hd _) z))
end L2

namespace L2
open PySem PySem.Spec PyProof.Rows
def rLen (K : PySem.W.Frag) : List V → Hp → VK → Prop := fun xs H Q => ∃ p ys, xs = [.ref p] ∧ (SqL K H p ys ∨ SqT K H p ys) ∧ Q (.int ys.length) H
def rList (K : PySem.W.Frag) : List V → Hp → VK → Prop := fun xs H Q => ∃ p ys, xs = [.ref p] ∧ (SqL K H p ys ∨ SqT K H p ys) ∧ ∀ l, H l = none → Q (.ref l) (upd H l (.lst ys))
def rInst (K : PySem.W.Frag) : List V → Hp → VK → Prop := fun xs H Q => ∃ x n t b, xs = [x, .ty n] ∧ TyOf K H x t ∧ PySem.W.kitOne K t (.type n) = some b ∧ Q (.bl b) H
def rEqL (α : Type) [Rep α] [DecidableEq α] (K : PySem.W.Frag) : R2 := fun x y H Q => ∃ as bs : List α, At K H x as ∧ At K H y bs ∧ Q (.bl (decide (as = bs))) H
def rNeL (α : Type) [Rep α] [DecidableEq α] (K : PySem.W.Frag) : R2 := fun x y H Q => ∃ as bs : List α, At K H x as ∧ At K H y bs ∧ Q (.bl (!decide (as = bs))) H
section
variable {K : PySem.W.Frag} {H : Hp} {Q : VK} {v x y : V} {α : Type} [Rep α] {l : List α}
theorem r_len (h : At K H v l) (q : Q (.int (l.length : Int)) H) : rLen K [v] H Q := by
  obtain ⟨p, xs, rfl, hS, e⟩ := h.len
  exact ⟨p, xs, rfl, .inl hS, by rw [e]; exact q⟩
theorem r_inst {n : String} {t : Value} {b : Bool} (ty : TyOf K H x t) (e : PySem.W.kitOne K t (.type n) = some b) (q : Q (.bl b) H) : rInst K [x, .ty n] H Q := ⟨x, n, t, b, rfl, ty, e, q⟩
theorem r_eqL [DecidableEq α] {as bs : List α} (ha : At K H x as) (hb : At K H y bs) (q : Q (.bl (decide (as = bs))) H) : rEqL α K x y H Q := ⟨as, bs, ha, hb, q⟩
theorem r_neL [DecidableEq α] {as bs : List α} (ha : At K H x as) (hb : At K H y bs) (q : Q (.bl (!decide (as = bs))) H) : rNeL α K x y H Q := ⟨as, bs, ha, hb, q⟩
end
section
variable {X : Cx} (K : PySem.W.Frag) (hK : X.K = K) {e l o value : Expr} {ta tv tl : TE} {f : Str} {pos pos' : Pos}
include hK
theorem ix_listK : IxR X (rIxL K) := by subst hK; exact ix_list
theorem ix_tupK : IxR X (rIxT K) := by subst hK; exact ix_tup
theorem pe_fldK (he : PE X e ta) (hb : attributeBase e f X.env (eval e X.env) = eval e X.env) : PE X (.Attribute e f pos) (tFld K ta f) := by subst hK; exact pe_fld he hb
theorem ps_fldK (ha : PE X o ta) (hv : PE X value tv) (hs : swapsWith value (some (.Attribute o f pos')) pos.line X.env = pure false) : PS X (.Assign [.Attribute o f pos'] value pos) (sFld K ta tv f) := by subst hK; exact ps_fld ha hv hs
theorem pi_listK {tg : Expr} (hl : PE X l tl) : PI X tg l (iList K tl) := by subst hK; exact pi_list hl
theorem sl_listK : SlR X (rSlL K) := by subst hK; exact sl_list
theorem call_lenK : CallR X (.builtin "len") (rLen K) := by subst hK; exact call_len_seq
theorem call_listK : CallR X (.type "list") (rList K) := by subst hK; exact call_list_of
theorem call_isinstK : CallR X (.builtin "isinstance") (rInst K) := by subst hK; exact call_isinst
theorem op_eqLK (α : Type) [Rep α] [DecidableEq α] [RepEq α] (hu : X.A.units + 64 < cLine) (hd : RepEq.depth α ≤ 32 := by decide) :
    OpR X (compareOp .Eq) (rEqL α K) := by subst hK; exact op_eqL α hu hd
theorem op_neLK (α : Type) [Rep α] [DecidableEq α] [RepEq α] (hu : X.A.units + 64 < cLine) (hd : RepEq.depth α ≤ 32 := by decide) :
    OpR X (compareOp .NotEq) (rNeL α K) := by subst hK; exact op_neL α hu hd
theorem pe_bmK {T id : String} {name : Str} {r : V → List V → Hp → VK → Prop} {to : TE} {t : TA} {e : Expr} {es : List Expr} {apos cpos : Pos} (pa : PlainAttrs T) (slot : Slot T name id) (hty : typeOf (.builtin id) = pure (.type "method_descriptor")) (hm : MtR X id r) (ho : PE X o to) (ha : PA X (e :: es) t)
    (hbase : attributeBase o name X.env (eval o X.env) = eval o X.env := by rfl)
    (hfew : ((backTo cpos (starEach (e :: es) X.env)).all (fun x => !x.1) && (backToKw cpos (keywordEach [] X.env)).all (fun x => x.1.isSome)
      && decide ((e :: es).length + ([] : List Keyword).length + (if ([] : List Keyword).isEmpty then 0 else 1) < 30)) = true := by rfl)
    (hline : (apos.endLine == cpos.line) = true := by rfl) (hs : starEach (e :: es) X.env = (false, eval e X.env) :: starEach es X.env := by rfl) (hplain : (backTo cpos (starEach es X.env)).any (·.1) = false := by rfl) :
    PE X (.Call (.Attribute o name apos) (e :: es) [] cpos) (tBM K T r to t) := by subst hK; exact pe_bm pa slot hty hm ho ha hbase hfew hline hs hplain
theorem pe_bm0K {T id : String} {name : Str} {r : V → List V → Hp → VK → Prop} {to : TE} {apos cpos : Pos} (pa : PlainAttrs T) (slot : Slot T name id) (hty : typeOf (.builtin id) = pure (.type "method_descriptor")) (hm : MtR X id r) (ho : PE X o to)
    (hbase : attributeBase o name X.env (eval o X.env) = eval o X.env := by rfl) (hline : (apos.endLine == cpos.line) = true := by rfl) : PE X (.Call (.Attribute o name apos) [] [] cpos) (tBM0 K T r to) := by subst hK; exact pe_bm0 pa slot hty hm ho hbase hline
end
end L2

namespace L2
open PySem PySem.Spec PyProof.Rows
section
variable {X : Cx} {pins : List (Addr × Obj)} {σ : St} {H : Hp} {s : Shared} {h' : Heap} {t' : Nat} {fp : List Addr} {p : Addr} {o : HO}
/-- records of ours have turned, and a new object is tracked -/
theorem Inv.turnedNew (I : Inv X pins σ H s) (hf : ∀ b ∈ fp, FpOk X pins H b) (k : ∀ b ob, b ∉ fp → s.heap.get? b = some ob → h'.get? b = some ob) (hp : s.heap.objs.size ≤ p) (new : ObjOk X.prog X.w (upd H p o) h' p o) :
    Inv X pins σ (upd H p o) { s with heap := h', toks := t' } := by
  have hn := I.hok.fresh hp
  have lt : ∀ {b : Addr} {ob : Obj}, s.heap.get? b = some ob → b ≠ p := fun e => Nat.ne_of_lt (Nat.lt_of_lt_of_le (Heap.lt_size e) hp)
  have nofp : ∀ b u, H b = some u → b ∉ fp := fun b u e hb => by rw [(hf b hb).1] at e; cases e
  refine I.step (g' := s.gens) (d' := s.drawn) (ch := fp) (fun b hb => let ⟨_, f1, _, f3, f4, f5⟩ := hf b hb; ⟨f3, f1, f4, f5⟩) (fun b ob _ _ hc e _ => k b ob hc e) (fun b ob _ _ hc e _ => ⟨ob.slots, k b ob hc e⟩)
    (fun b ob _ e n => by rw [upd_ne (lt e)]; exact n) (fun b ob hc e => ⟨ob, k b ob hc e⟩) (fun b xs e => by rw [upd_ne (ne_of_none e hn)]; exact e) (fun b ob u e => by rw [upd_ne (ne_of_none e hn)]; exact e)
    (fun b ps e => ⟨#[], by rw [upd_ne (ne_of_none e hn), e]; simp⟩) (fun m hm => ?_) (fun b u e => ?_) I.bare
  · obtain ⟨ob, es, ep, e, r⟩ := hm
    exact ⟨ob, es, ep, k _ ob (fun hb => (hf _ hb).2.1 rfl) e, r⟩
  · by_cases hb : b = p
    · subst hb; rw [upd_same] at e; cases e; exact new
    · rw [upd_ne hb] at e
      refine (I.hok b u e).stay (fun c v hc q => k c v ?_ q) (fun c q => by rw [upd_ne (ne_of_none q hn)]; exact q) fun c xs q => by rw [upd_ne (ne_of_none q hn)]; exact q
      rcases hc with z | z
      · rw [z]; exact nofp b u e
      · exact nofp c _ z
end
def Ite (K : PySem.W.Frag) (a : Addr) : It :=
  ⟨fun i H => ∃ xs x, SqL K H a xs ∧ xs[i]? = some x, fun i H v H' => ∃ p x, v = .ref p ∧ H p = none ∧ H' = upd H p (.tup [.int (i : Int), x]) ∧ ∀ xs, SqL K H a xs → xs[i]? = some x, fun i H => ∃ xs, SqL K H a xs ∧ xs.length ≤ i⟩
theorem turn_enum {P : Program} {w : World} {K : PySem.W.Frag} {es : List Expr} {kk : Nat} {tpos : Pos} (a e it : Addr) (hei : e ≠ it) :
    Turn P w K (.Tuple es kk tpos) (Ite K a) [e, it] e (fun i h => (∃ old, IsEnum h e it i old) ∧ h.IsListIter it a i) where
  mem := by simp
  obj := fun i h st b hb => by
    obtain ⟨⟨old, he⟩, o, e1, c, d⟩ := st
    rcases List.mem_cons.mp hb with z | hb
    · rw [z]; exact ⟨_, he, fun v z => by
        have z' : Data.fields _ = Data.cell v := z
        cases z'⟩
    · rw [List.mem_singleton.mp hb]; exact ⟨o, e1, fun v z => by rw [d] at z; cases z⟩
  keep := fun i h h' st k => ⟨let ⟨old, he⟩ := st.1; ⟨old, k e (by simp) _ he⟩, st.2.at fun o e => k it (by simp) o e⟩
  item := by
    intro X hP hw hK hc i pins s σ H E I hf st hg
    subst hP hw hK
    obtain ⟨xs, x, hq, hx⟩ := hg
    obtain ⟨its, rv, p, hz⟩ := I.list hq
    obtain ⟨u, hu, ru⟩ := rv.get hx
    obtain ⟨⟨old, he⟩, hit⟩ := st
    refine wpAny_pyNext_enum_item he hit p.isList (x := u) (by simpa using hu) hei fun h' ho hit' hT hsz hk => ?_
    refine ⟨_, rfl, ?_⟩
    have I1 : Inv X pins σ (upd H s.heap.objs.size (.tup [.int (i : Int), x])) { s with heap := h', toks := s.toks + 1 } :=
      I.turnedNew hf (fun b ob hb q => hk b ob (fun z => hb (by simp [z])) (fun z => hb (by simp [z])) q) (Nat.le_refl _) ⟨by show 2 ≤ sizeLine; decide, [.int i s.toks, u], .cons ⟨_, rfl⟩ (.cons ru .nil), ⟨_, hT, rfl, _, rfl⟩⟩
    have fE := hf e (by simp)
    have hlt : e < s.heap.objs.size := Heap.lt_size he
    have hlt2 : it < s.heap.objs.size := by obtain ⟨_, z, _⟩ := hit; exact Heap.lt_size z
    refine wpAny_letOwnedTupleGo_enum ho fun h2 he2 hs2 => ?_
    have nE : (upd H s.heap.objs.size (.tup [.int (i : Int), x])) e = none := by rw [upd_ne (Nat.ne_of_lt hlt)]; exact fE.1
    refine ⟨.ref s.heap.objs.size, _, I1.turned (t' := s.toks + 1) (fun b ob hb q => (hs2.2 b hb).trans q) nE fE.2.1 fE.2.2.2.1 fE.2.2.2.2.1 fE.2.2.2.2.2, rfl, ⟨_, x, rfl, I.hok.fresh (Nat.le_refl _), rfl, fun ys hy => by rw [I.list_inj hy hq]; exact hx⟩, ?_, fun b hb => ?_⟩
    · refine ⟨⟨u, ?_⟩, hit'.at fun o q => (hs2.2 it (Ne.symm hei)).trans q⟩
      have e1 : ((i + 1 : Nat) : Int) = (i : Int) + 1 := by omega
      rw [e1]; exact he2
    · have hb' : b < s.heap.objs.size := by
        rcases List.mem_cons.mp hb with z | hb
        · rw [z]; exact hlt
        · rw [List.mem_singleton.mp hb]; exact hlt2
      rw [upd_ne (Nat.ne_of_lt hb')]
      exact (hf b hb).1
  done := by
    intro X hP hw hK hc i pins s σ H E I hf st hg
    subst hP hw hK
    obtain ⟨xs, hq, hx⟩ := hg
    obtain ⟨its, rv, p, hz⟩ := I.list hq
    obtain ⟨⟨old, he⟩, hit⟩ := st
    have hl := rv.length
    obtain ⟨f0, f1, f2, f3, f4, f5⟩ := hf it (by simp)
    exact wpAny_pyNext_enum_end (I.ok.hd hc) he hit p.isList (by simp; omega) fun h' eb => ⟨rfl, I.turned (t' := s.toks) (fun b o hb e => eb b o hb e) f0 f1 f3 f4 f5⟩
  self := fun _ _ _ _ _ st h => by
    obtain ⟨⟨old, he⟩, _⟩ := st
    exact wpAny_pyIter_enum he h
def srcE (K : PySem.W.Frag) (vs : List V) (H : Hp) (R : It → Hp → Prop) : Prop := ∃ a xs, vs = [.ref a] ∧ SqL K H a xs ∧ R (Ite K a) H
def iEnum (K : PySem.W.Frag) (ta : TA) : TI := fun σ H R => ta σ H fun vs H1 => srcE K vs H1 R
theorem pi_enumK {X : Cx} (K : PySem.W.Frag) (hK : X.K = K) {tgs : List Expr} {kk : Nat} {tpos : Pos} {a : Expr} {ta : TA} {p pos : Pos} (hg : Gl X "enumerate") (hm : X.mg "enumerate" = none) (ha : PA X [a] ta) (hs : starEach [a] X.env = [(false, eval a X.env)] := by rfl) :
    PI X (.Tuple tgs kk tpos) (.Call (.Name "enumerate" p) [a] [] pos) (iEnum K ta) := by
  subst hK
  intro pins s σ H R I h
  refine Call_ (ld_blt I hg hm boot_enumerate (PyProof.Rows.callWith_type1 (thn (ha pos pins s σ H _ I h) fun us s1 ⟨vs, H1, I1, r1, q1⟩ => ?_) hs rfl))
  obtain ⟨l, xs, e, hS, q⟩ := q1
  subst e
  cases r1 with
  | cons r rr =>
    cases rr
    cases (show _ = Value.ref l from r)
    obtain ⟨its, rv, pl, hz⟩ := I1.list hS
    refine call_enumerate_list pl.isList fun h' he hit hsz hk => ?_
    refine wpAny_pyIter_enum he ?_
    have I2 : Inv X pins σ H1 { s1 with heap := h' } := I1.kept (t' := s1.toks) hk
    refine ⟨s1.heap.objs.size + 1, [s1.heap.objs.size + 1, s1.heap.objs.size], _, _, H1, rfl, I2, turn_enum l _ _ (Nat.succ_ne_self _), ⟨⟨.none, he⟩, hit⟩, fun b hb => ?_, q⟩
    rcases List.mem_cons.mp hb with z | hb
    · rw [z]; exact I1.fpOk (Nat.le_succ _) (I1.hok.fresh (Nat.le_succ _))
    · rw [List.mem_singleton.mp hb]; exact I1.fpOk (Nat.le_refl _) (I1.hok.fresh (Nat.le_refl _))
end L2

namespace L2
open PySem PySem.Spec PyProof.Rows
section
variable {σ : St} {H : Hp} {Q : VK} {D : Ends} {K : PySem.W.Frag} {t : TS} {ta tb : TE} {g : TG} {v w x y : V} {tA : TA} {a : Int}
theorem nats_of {l : List Nat} : Paired (Rep.is K H) (l.map fun (n : Nat) => V.int (n : Int)) l := by
  have q := Paired.of_map (F := fun (v : V) (a : Nat) => v = .int (a : Int)) (f := fun (n : Nat) => V.int (n : Int)) (g := id) (fun _ => rfl) l
  rw [List.map_id] at q
  exact q
theorem r_gSub {to ti : TE} {ts : TSet} {QS : St → Hp → Prop} (h : to σ H fun o H1 => ti σ H1 fun i H2 => ts o i v H2 fun H3 => QS σ H3) : gSub to ti ts v σ H QS := h
theorem r_setL {p : Addr} {xs : List V} {j : Nat} {QH : Hp → Prop} (hp : H p = some (.lst xs)) (e : a = (j : Int)) (hj : j < xs.length) (q : QH (upd H p (.lst (xs.set j v)))) : rSetL (.ref p) (.int a) v H QH := by
  subst e
  refine ⟨p, xs, _, j, rfl, rfl, hp, ?_, q⟩
  unfold ixN
  rw [if_pos (by omega), if_pos (by omega)]
  rfl
theorem r_iEnum {R : It → Hp → Prop} (h : tA σ H fun vs H1 => srcE K vs H1 R) : iEnum K tA σ H R := h
/-- a loop over enumerate(a list of data), two names; H₀: what stays all the while -/
theorem rd_enum {α : Type} [Rep α] {l : List α} {ia ib : Nat} {H₀ : Hp} (h : At K H₀ v l) (Pv : Nat → St → Hp → Prop) (h0 : Pv 0 σ H) (hl : ∀ i σ' H', Pv i σ' H' → Same H₀ H')
    (hs : ∀ i c w σ' H' H'' p, l[i]? = some c → At K H₀ w c → Pv i σ' H' → H' p = none → H'' = upd H' p (.tup [.int (i : Int), w]) → Same H' H'' → t { D with nx := Pv (i + 1), ct := Pv (i + 1), bk := D.nx } ((σ'.set ia (some (.int (i : Int)))).set ib (some w)) H'')
    (hd : ∀ σ' H', Pv l.length σ' H' → D.nx σ' H') : srcE K [v] H (loopK (gTup K 2 (gCons (gName ia) (gCons (gName ib) gNil))) t D σ) := by
  obtain ⟨p, xs, rfl, hS, hP⟩ := h
  have hlen := hP.length
  refine ⟨p, xs, rfl, (hl 0 σ H h0).seq hS, fun i m σ' H' => m = xs.length - i ∧ i ≤ xs.length ∧ Pv i σ' H', ⟨xs.length, by simp, Nat.zero_le _, h0⟩, ?_⟩
  rintro i m σ' H' ⟨rfl, hi, p0⟩
  have q := (hl i σ' H' p0).seq hS
  by_cases hlt : i < xs.length
  · refine .inr ⟨⟨xs, xs[i], q, by simp [hlt]⟩, Pv (i + 1), fun σ2 H2 p' => ⟨xs.length - (i + 1), by omega, rfl, hlt, p'⟩, fun z H2 yl => ?_⟩
    obtain ⟨d, w, rfl, hd', rfl, hw⟩ := yl
    have hx := hw xs q
    obtain ⟨c, hc, r⟩ := Paired.getL hP hx
    refine ⟨d, [.int (i : Int), w], rfl, SqT.of upd_same, rfl, ⟨_, _, rfl, ⟨_, _, rfl, ⟨rfl, ?_⟩⟩⟩⟩
    exact hs i c w σ' H' _ d hc r p0 hd' rfl (same_new hd' _)
  · have e : i = xs.length := by omega
    subst e
    exact .inl ⟨⟨xs, q, Nat.le_refl _⟩, hd σ' H' (by rw [hlen] at p0; exact p0)⟩
end
def intsV (r : List Nat) : List V := r.map fun (n : Nat) => V.int (n : Int)
structure Tbl (H : Hp) (d : Addr) (rows : List (List Nat)) (ps : List Addr) : Prop where
  top : H d = some (.lst (ps.map V.ref))
  nd : ps.Nodup
  ap : d ∉ ps
  len : ps.length = rows.length
  row : ∀ (i : Nat) (p : Addr) (r : List Nat), ps[i]? = some p → rows[i]? = some r → H p = some (.lst (intsV r))
section
variable {H H' : Hp} {d : Addr} {rows : List (List Nat)} {ps : List Addr} {K : PySem.W.Frag}
theorem Tbl.mono (s : Same H H') (h : Tbl H d rows ps) : Tbl H' d rows ps := ⟨s _ _ h.top, h.nd, h.ap, h.len, fun i p r e1 e2 => s _ _ (h.row i p r e1 e2)⟩
theorem paired_of_get {α β : Type} {F : α → β → Prop} : ∀ {xs : List α} {ys : List β}, xs.length = ys.length → (∀ (i : Nat) (x : α) (y : β), xs[i]? = some x → ys[i]? = some y → F x y) → Paired F xs ys
  | [], [], _, _ => .nil
  | [], _ :: _, h, _ => by cases h
  | _ :: _, [], h, _ => by cases h
  | x :: xs, y :: ys, h, g => .cons (g 0 x y rfl rfl) (paired_of_get (by simpa using h) fun i u v hu hv => g (i + 1) u v (by simpa using hu) (by simpa using hv))
theorem Tbl.at (h : Tbl H d rows ps) : At K H (.ref d) rows := by
  refine ⟨d, _, rfl, SqL.of h.top, paired_of_get (by rw [List.length_map, h.len]) fun i x r hx hr => ?_⟩
  rw [List.getElem?_map] at hx
  cases e : ps[i]? with
  | none => rw [e] at hx; cases hx
  | some p =>
    rw [e] at hx
    have hx' : x = V.ref p := (Option.some.inj hx).symm
    rw [hx']
    exact ⟨p, _, rfl, SqL.of (h.row i p r e hr), nats_of⟩
end
def WrA (K : PySem.W.Frag) {α : Type} [Rep α] (t : TA) (l : List α) : Prop := ∀ σ H Q, (∀ vs H', Same H H' → Paired (Rep.is K H') vs l → Q vs H') → t σ H Q
section
variable {K : PySem.W.Frag} {α : Type} [Rep α] {t : TE} {tA : TA} {a : α} {l : List α}
theorem mk_nil : WrA K tNil ([] : List α) := fun _ H _ q => q [] H (Same.refl _) .nil
end
end L2

namespace L2
open PySem PySem.Spec PyProof.Rows
def isStar : Expr → Bool
  | .Starred .. => true
  | _ => false
theorem star_cons {e : Expr} {es : List Expr} {env : Env} (h : isStar e = false) : starEach (e :: es) env = (false, eval e env) :: starEach es env := by
  cases e <;> first | rfl | cases h
theorem star_any {env : Env} {pos : Pos} : ∀ {es : List Expr}, es.all (fun e => !isStar e) = true → (backTo pos (starEach es env)).any (·.1) = false
  | [], _ => rfl
  | e :: es, h => by
    rw [List.all_cons, Bool.and_eq_true] at h
    rw [star_cons (by simpa using h.1)]
    have ih := star_any (env := env) (pos := pos) h.2
    show (backTo pos ((false, eval e env) :: starEach es env)).any (·.1) = false
    unfold backTo at ih ⊢
    simpa using ih
theorem star_few {env : Env} {pos : Pos} {es : List Expr} (h : es.all (fun e => !isStar e) = true) (hl : es.length < 30) : ((backTo pos (starEach es env)).all (fun x => !x.1) && (backToKw pos (keywordEach [] env)).all (fun x => x.1.isSome)
      && decide (es.length + ([] : List Keyword).length + (if ([] : List Keyword).isEmpty then 0 else 1) < 30)) = true := by
  have h1 := star_any (env := env) (pos := pos) h
  have h2 : (backTo pos (starEach es env)).all (fun x => !x.1) = true := by
    rw [List.any_eq_false] at h1
    rw [List.all_eq_true]
    intro x hx
    have := h1 x hx
    simpa using this
  rw [h2]
  show (true && true && decide (es.length + 0 + 0 < 30)) = true
  simpa using hl
section
variable {X : Cx} {e o : Expr} {es : List Expr} {te : TE} {t : TA} {x : Str} {st : Stmt} {ps : List Str} {k : Nat} {sp : Sp} {p pos : Pos}
theorem paF (ha : PE X e te) (hr : PA X es t) (hn : isStar e = false := by rfl) : PA X (e :: es) (tCons te t) := pa_cons ha hr (star_cons hn)
theorem pe_dfF (d : Df X.K X.mg x st ps) (G : FnOk X.prog X.w X.K X.mg X.base CX0 k d.f d.fd ps sp) (hr : Room k X.A) (hg : Gl X x) (ha : PA X (e :: es) t) (hn : isStar e = false := by rfl) (hall : es.all (fun e => !isStar e) = true := by rfl) (hdb : (x == ("__debug__" : Str)) = false := by decide) :
    PE X (.Call (.Name x p) (e :: es) [] pos) (tCall sp [] E0 t) := pe_df d G hr hg ha hdb (star_cons hn) (star_any hall)
theorem pe_callBF {id : String} {r : List V → Hp → VK → Prop} (hc : CallR X (.builtin id) r) (hg : Gl X x) (hm : X.mg x = none) (hv : bootBuiltins x = some (.builtin id)) (ha : PA X (e :: es) t) (hn' : isStar e = false := by rfl) (hall : es.all (fun e => !isStar e) = true := by rfl) (hn : x ≠ "__name__" := by decide) (hdb : (x == ("__debug__" : Str)) = false := by decide) :
    PE X (.Call (.Name x p) (e :: es) [] pos) (tCB r t) := pe_callB hc hg hm hv ha hn hdb (star_cons hn') (star_any hall)
theorem pe_callTyF {T : String} {r : List V → Hp → VK → Prop} (hc : CallR X (.type T) r) (hg : Gl X x) (hm : X.mg x = none) (hv : bootBuiltins x = some (.type T)) (ha : PA X (e :: es) t) (hn' : isStar e = false := by rfl) (hall : es.all (fun e => !isStar e) = true := by rfl) (hn : x ≠ "__name__" := by decide) (hdb : (x == ("__debug__" : Str)) = false := by decide) :
    PE X (.Call (.Name x p) (e :: es) [] pos) (tCB r t) := pe_callTy hc hg hm hv ha hn hdb (star_cons hn') (star_any hall)
theorem pe_bmF (K : PySem.W.Frag) (hK : X.K = K) {T id : String} {name : Str} {r : V → List V → Hp → VK → Prop} {to : TE} {apos cpos : Pos} (pa : PlainAttrs T) (slot : Slot T name id) (hty : typeOf (.builtin id) = pure (.type "method_descriptor")) (hm : MtR X id r) (ho : PE X o to) (ha : PA X (e :: es) t)
    (hbase : attributeBase o name X.env (eval o X.env) = eval o X.env := by rfl) (hn : isStar e = false := by rfl) (hall : es.all (fun e => !isStar e) = true := by rfl) (hl : (e :: es).length < 30 := by decide) (hline : (apos.endLine == cpos.line) = true := by rfl) :
    PE X (.Call (.Attribute o name apos) (e :: es) [] cpos) (tBM K T r to t) :=
  pe_bmK K hK pa slot hty hm ho ha hbase (star_few (by rw [List.all_cons, hn, hall]; rfl) hl) hline (star_cons hn) (star_any hall)
theorem pi_range1F {tg a : Expr} {ta : TA} (hg : Gl X "range") (hm : X.mg "range" = none) (ha : PA X [a] ta) (hn : isStar a = false := by rfl) : PI X tg (.Call (.Name "range" p) [a] [] pos) (iRng1 ta) := pi_range1 hg hm ha (star_cons hn)
theorem pi_enumF (K : PySem.W.Frag) (hK : X.K = K) {tgs : List Expr} {kk : Nat} {tpos : Pos} {a : Expr} {ta : TA} (hg : Gl X "enumerate") (hm : X.mg "enumerate" = none) (ha : PA X [a] ta) (hn : isStar a = false := by rfl) :
    PI X (.Tuple tgs kk tpos) (.Call (.Name "enumerate" p) [a] [] pos) (iEnum K ta) := pi_enumK K hK hg hm ha (star_cons hn)
end
section
variable {X : Cx} {CX : CXT} {k : Nat} {f C : Addr} {fd : FuncData} {ps : List Str} {sp : Sp} {dvs : List V} {ds : List Value} {E : XK} {x : Str} {p pos : Pos} {e : Expr} {es : List Expr} {t : TA}
theorem pe_makeF (M : Mk X.K C f) (F : FnOk X.prog X.w X.K X.mg X.base CX k f fd ps sp) (hr : Room (k + 1) X.A) (hg : Gl X x) (hm : X.mg x = some (.ref C)) (hb : Binds X.K fd ps ds) (hd : Vals dvs ds) (hx : Passes CX X E)
    (ha : PA X (e :: es) t) (hn : isStar e = false := by rfl) (hall : es.all (fun e => !isStar e) = true := by rfl) (hdb : (x == ("__debug__" : Str)) = false := by decide) : PE X (.Call (.Name x p) (e :: es) [] pos) (tMake C sp dvs E t) :=
  pe_make M F hr hg hm hb hd hx ha hdb (star_cons hn) (star_any hall)
end
end L2

namespace L2
open PySem PySem.Spec PyProof.Rows
section
variable {σ : St} {H H' : Hp} {Q : VK} {K : PySem.W.Frag} {a b : Nat}
theorem r_CN {n : Nat} (h : Q (.int ((@OfNat.ofNat Nat n (instOfNatNat n) : Nat) : Int)) H) : tC (.int (@OfNat.ofNat Int n instOfNat)) σ H Q := h
theorem r_addN (q : Q (.int ((a + b : Nat) : Int)) H) : rI0 (fun i j => .int (i + j)) (.int (a : Int)) (.int (b : Int)) H Q := ⟨a, b, rfl, rfl, by
  have e : (a : Int) + (b : Int) = ((a + b : Nat) : Int) := by omega
  dsimp only; rw [e]; exact q⟩
theorem r_mulN (h : a < 18446744073709551616 ∨ b < 18446744073709551616) (q : Q (.int ((a * b : Nat) : Int)) H) : rI CMul (fun i j => .int (i * j)) (.int (a : Int)) (.int (b : Int)) H Q := ⟨a, b, rfl, rfl, by
  rcases h with h | h
  · exact .inl ⟨by omega, by omega⟩
  · exact .inr ⟨by omega, by omega⟩, by
  have e : (a : Int) * (b : Int) = ((a * b : Nat) : Int) := by push_cast; rfl
  dsimp only; rw [e]; exact q⟩
theorem r_modN (h : 0 < b) (q : Q (.int ((a % b : Nat) : Int)) H) : rI (fun _ j => 0 < j) (fun i j => .int (i % j)) (.int (a : Int)) (.int (b : Int)) H Q := ⟨a, b, rfl, rfl, by omega, by
  have e : (a : Int) % (b : Int) = ((a % b : Nat) : Int) := by push_cast; rfl
  dsimp only; rw [e]; exact q⟩
theorem r_divN (h : 0 < b) (h2 : b < 1073741824) (q : Q (.int ((a / b : Nat) : Int)) H) : rI CDiv (fun i j => .int (i / j)) (.int (a : Int)) (.int (b : Int)) H Q := ⟨a, b, rfl, rfl, ⟨by omega, by omega⟩, by
  have e : (a : Int) / (b : Int) = ((a / b : Nat) : Int) := by push_cast; rfl
  dsimp only; rw [e]; exact q⟩
theorem dec_cast {p q : Prop} [Decidable p] [Decidable q] (h : p ↔ q) {R : Bool → Prop} (z : R (decide q)) : R (decide p) := by
  rw [decide_eq_decide.mpr h]; exact z
theorem r_eqN (q : Q (.bl (decide (a = b))) H) : rEq (.int (a : Int)) (.int (b : Int)) H Q := r_eqI (dec_cast (R := fun k => Q (.bl k) H) (by omega) q)
theorem r_neN (q : Q (.bl (!decide (a = b))) H) : rNe (.int (a : Int)) (.int (b : Int)) H Q := r_neI (dec_cast (R := fun k => Q (.bl (!k)) H) (by omega) q)
theorem r_ltN (q : Q (.bl (decide (a < b))) H) : rI0 (fun i j => .bl (decide (i < j))) (.int (a : Int)) (.int (b : Int)) H Q := ⟨a, b, rfl, rfl, dec_cast (R := fun k => Q (.bl k) H) (by omega) q⟩
theorem r_gtN (q : Q (.bl (decide (b < a))) H) : rI0 (fun i j => .bl (decide (j < i))) (.int (a : Int)) (.int (b : Int)) H Q := ⟨a, b, rfl, rfl, dec_cast (R := fun k => Q (.bl k) H) (by omega) q⟩
end
section
variable {β : Type} [Rep β] {K : PySem.W.Frag} {H H' : Hp} {d : Addr} {l : List β} {y : V} {b : β} {Q : VK}
end
/-- written data that stands alone in its list -/
theorem mk_lstG {K : PySem.W.Frag} {α : Type} [Rep α] {tA : TA} {l : List α} (h : WrA K tA l) (hz : l.length ≤ 1000) {σ : St} {H : Hp} {Q : VK} (q : ∀ d H', H d = none → Same H H' → Gr K H' d l → Q (.ref d) H') : tLst tA σ H Q :=
  h σ H _ fun vs H1 s1 a1 => ⟨by have := a1.length; exact small (by omega), fun p hp => q p _ (s1.free hp) (s1.trans (same_new hp _)) ⟨vs, upd_same, Paired.mapP a1 fun _ _ z => Rep.mono (fun b o e => by
    have hb : b ≠ p := ne_of_none e hp
    rw [del_ne hb, upd_ne hb]; exact e) z⟩⟩
section
variable {H H' H'' : Hp} {a d : Addr} {rows : List (List Nat)} {ps : List Addr} {K : PySem.W.Frag}
end
/-- a loop over a list of data; H₀: what stays all the while -/
theorem rd_listF {K : PySem.W.Frag} {H H₀ : Hp} {σ : St} {g : TG} {t : TS} {D : Ends} {v : V} {α : Type} [Rep α] {l : List α} (h : At K H₀ v l) (Pv : Nat → St → Hp → Prop) (h0 : Pv 0 σ H) (hl : ∀ i σ' H', Pv i σ' H' → Same H₀ H')
    (hs : ∀ i c w σ' H', l[i]? = some c → At K H₀ w c → Pv i σ' H' → g w σ' H' fun σ2 H2 => t { D with nx := Pv (i + 1), ct := Pv (i + 1), bk := D.nx } σ2 H2) (hd : ∀ σ' H', Pv l.length σ' H' → D.nx σ' H') :
    srcL K v H (loopK g t D σ) := by
  obtain ⟨p, xs, rfl, hS, hP⟩ := h
  refine ⟨p, rfl, ⟨xs, (hl 0 σ H h0).seq hS⟩, for_list (K := K) (a := p) (xs := xs) Pv h0 (fun i σ' H' _ q => (hl i σ' H' q).seq hS) (fun i x σ' H' hx q => ?_) (fun σ' H' q => ?_)⟩
  · obtain ⟨c, hc, r⟩ := Paired.getL hP hx
    exact hs i c x σ' H' hc r q
  · rw [hP.length] at q; exact hd σ' H' q
/-- a while, by an invariant with a measure -/
theorem rd_while {c : TT} {t : TS} {D : Ends} {σ : St} {H : Hp} (W : Nat → St → Hp → Prop) (m : Nat) (h0 : W m σ H)
    (hs : ∀ m σ' H', W m σ' H' → c σ' H' fun b H1 => if b = true then ∃ N : St → Hp → Prop, (∀ σ2 H2, N σ2 H2 → ∃ m', m' < m ∧ W m' σ2 H2) ∧ t { D with nx := N, ct := N, bk := D.nx } σ' H1 else D.nx σ' H1) : tWhile c t D σ H := ⟨W, ⟨m, h0⟩, hs⟩
end L2

namespace L2
open PySem PySem.Spec PyProof.Rows
def rAll (K : PySem.W.Frag) : List V → Hp → VK → Prop := fun xs H Q => ∃ (p : Addr) (bs : List Bool), xs = [.ref p] ∧ SqL K H p (bs.map V.bl) ∧ Q (.bl (bs.all id)) H
theorem bools_get : ∀ {bs : List Bool} {its : List Value}, Vals (bs.map V.bl) its → ∀ (i : Nat) (v : Value), its[i]? = some v → ∃ b, bs[i]? = some b ∧ v = .bool b
  | [], _, .nil, i, v, e => by simp at e
  | b :: bs, _, .cons r t, 0, v, e => by
    simp at e; subst e
    exact ⟨b, rfl, r⟩
  | b :: bs, _, .cons r t, i + 1, v, e => by
    obtain ⟨c, h1, h2⟩ := bools_get (bs := bs) t i v (by simpa using e)
    exact ⟨c, by simpa using h1, h2⟩
theorem range_allB (bs : List Bool) : ((List.range bs.length).all fun i => (bs[i]?).getD true) = bs.all id := by
  rw [Bool.eq_iff_iff, List.all_eq_true, List.all_eq_true]
  constructor
  · intro h b hb
    obtain ⟨i, hi, rfl⟩ := List.getElem_of_mem hb
    have := h i (List.mem_range.mpr hi)
    simp only [List.getElem?_eq_getElem hi, Option.getD_some] at this
    exact this
  · intro h i hi
    have hi' := List.mem_range.mp hi
    simp only [List.getElem?_eq_getElem hi', Option.getD_some]
    exact h _ (List.getElem_mem hi')
theorem call_allB {X : Cx} (hc : X.calm = true) : CallR X (.builtin "all") (rAll X.K) := by
  intro pins s σ H xs us Q I r h
  obtain ⟨p, bs, rfl, hS, q⟩ := h
  obtain ⟨u, rfl, ru⟩ := vals1 r
  cases (show u = Value.ref p from ru)
  obtain ⟨its, rv, pl, hz⟩ := I.list hS
  have hl := pl.isList
  have hlen : its.length = bs.length := by have := rv.length; simp at this; omega
  have hlt : p < s.heap.objs.size := by obtain ⟨_, e, _⟩ := hl; exact Heap.lt_size e
  refine call_all_walk (wpAny_pyIter_list hl ?_)
  refine ⟨s.heap.objs.size, [s.heap.objs.size, p], [s.heap.objs.size], its.toArray.size, _, _, fun i => (bs[i]?).getD true, rfl, Walks.list (A := X.A.in1) (I.ok.hd hc) _ p (Nat.ne_of_lt hlt) its.toArray,
    ⟨⟨_, Heap.get?_push_size _ rfl, rfl, rfl⟩, hl.push _⟩, fun i v s' Q' E' hP hQ => ?_, fun h' tk hk => ?_⟩
  · obtain ⟨b, e, rfl⟩ := bools_get rv i v (by simpa using hP)
    simp only [e, Option.getD_some] at hQ
    exact wpAny_truthy_bool hQ
  · have e : ((List.range its.toArray.size).all fun i => (bs[i]?).getD true) = bs.all id := by
      rw [List.size_toArray, hlen]; exact range_allB bs
    rw [e]
    exact ⟨.bl _, H, I.kept (t' := tk) (fun b x e => hk b x (fun hm => by rw [List.mem_singleton.mp hm] at e; exact Nat.lt_irrefl _ (Heap.lt_size e)) (Heap.get?_push_of_some _ e)), rfl, q⟩
theorem call_allK {X : Cx} (K : PySem.W.Frag) (hK : X.K = K) (hc : X.calm = true) : CallR X (.builtin "all") (rAll K) := by subst hK; exact call_allB hc
section
variable {σ : St} {H H' : Hp} {Q : VK} {K : PySem.W.Frag} {v : V}
theorem bools_at {bs : List Bool} (h : At K H v bs) : ∃ p, v = .ref p ∧ SqL K H p (bs.map V.bl) := by
  obtain ⟨p, xs, rfl, hS, hP⟩ := h
  refine ⟨p, rfl, ?_⟩
  have e : xs = bs.map V.bl := by
    clear hS
    induction hP with
    | nil => rfl
    | cons r _ ih => rw [List.map_cons, ← ih]; exact congrArg (· :: _) r
  rw [← e]; exact hS
theorem r_allL {bs : List Bool} (h : At K H v bs) (q : Q (.bl (bs.all id)) H) : rAll K [v] H Q := by
  obtain ⟨p, rfl, hS⟩ := bools_at h
  exact ⟨p, bs, rfl, hS, q⟩
theorem r_rU {f : Int → V} {a : Int} (h : Q (f a) H) : rU f (.int a) H Q := ⟨a, rfl, h⟩
end
end L2
namespace L2
open PySem PySem.Spec PyProof.Rows
end L2
namespace L2
open PySem PySem.Spec PyProof.Rows
end L2

namespace L2
open PySem PySem.Spec PyProof.Rows
def intE : Expr → Option Int
  | .Constant (.int i) _ _ => some i
  | _ => none
def intsE : List Expr → Option (List Int)
  | [] => some []
  | e :: es => match intE e, intsE es with
    | some i, some l => some (i :: l)
    | _, _ => none
def tInts : List Int → TA
  | [] => tNil
  | i :: l => tCons (tC (.int i)) (tInts l)
theorem pa_ints0 {X : Cx} : ∀ {es : List Expr} (ns : List Int), intsE es = some ns → PA X es (tInts ns)
  | [], ns, h => by cases h; exact pa_nil
  | e :: es, ns, h => by
    unfold intsE at h
    split at h
    · rename_i i l h1 h2
      cases h
      cases e with
      | Constant c j pos =>
        cases c with
        | int k =>
          have hk : k = i := by simpa [intE] using h1
          subst hk
          exact pa_cons pe_int (pa_ints0 l h2) (star_cons rfl)
        | _ => simp [intE] at h1
      | _ => simp [intE] at h1
    · cases h
@[irreducible] def isInts (es : List Expr) (ns : List Int) : Bool := decide (intsE es = some ns)
theorem pa_ints {X : Cx} {es : List Expr} (ns : List Int) (h : isInts es ns = true) : PA X es (tInts ns) := pa_ints0 ns (by unfold isInts at h; exact of_decide_eq_true h)
/-- so that the elaborator does not run what it should only compare -/
structure IsP (p : Prop) : Prop where
  out : p
theorem pa_intsP {X : Cx} {es : List Expr} (ns : List Int) (h : isInts es ns = true) : IsP (PA X es (tInts ns)) := ⟨pa_ints ns h⟩
section
variable {K : PySem.W.Frag}
end
theorem r_bm0 {σ : St} {H : Hp} {Q : VK} {K : PySem.W.Frag} {ta : TE} {T : String} {r : V → List V → Hp → VK → Prop} (h : ta σ H fun x H1 => tyV K T x H1 ∧ r x [] H1 Q) : tBM0 K T r ta σ H Q := h
end L2

namespace L2
open PySem PySem.Spec PyProof.Rows
section
variable {σ : St} {H H' : Hp} {Q : VK} {K : PySem.W.Frag} {v : V}
end
end L2

namespace L2
open PySem PySem.Spec PyProof.Rows
section
variable {X : Cx} {pins : List (Addr × Obj)} {σ : St} {H : Hp} {s : Shared} {A : Around} {α β : Type} [Rep α] [DecidableEq α] [RepEq α] [Rep β] [DecidableEq β] [RepEq β]
theorem pair_rc {p q : Addr} {x1 x2 y1 y2 : V} {a c : α} {b d : β} (I : Inv X pins σ H s) (hp : SqT X.K H p [x1, x2]) (h1 : At X.K H x1 a) (h2 : At X.K H x2 b) (hq : SqT X.K H q [y1, y2]) (h3 : At X.K H y1 c) (h4 : At X.K H y2 d)
    (hu : A.units + (max (RepEq.depth α) (RepEq.depth β) + 1) < cLine) : SeqAt.RcAt A s (.ref p) (.ref q) (decide ((a, b) = (c, d))) := by
  obtain ⟨its, v1, t1, _⟩ := I.tuple hp
  obtain ⟨its2, v2, t2, _⟩ := I.tuple hq
  obtain ⟨u1, u2, rfl, r1, r2⟩ := v1.two
  obtain ⟨w1, w2, rfl, r3, r4⟩ := v2.two
  have e1 := RepEq.eq (A := A.in1) I h1 h3 r1 r3 (by show A.units + 1 + _ < _; omega)
  have e2 := RepEq.eq (A := A.in1) I h2 h4 r2 r4 (by show A.units + 1 + _ < _; omega)
  have z := SeqAt.RcAt.tuples (A := A) (e := fun j => if j = 0 then decide (a = c) else decide (b = d)) t1 t2 (by omega) fun j hj1 hj2 => by
    have hj : j < 2 := by simpa using hj1
    match j, hj with
    | 0, _ => exact e1
    | 1, _ => exact e2
  have ek : ((List.range (min (#[u1, u2] : Array Value).size (#[w1, w2] : Array Value).size)).all (fun j => if j = 0 then decide (a = c) else decide (b = d)) && (#[u1, u2] : Array Value).size == (#[w1, w2] : Array Value).size) = decide ((a, b) = (c, d)) := by
    have : (List.range (min (#[u1, u2] : Array Value).size (#[w1, w2] : Array Value).size)) = [0, 1] := rfl
    rw [this, Bool.eq_iff_iff]
    simp
  rw [← ek]
  exact z
instance : RepEq (α × β) where
  depth := max (RepEq.depth α) (RepEq.depth β) + 1
  inj := fun {X pins σ H s x a b} I h h' => by
    obtain ⟨p, x1, x2, e, h1, h2, h3⟩ := h
    obtain ⟨q, y1, y2, e', h4, h5, h6⟩ := h'
    subst e
    cases e'
    have z := I.tuple_inj h1 h4
    cases z
    exact Prod.ext (RepEq.inj I h2 h5) (RepEq.inj I h3 h6)
  eq := fun {X pins σ H s A x y u v a b} I hx hy ru rv hu => by
    obtain ⟨p, x1, x2, e, h1, h2, h3⟩ := hx
    obtain ⟨q, y1, y2, e', h4, h5, h6⟩ := hy
    subst e e'
    cases (show u = Value.ref p from ru)
    cases (show v = Value.ref q from rv)
    by_cases hpq : p = q
    · subst hpq
      have z := I.tuple_inj h1 h4
      cases z
      have e1 : a = b := Prod.ext (RepEq.inj I h2 h5) (RepEq.inj I h3 h6)
      rw [decide_eq_true e1]
      exact SeqAt.EqAt.same _
    · exact SeqAt.EqAt.of_refs hpq (pair_rc I h1 h2 h3 h4 h5 h6 hu)
end
section
variable {σ : St} {H : Hp} {Q : VK} {K : PySem.W.Frag}
theorem r_ixP {p : Addr} {xs : List V} {i : Nat} {x : V} (h : H p = some (.tup xs)) (hx : xs[i]? = some x) (q : Q x H) : rIxT K (.ref p) (.int (i : Int)) H Q := ⟨p, xs, _, x, rfl, rfl, SqT.of h, atI_nat hx, q⟩
end
end L2
namespace L2
open PySem PySem.Spec PyProof.Rows
end L2

namespace L2
open PySem PySem.Spec PyProof.Rows
end L2

namespace L2
open PySem PySem.Spec PyProof.Rows
section
variable {X : Cx} {pins : List (Addr × Obj)} {σ : St} {H : Hp} {s : Shared} {h' : Heap} {t' : Nat} {fp : List Addr}
end
end L2

namespace L2
open PySem PySem.Spec PyProof.Rows
section
variable {prog : Program} {w : World} {A : Around} {E : Value → Shared → Prop}
variable {s : Shared}
end
section
variable {X : Cx} {pos : Pos}
end
end L2

namespace L2
open PySem PySem.Spec PyProof.Rows
end L2

namespace L2
open PySem PySem.Spec PyProof.Rows
structure FunD (K : PySem.W.Frag) (x qual : Str) (st : Stmt) (f : Addr) (fd : FuncData) : Prop where
  ex : ∃ (oc : Value) (od : Option Addr) (D : Addr) (kV doc pm : Value) (an : Option Addr) (cdv ct : Value) (osl : Array (Option Value)) (dc : Value) (dd : Option Addr) (n : Nat) (dsl : Array (Option Value)),
    fd = PySem.W.fnOf x qual (defArgs st) (defBody st) (defScope st) (.ref D) kV doc pm an cdv ct ∧ K.lookup f = some ⟨oc, od, .func fd, osl⟩ ∧ PySem.W.codeIn K cdv qual = true ∧ K.lookup D = some ⟨dc, dd, .seq #[.none] n, dsl⟩
  kp : PySem.W.keepIn K (.ref f) = true
section
variable {P : Program} {w : World} {K : PySem.W.Frag} {mg : Str → Option Value} {base : Heap} {x qual : Str} {st : Stmt} {f : Addr} {fd : FuncData} {ps : List Str}
/-- arguments us and keywords kw bind to bs -/
theorem FunD.to {s : Shared} {args : Args} {bs : List (Str × Value)} (F : FunD K x qual st f fd) (KI : K.In s.heap)
    (h : ∀ (D : Addr) (kV doc pm : Value) (an : Option Addr) (cdv ct : Value), ∃ k : Option (Array Value) → Sem (List (Str × Value)), bindArgs (PySem.W.fnOf x qual (defArgs st) (defBody st) (defScope st) (.ref D) kV doc pm an cdv ct) args = seqItems? (.ref D) >>= k ∧ k (some #[.none]) = pure bs) : BindsTo s fd args bs := by
  obtain ⟨oc, od, D, kV, doc, pm, an, cdv, ct, osl, dc, dd, n, dsl, rfl, lk, hcd, dl⟩ := F.ex
  obtain ⟨k, h1, h2⟩ := h D kV doc pm an cdv ct
  exact BindsTo.of_defaults (fd := PySem.W.fnOf x qual (defArgs st) (defBody st) (defScope st) (.ref D) kV doc pm an cdv ct) (T := D) rfl (KI _ _ dl) rfl h1 h2
end
section
variable {X : Cx} {x y : Str} {st : Stmt} {ps : List Str} {k j : Nat} {sp : Sp} {p pos kpos : Pos} {e a : Expr} {es : List Expr} {t : TA} {te : TE}
end
end L2

set_option Elab.async false
set_option linter.all false
set_option maxRecDepth 100000
namespace L2
open PySem PySem.Spec PyProof.Rows

end L2

namespace L2
open PySem PySem.Spec PyProof.Rows

section
variable (P : Program) (w : World)
end

section
variable {P : Program} {w : World} {H H' : Hp} {h h' : Heap} {a : Addr} {o : HO}
end

section
variable {P : Program} {w : World} {H : Hp} {h h' : Heap} {x e : Addr} {o' : HO}
end

section
variable {fs fs' ex ex' : List Addr} {H H1 H2 : Hp} {h h1 h2 h' : Heap} {a x e : Addr} {o : HO}
end

end L2

namespace L2
open PySem PySem.Spec PyProof.Rows

section
variable {X : Cx} {pins : List (Addr × Obj)} {σ : List (Option V)} {H H' : Hp} {s : Shared} {h' : Heap}

end

end L2

namespace L2
open PySem PySem.Spec PyProof.Rows
section
variable {X : Cx}

variable {a b : Expr} {ta tb : TE} {pos : Pos}
variable {tA tB' : TT} {rest : List Expr}
end
end L2

namespace L2
open PySem PySem.Spec PyProof.Rows

section
variable {X : Cx} {pins : List (Addr × Obj)} {σ : St} {H : Hp} {s : Shared} {a : Addr} {xs ys : List V}
end

section
variable {X : Cx} {pins : List (Addr × Obj)} {σ : St} {H : Hp} {s : Shared} {E : Value → Shared → Prop}
end

section
variable {X : Cx} {st : Stmt} {rest : List Stmt} {t u : TS} {e : Expr} {te : TE} {pos : Pos}
end

section
variable {X : Cx} {pos : Pos}
end

section
variable {X : Cx} {pos : Pos}
end

end L2

namespace L2
open PySem PySem.Spec PyProof.Rows
section
variable {X : Cx} {tg : Expr}
end

end L2

namespace L2
open PySem PySem.Spec PyProof.Rows

section
variable {X : Cx} {a b c : Expr} {ta tb tc : TE} {pos : Pos}

end

section
variable {X : Cx} {a b c : Expr} {ta tb tc : TE} {pos : Pos}
end
end L2

namespace L2
open PySem PySem.Spec PyProof.Rows

section
variable {prog : Program} {w : World} {A : Around} {E : Value → Shared → Prop} {s : Shared} {K : PySem.W.Frag} {x dx C f : Addr} {mA : Str → Option Value} {name : Str} {v : Value}

end

section
variable {P : Program} {w : World} {H H' : Hp} {h h' : Heap} {a C dx : Addr} {fs fs' : List (Str × V)}
end

section
variable {X : Cx} {pins : List (Addr × Obj)} {σ : St} {H : Hp} {s : Shared} {a C dx : Addr} {fs : List (Str × V)} {f : Str} {v : V} {A : Around} {E : Value → Shared → Prop}

end

section
variable {X : Cx} {o e value : Expr} {f : Str} {pos pos' tpos : Pos} {ta tv : TE}
end

section
variable {X : Cx} {pins : List (Addr × Obj)} {σ : St} {H : Hp} {s : Shared} {A : Around} {E : Value → Shared → Prop} {Q : Value → Shared → Prop} {c : Value} {b : Bool}
end
end L2

namespace L2
open PySem PySem.Spec PyProof.Rows

section
variable {X : Cx} {e : Expr} {es : List Expr} {te : TE} {t : TA} {pos : Pos}
end

section
variable {X : Cx} {pins : List (Addr × Obj)} {σ : St} {H : Hp} {s s' : Shared}
end

section
variable {X : Cx} {CX : CXT} {k : Nat} {f C : Addr} {fd : FuncData} {ps : List Str} {sp : Sp} {dvs : List V} {ds : List Value} {E : XK} {x m : Str} {p pos apos : Pos} {e o : Expr} {es : List Expr} {ta : TE} {t : TA}

end

section
variable {X : Cx} {CX : CXT} {k : Nat} {f C : Addr} {fd : FuncData} {ps ks : List Str} {sp : Sp} {E : XK} {x m : Str} {p pos apos kpos : Pos} {e o : Expr} {es : List Expr} {kws : List Keyword} {te ta : TE} {t tk : TA} {nm : Option Str}
variable {g : List Value → List Value → List Value} {gV : List V → List V → List V}
end

end L2

namespace L2
open PySem PySem.Spec PyProof.Rows
section
variable {X : Cx} {x : Str} {p pos : Pos} {e : Expr} {es : List Expr} {t : TA} {id T : String} {r : List V → Hp → VK → Prop}

end
end L2

namespace L2
open PySem PySem.Spec PyProof.Rows

section
variable {κ : Type} [DecidableEq κ]
def valV (kvs : List (κ × V)) (k : κ) : Option V := (kvs.find? fun kv => decide (kv.1 = k)).map (·.2)
/-- in its place, or at the end -/
def putK (kvs : List (κ × V)) (k : κ) (v : V) : List (κ × V) :=
  if (kvs.any fun kv => decide (kv.1 = k)) = true then kvs.map (fun kv => if kv.1 = k then (kv.1, v) else kv) else kvs ++ [(k, v)]
theorem valV_pos {p : κ × V} {r : List (κ × V)} {k : κ} (e : p.1 = k) : valV (p :: r) k = some p.2 := by simp [valV, List.find?_cons, e]
theorem valV_neg {p : κ × V} {r : List (κ × V)} {k : κ} (e : ¬ p.1 = k) : valV (p :: r) k = valV r k := by simp [valV, List.find?_cons, e]
theorem valV_any (k : κ) : ∀ kvs : List (κ × V), (kvs.any fun kv => decide (kv.1 = k)) = (valV kvs k).isSome
  | [] => rfl
  | p :: r => by
    rw [List.any_cons]
    by_cases e : p.1 = k
    · simp only [valV_pos e, decide_eq_true e, Bool.true_or, Option.isSome_some]
    · rw [valV_neg e, decide_eq_false e, Bool.false_or]; exact valV_any k r
theorem length_putK (kvs : List (κ × V)) (k : κ) (v : V) : (putK kvs k v).length ≤ kvs.length + 1 := by
  unfold putK
  split
  · rw [List.length_map]; omega
  · rw [List.length_append, List.length_cons, List.length_nil]; omega
theorem putK_new {kvs : List (κ × V)} {k : κ} (v : V) (h : valV kvs k = none) : putK kvs k v = kvs ++ [(k, v)] := by
  unfold putK
  rw [valV_any, h]
  exact if_neg (by decide)

theorem RelO.isSome_eq {o : Option V} {u : Option Value} (r : RelO o u) : o.isSome = u.isSome := by
  cases o with
  | none => cases u with
    | none => rfl
    | some _ => exact (show False from r).elim
  | some _ => cases u with
    | none => exact (show False from r).elim
    | some _ => rfl
theorem RelO.getD {o : Option V} {u : Option Value} {d : V} {d' : Value} (r : RelO o u) (rd : RelV d d') : RelV (o.getD d) (u.getD d') := by
  cases o with
  | none => cases u with
    | none => exact rd
    | some _ => exact (show False from r).elim
  | some _ => cases u with
    | none => exact (show False from r).elim
    | some _ => exact r

/-- raw tables of the same keys -/
theorem KV.val {kvs : List (κ × V)} {vs : List (κ × Value)} (r : KV kvs vs) (k : κ) : RelO (valV kvs k) (valueAt vs k) := by
  unfold KV at r
  induction r with
  | nil => exact True.intro
  | @cons p q ps qs h t ih =>
    obtain ⟨h1, h2⟩ := h
    by_cases e : p.1 = k
    · have e' : q.1 = k := h1.symm.trans e
      have b : valueAt (q :: qs) k = some q.2 := by simp [valueAt, List.find?_cons, e']
      rw [valV_pos e, b]; exact h2
    · have e' : ¬ q.1 = k := fun z => e (h1.trans z)
      have b : valueAt (q :: qs) k = valueAt qs k := by simp [valueAt, List.find?_cons, e']
      rw [valV_neg e, b]; exact ih
theorem KV.any {kvs : List (κ × V)} {vs : List (κ × Value)} (r : KV kvs vs) (k : κ) : (kvs.any fun kv => decide (kv.1 = k)) = vs.any fun kv => decide (kv.1 = k) := by
  unfold KV at r
  induction r with
  | nil => rfl
  | cons h t ih => rw [List.any_cons, List.any_cons, ih, h.1]
theorem KV.repl {kvs : List (κ × V)} {vs : List (κ × Value)} (r : KV kvs vs) (k : κ) {y : V} {u : Value} (ry : RelV y u) :
    KV (kvs.map fun kv => if kv.1 = k then (kv.1, y) else kv) (vs.map fun kv => if kv.1 = k then (kv.1, u) else kv) := by
  unfold KV at r ⊢
  induction r with
  | nil => exact .nil
  | @cons p q ps qs h t ih =>
    rw [List.map_cons, List.map_cons]
    refine .cons ?_ ih
    obtain ⟨h1, h2⟩ := h
    by_cases e : p.1 = k
    · rw [if_pos e, if_pos (h1.symm.trans e)]; exact ⟨h1, ry⟩
    · rw [if_neg e, if_neg (fun z => e (h1.trans z))]; exact ⟨h1, h2⟩
theorem KV.put {kvs : List (κ × V)} {vs : List (κ × Value)} (r : KV kvs vs) (k : κ) {y : V} {u : Value} (ry : RelV y u) : KV (putK kvs k y) (stored vs k u) := by
  unfold putK stored
  rw [r.any k]
  by_cases e : (vs.any fun kv => decide (kv.1 = k)) = true
  · rw [if_pos e, if_pos e]; exact r.repl k ry
  · rw [if_neg e, if_neg e]; exact Paired.snoc r ⟨rfl, ry⟩
theorem KV.length {kvs : List (κ × V)} {vs : List (κ × Value)} (r : KV kvs vs) : kvs.length = vs.length := Paired.length r
end


theorem kV_is {P : Program} {w : World} {k : Key} {u : Value} (r : RelV (kV k) u) : (mixKind P w).is k u = true := by
  cases k with
  | inl i => obtain ⟨t, e⟩ := (show ∃ t, u = Value.int i t from r); subst e; exact mixKind_int P w i t
  | inr x => obtain ⟨t, e⟩ := (show ∃ t, u = Value.str x t from r); subst e; exact mixKind_str P w x t
theorem items_are {P : Program} {w : World} : ∀ {ks : List Key} {us : List Value}, Vals (ks.map kV) us → ItemsAre (mixKind P w) ks us
  | [], _, r => by rw [List.map_nil] at r; cases r; exact .nil
  | k :: ks, _, r => by
    rw [List.map_cons] at r
    cases r with
    | cons h t => exact .cons (kV_is h) (items_are t)

/-- raw entries of a dict with tuple keys -/
abbrev KT (H : Hp) : List (List Key × V) → List (List Key × Addr × Value) → Prop := Paired fun p q => p.1 = q.1 ∧ H q.2.1 = some (.tup (p.1.map kV)) ∧ RelV p.2 q.2.2
theorem KT.val {H : Hp} {kvs : List (List Key × V)} {xs : List (List Key × Addr × Value)} (r : KT H kvs xs) (k : List Key) : RelO (valV kvs k) ((atKey xs k).map (·.2)) := by
  induction r with
  | nil => exact True.intro
  | @cons p q ps qs h t ih =>
    obtain ⟨h1, _, h2⟩ := h
    by_cases e : p.1 = k
    · have e' : q.1 = k := h1.symm.trans e
      have b : atKey (q :: qs) k = some q.2 := by simp [atKey, List.find?_cons, e']
      rw [valV_pos e, b]; exact h2
    · have e' : ¬ q.1 = k := fun z => e (h1.trans z)
      have b : atKey (q :: qs) k = atKey qs k := by simp [atKey, List.find?_cons, e']
      rw [valV_neg e, b]; exact ih
theorem KT.repl {H : Hp} {kvs : List (List Key × V)} {xs : List (List Key × Addr × Value)} (r : KT H kvs xs) (k : List Key) {y : V} {u : Value} (ry : RelV y u) :
    KT H (kvs.map fun kv => if kv.1 = k then (kv.1, y) else kv) (xs.map (putAt k u)) := by
  induction r with
  | nil => exact .nil
  | @cons p q ps qs h t ih =>
    rw [List.map_cons, List.map_cons]
    refine .cons ?_ ih
    obtain ⟨h1, h2, h3⟩ := h
    unfold putAt
    by_cases e : p.1 = k
    · rw [if_pos e, if_pos (h1.symm.trans e)]; exact ⟨h1, h2, ry⟩
    · rw [if_neg e, if_neg (fun z => e (h1.trans z))]; exact ⟨h1, h2, h3⟩
theorem KT.put {H : Hp} {kvs : List (List Key × V)} {xs : List (List Key × Addr × Value)} (r : KT H kvs xs) (k : List Key) {b : Addr} {y : V} {u : Value} (hb : H b = some (.tup (k.map kV))) (ry : RelV y u) :
    KT H (putK kvs k y) (storedH xs k b u) := by
  have e : (kvs.any fun kv => decide (kv.1 = k)) = (atKey xs k).isSome := by
    rw [valV_any, (r.val k).isSome_eq, Option.isSome_map]
  unfold putK storedH
  rw [e]
  by_cases q : (atKey xs k).isSome = true
  · rw [if_pos q, if_pos q]; exact r.repl k ry
  · rw [if_neg q, if_neg q]; exact Paired.snoc r ⟨rfl, hb, ry⟩
theorem KT.keeps {H H' : Hp} {kvs : List (List Key × V)} {xs : List (List Key × Addr × Value)} (r : KT H kvs xs) (ht : ∀ b ys, H b = some (.tup ys) → H' b = some (.tup ys)) : KT H' kvs xs :=
  Paired.mapP r fun _ _ z => ⟨z.1, ht _ _ z.2.1, z.2.2⟩

section
variable {P : Program} {w : World} {H : Hp} {h : Heap} {a : Addr}
theorem rd_of {u : HO} (ok : HOk P w H h) (e : Rd H a u) : ObjOk P w H h a u := e.ok ok
theorem dk_rd {kvs : List (Key × V)} (ok : HOk P w H h) (e : Rd H a (.dK kvs)) : kvs.length ≤ sizeLine ∧ (a == sysModules) = false ∧ ∃ vs, KV kvs vs ∧ h.DictOf (mixKind P w) a vs :=
  show ObjOk P w H h a (.dK kvs) from rd_of ok e
theorem dk_of {kvs : List (Key × V)} (ok : HOk P w H h) (e : H a = some (.dK kvs)) : kvs.length ≤ sizeLine ∧ (a == sysModules) = false ∧ ∃ vs, KV kvs vs ∧ h.DictOf (mixKind P w) a vs := dk_rd ok (.inl e)
/-- a tracked tuple of ints and texts is a key -/
theorem key_of {ks : List Key} (ok : HOk P w H h) (e : H a = some (.tup (ks.map kV))) : (tupleKind (mixKind P w)).is h ks a := by
  obtain ⟨_, its, r, o, h1, h2, n, h3⟩ := (show ObjOk P w H h a (.tup (ks.map kV)) from ok a _ e)
  exact ⟨o, its.toArray, n, h1, h2, h3, by simpa using items_are r⟩
theorem dt_rd {kvs : List (List Key × V)} (ok : HOk P w H h) (e : Rd H a (.dT kvs)) : kvs.length ≤ sizeLine ∧ (a == sysModules) = false ∧
    ∃ xs, KT H kvs xs ∧ h.DictOfH (tupleKind (mixKind P w)) a xs := by
  obtain ⟨z, y, xs, r, o, es, ep, h1, h2, h3, h4, h5⟩ := (show ObjOk P w H h a (.dT kvs) from rd_of ok e)
  refine ⟨z, y, xs, r, o, es, ep, h1, h2, h3, h4, fun x hx => ?_, h5⟩
  have all : ∀ {l : List (List Key × V)} {m : List (List Key × Addr × Value)}, KT H l m → ∀ x ∈ m, (tupleKind (mixKind P w)).is h x.1 x.2.1 := by
    intro l m q
    induction q with
    | nil => intro x hx; exact nomatch hx
    | @cons p q ps qs hq t ih =>
      intro x hx
      rcases List.mem_cons.mp hx with e | hx
      · subst e
        exact key_of ok (by rw [← hq.1]; exact hq.2.1)
      · exact ih x hx
  exact all r x hx
theorem dt_of {kvs : List (List Key × V)} (ok : HOk P w H h) (e : H a = some (.dT kvs)) : kvs.length ≤ sizeLine ∧ (a == sysModules) = false ∧
    ∃ xs, KT H kvs xs ∧ h.DictOfH (tupleKind (mixKind P w)) a xs := dt_rd ok (.inl e)
end

/-- what the dict at a holds at the key y -/
def DGet (H : Hp) (a : Addr) (y : V) (r : Option V) : Prop :=
  (∃ kvs k, Rd H a (.dK kvs) ∧ y = kV k ∧ r = valV kvs k) ∨ ∃ kvs k b, Rd H a (.dT kvs) ∧ y = .ref b ∧ H b = some (.tup (k.map kV)) ∧ r = valV kvs k
/-- the heap behind a[y] = v -/
def DPut (H : Hp) (a : Addr) (y v : V) (H' : Hp) : Prop :=
  (∃ kvs k, H a = some (.dK kvs) ∧ y = kV k ∧ kvs.length < sizeLine ∧ H' = upd H a (.dK (putK kvs k v))) ∨
  ∃ kvs k b, H a = some (.dT kvs) ∧ y = .ref b ∧ H b = some (.tup (k.map kV)) ∧ kvs.length < sizeLine ∧ H' = upd H a (.dT (putK kvs k v))
theorem DGet.k {H : Hp} {a : Addr} {kvs : List (Key × V)} {k : Key} (e : H a = some (.dK kvs)) : DGet H a (kV k) (valV kvs k) := .inl ⟨kvs, k, .inl e, rfl, rfl⟩
theorem DGet.t {H : Hp} {a b : Addr} {kvs : List (List Key × V)} {k : List Key} (e : H a = some (.dT kvs)) (eb : H b = some (.tup (k.map kV))) : DGet H a (.ref b) (valV kvs k) := .inr ⟨kvs, k, b, .inl e, rfl, eb, rfl⟩
theorem DPut.k {H : Hp} {a : Addr} {kvs : List (Key × V)} {k : Key} {v : V} (e : H a = some (.dK kvs)) (hl : kvs.length < sizeLine) : DPut H a (kV k) v (upd H a (.dK (putK kvs k v))) := .inl ⟨kvs, k, e, rfl, hl, rfl⟩
theorem DPut.t {H : Hp} {a b : Addr} {kvs : List (List Key × V)} {k : List Key} {v : V} (e : H a = some (.dT kvs)) (eb : H b = some (.tup (k.map kV))) (hl : kvs.length < sizeLine) :
    DPut H a (.ref b) v (upd H a (.dT (putK kvs k v))) := .inr ⟨kvs, k, b, e, rfl, eb, hl, rfl⟩


section
variable {X : Cx} {pins : List (Addr × Obj)} {σ : St} {H : Hp} {s : Shared} {a : Addr} {y v : V} {u r : Value} {o : Option V} {A : Around} {E : Value → Shared → Prop}

theorem Inv.big (I : Inv X pins σ H s) : sysModules < s.heap.objs.size := by
  have h : mainGlobals < s.heap.objs.size := (I.mod.glob.keeps I.bk).lt
  exact Nat.lt_trans (by decide) h

/-- d[y], there -/
theorem d_getItem {Q : Value → Shared → Prop} (hu : A.units + 1 < cLine) (I : Inv X pins σ H s) (g : DGet H a y (some v)) (ry : RelV y u) (h : ∀ w' s', Inv X pins σ H s' → RelV v w' → Q w' s') :
    wpAny (model X.prog X.w) A (getItem (.ref a) u) Q E s := by
  rcases g with ⟨kvs, k, e, ey, l⟩ | ⟨kvs, k, b, e, ey, eb, l⟩
  · subst ey
    obtain ⟨z, hd, vs, rel, dd⟩ := dk_rd I.hok e
    obtain ⟨w', hw, rw'⟩ := RelO.some_of (v := v) (o := valueAt vs k) (by rw [l]; exact rel.val k)
    exact wpAny_getItem_of (kV_is ry) dd.mapOf hw (h w' _ (I.tok _) rw')
  · subst ey
    cases (show u = Value.ref b from ry)
    obtain ⟨z, hd, xs, rel, dd⟩ := dt_rd I.hok e
    obtain ⟨w', hw, rw'⟩ := RelO.some_of (v := v) (o := (atKey xs k).map (·.2)) (by rw [l]; exact rel.val k)
    obtain ⟨p, hp, hp2⟩ := Option.map_eq_some_iff.mp hw
    refine wpAny_getItem_heap (tupleKind_room_in1 hu) (key_of I.hok eb) dd hp ?_
    rw [hp2]
    exact h w' _ (I.tok _) rw'
/-- a dict's object is replaced -/
theorem d_write {h' : Heap} {t' : Nat} {ob : HO} (I : Inv X pins σ H s) (mu : Mut (H a)) (hs : Heap.SameBut a s.heap h') (he : ∃ q, h'.get? a = some q) (new : ObjOk X.prog X.w (upd H a ob) h' a ob) :
    Inv X pins σ (upd H a ob) { s with heap := h', toks := t' } :=
  I.write (x := a) (e := a) mu (.inl rfl) (fun b q hb z => (hs.2 b hb).trans z) he new
theorem dk_new {P : Program} {w : World} {H' : Hp} {h' : Heap} {kvs : List (Key × V)} {vs : List (Key × Value)} (z : kvs.length ≤ sizeLine) (hd : (a == sysModules) = false) (rel : KV kvs vs) (dd : h'.DictOf (mixKind P w) a vs) :
    ObjOk P w H' h' a (.dK kvs) := ⟨z, hd, vs, rel, dd⟩
/-- d[y] = v -/
theorem d_setItem {H' : Hp} {Q : Unit → Shared → Prop} (hu : A.units + 1 < cLine) (I : Inv X pins σ H s) (g : DPut H a y v H') (ry : RelV y u) (rv : RelV v r) (h : ∀ s', Inv X pins σ H' s' → Q () s') :
    wpAny (model X.prog X.w) A (setItem (.ref a) u r) Q E s := by
  rcases g with ⟨kvs, k, e, ey, l, eH⟩ | ⟨kvs, k, b, e, ey, eb, l, eH⟩
  · subst ey eH
    obtain ⟨z, hd, vs, rel, dd⟩ := dk_of I.hok e
    have hz : vs.length ≤ sizeLine := by rw [← rel.length]; exact z
    have hl : (putK kvs k v).length ≤ sizeLine := by have := length_putK kvs k v; omega
    refine wpAny_setItem_pairs (hsz := hz) (kV_is ry) dd fun h' dd' hs => h _ ?_
    have he : ∃ q, h'.get? a = some q := let ⟨q, _, _, hq, _⟩ := dd'; ⟨q, hq⟩
    exact d_write I (by rw [e]; exact True.intro) hs he (dk_new hl hd (rel.put k rv) dd')
  · subst ey eH
    cases (show u = Value.ref b from ry)
    obtain ⟨z, hd, xs, rel, dd⟩ := dt_of I.hok e
    have hz : xs.length ≤ sizeLine := by rw [← Paired.length rel]; exact z
    have hl : (putK kvs k v).length ≤ sizeLine := by have := length_putK kvs k v; omega
    refine wpAny_setItem_heap (hsz := hz) (tupleKind_room_in1 hu) (key_of I.hok eb) dd fun h' dd' hs => h _ ?_
    obtain ⟨q, es, ep, hq, h2, h3, h4, _, h5⟩ := dd'
    refine d_write I (by rw [e]; exact True.intro) hs ⟨q, hq⟩ ⟨hl, hd, _, (rel.put k eb rv).keeps fun c ys ec => ?_, q, es, ep, hq, h2, h3, h4, h5⟩
    rw [upd_ne (ne_of ec e (fun z => nomatch z))]
    exact ec
end

section
variable {X : Cx} {pins : List (Addr × Obj)} {σ : St} {H : Hp} {s : Shared} {a : Addr} {kvs : List (Key × V)} {k : Key} {u : Value} {A : Around} {E : Value → Shared → Prop}
end


/-- the element of a subscription, not a slice -/
def NoSl (i : Expr) : Prop := ∀ ov iv, subscripted i false ov iv = operate [ov, iv] (getItem ov iv)
theorem subD_of {prog : Program} {w : World} {A : Around} {E : Value → Shared → Prop} {s : Shared} {env : Env} {value slice : Expr} {pos : Pos} {T id : String} {Q : Value → Shared → Prop}
    (hl : typeLookup (.type T) "__getitem__" = pure (some (.builtin id))) (hs : NoSl slice)
    (h : wpAny (model prog w) A (eval value env) (fun o s₁ => wpAny (model prog w) A (eval slice env) (fun i s₂ => s₂.TypeIs o T ∧ wpAny (model prog w) A (getItem o i) Q E s₂) E s₁) E s) :
    wpAny (model prog w) A (eval (.Subscript value slice pos) env) Q E s := by
  refine Subscript_ (wpAny_mono h (fun o s₁ h₁ => wpAny_mono h₁ (fun i s₂ h₂ => ?_) fun _ _ x => x) fun _ _ x => x)
  obtain ⟨hT, h₂⟩ := h₂
  unfold subscriptTail
  refine wpAny_bind ?_
  rw [getitemInPython_of_ne hT.not_modules]
  refine wpAny_bind (wpAny_specialOf hT hl ?_)
  have fin : wpAny (model prog w) A (subscripted slice false o i) (fun r s₃ => wpAny (model prog w) A (letTemporaryGo value o r >>= fun _ => pure r) Q E s₃) E s₂ := by
    rw [hs o i]
    exact wpAny_operating (wpAny_mono h₂ (fun r s₃ h₃ => wpAny_bind (wpAny_letTemporaryGo (wpAny_pure h₃))) fun _ _ x => x)
  first
    | exact wpAny_pure (wpAny_bind fin)
    | exact wpAny_bind (wpAny_pure (wpAny_bind fin))
    | exact wpAny_bind fin

theorem dict_typeIs {X : Cx} {pins : List (Addr × Obj)} {σ : St} {H : Hp} {s : Shared} {a : Addr} {y : V} {o : Option V} (I : Inv X pins σ H s) (g : DGet H a y o) : s.TypeIs (.ref a) "dict" := by
  rcases g with ⟨kvs, k, e, _, _⟩ | ⟨kvs, k, b, e, _, _, _⟩
  · obtain ⟨_, _, vs, _, dd⟩ := dk_rd I.hok e
    exact dd.typeIs
  · obtain ⟨_, _, xs, _, dd⟩ := dt_rd I.hok e
    exact dd.typeIs
/-- d[y] -/
def tDGet (td ty : TE) : TE := fun σ H Q => td σ H fun x H1 => ty σ H1 fun y H2 => ∃ a v, x = .ref a ∧ DGet H2 a y (some v) ∧ Q v H2
/-- d[y] = v -/
def sDPut (td ty tv : TE) : TS := fun D σ H => tv σ H fun v H1 => td σ H1 fun x H2 => ty σ H2 fun y H3 => ∃ a H4, x = .ref a ∧ DPut H3 a y v H4 ∧ D.nx σ H4
section
variable {X : Cx} {o i e value : Expr} {pos pos' tpos : Pos} {td ty tv : TE}
theorem pe_dget (hu : X.A.units + 1 < cLine) (ho : PE X o td) (hi : PE X i ty) (hs : NoSl i) : PE X (.Subscript o i pos) (tDGet td ty) := by
  intro pins s σ H Q I h
  refine subD_of PySem.F.slot_dict_getitem.lookup hs (thn (ho pins s σ H _ I h) fun u s1 ⟨x, H1, I1, rx, q1⟩ => thn (hi pins s1 σ H1 _ I1 q1) fun iv s2 ⟨y, H2, I2, ry, a, v, ex, g, q2⟩ => ?_)
  subst ex
  obtain rfl : u = Value.ref a := rx
  exact ⟨dict_typeIs I2 g, d_getItem hu I2 g ry fun w' s3 I3 rw' => ⟨v, H2, I3, rw', q2⟩⟩
theorem ps_dput (hu : X.A.units + 1 < cLine) (ho : PE X o td) (hi : PE X i ty) (hv : PE X value tv) (hs : swapsWith value (some (.Subscript o i pos')) pos.line X.env = pure false) :
    PS X (.Assign [.Subscript o i pos'] value pos) (sDPut td ty tv) := by
  intro pins s σ H D I h
  refine wpAny_Assign_Subscript (thn (hv pins s σ H _ I h) fun r s1 ⟨v, H1, I1, rv, q1⟩ => thn (ho pins s1 σ H1 _ I1 q1) fun u s2 ⟨x, H2, I2, rx, q2⟩ => thn (hi pins s2 σ H2 _ I2 q2) fun iv s3 ⟨y, H3, I3, ry, a, H4, ex, g, q3⟩ => ?_) hs
  subst ex
  obtain rfl : u = Value.ref a := rx
  exact d_setItem hu I3 g ry rv fun s4 I4 => ⟨σ, H4, I4, q3⟩
end


theorem dk_empty {P : Program} {w : World} {H : Hp} (h : Heap) (hb : sysModules < h.objs.size) : ObjOk P w H (h.push { cls := .type "dict", data := .dict #[] }) h.objs.size (.dK []) :=
  ⟨Nat.zero_le _, beq_eq_false_iff_ne.mpr (Ne.symm (Nat.ne_of_lt hb)), [], .nil, Heap.DictOf.new h⟩
/-- {}, to be a dict of the kind that is wanted -/
def tDNewK : TE := fun _ H Q => ∀ p, H p = none → Q (.ref p) (upd H p (.dK []))
section
variable {X : Cx} {pos : Pos}
theorem pe_dnewK : PE X (.Dict [] [] pos) tDNewK := fun pins s σ H Q I h =>
  wpAny_Dict_empty ⟨.ref s.heap.objs.size, _, I.laid (a := s.heap.objs.size) (o := .dK []) (t' := s.toks) (fun _ _ q => Heap.get?_push_of_some _ q) (Nat.le_refl _) (dk_empty s.heap I.big), rfl, h _ (I.hok.fresh (Nat.le_refl _))⟩
end

section
variable {X : Cx} {pins : List (Addr × Obj)} {σ : St} {H : Hp} {s : Shared} {a : Addr} {y d : V} {u r : Value} {o : Option V} {A : Around} {E : Value → Shared → Prop}
end

section
variable {X : Cx} {o e f : Expr} {apos cpos : Pos} {td ty tx : TE}
end

section
variable {X : Cx} {pins : List (Addr × Obj)} {σ : St} {H : Hp} {s : Shared} {a : Addr} {kvs : List (Key × V)} {A : Around} {E : Value → Shared → Prop}
end


section
variable {X : Cx} {pins : List (Addr × Obj)} {σ : St} {H : Hp} {s : Shared} {a : Addr} {y : V} {u : Value} {A : Around} {E : Value → Shared → Prop}
end
end L2

namespace Att
open PySem PySem.W PySem.Calls PyProof.Rows

section
variable {prog : Program} {w : World} {A : Around} {E : Value → Shared → Prop} {s : Shared} {K : Frag}

end
end Att

namespace L2
open PySem PySem.Spec PyProof.Rows

end L2

namespace L2
open PySem PySem.Spec PyProof.Rows

end L2



namespace L2
open PySem PySem.Spec PyProof.Rows

section
variable {P : Program} {w : World} {K : PySem.W.Frag} {mg : Str → Option Value} {base : Heap}
end
section
variable {X : Cx}
end

section
variable {κ : Type} [DecidableEq κ]
theorem nd_snoc : ∀ {l : List κ} {k : κ}, l.Nodup → ¬ k ∈ l → (l ++ [k]).Nodup
  | [], k, _, _ => by simp
  | a :: r, k, h, hk => by
    obtain ⟨h1, h2⟩ := List.nodup_cons.mp h
    show (a :: (r ++ [k])).Nodup
    refine List.nodup_cons.mpr ⟨fun m => ?_, nd_snoc h2 fun m => hk (List.mem_cons.mpr (Or.inr m))⟩
    rcases List.mem_append.mp m with q | q
    · exact h1 q
    · exact hk (List.mem_cons.mpr (Or.inl (List.mem_singleton.mp q).symm))
end
end L2


namespace L2
open PySem PySem.Spec PyProof.Rows
section
variable {K : PySem.W.Frag} {H : Hp} {σ : St} {Q : VK} {g : TG} {tt : TT} {ta : TE} {own : List Str} {fr : List Nat}
theorem comp_raw {J : It} {n : Nat} (W : Addr → Nat → St → Hp → List V → Prop) (hz : n ≤ 100000)
    (hgo : ∀ d i σ' H' ys, i < n → W d i σ' H' ys → J.go i H') (hst : ∀ d σ' H' ys, W d n σ' H' ys → J.stop n H')
    (hal : ∀ d i σ' H' ys, i ≤ n → W d i σ' H' ys → ys.length ≤ i) (h0 : ∀ d, H d = none → W d 0 (compSt own fr σ) (upd H d (.lst [])) [])
    (turn : ∀ d i σ' H' ys x H2 (R : St → V → Hp → Prop) (R0 : St → Hp → Prop), H d = none → i < n → W d i σ' H' ys → H' d = some (.lst ys) → J.yld i H' x H2 →
      (∀ σ2 y H5, H5 d = some (.lst ys) → W d (i + 1) σ2 (upd H5 d (.lst (ys ++ [y]))) (ys ++ [y]) → R σ2 y H5) → (∀ σ2 H5, H5 d = some (.lst ys) → W d (i + 1) σ2 H5 ys → R0 σ2 H5) →
      g x σ' H2 fun σ2 H3 => tt σ2 H3 fun ok H4 => if ok = true then ta σ2 H4 (R σ2) else R0 σ2 H4)
    (fin : ∀ d σ' H' ys, H d = none → H' d = some (.lst ys) → W d n σ' H' ys → Q (.ref d) H') : compK own fr g tt ta σ Q J H := by
  intro d hd
  refine ⟨fun i m σ' H' => m = n - i ∧ i ≤ n ∧ ∃ ys, H' d = some (.lst ys) ∧ W d i σ' H' ys, ⟨n, rfl, Nat.zero_le _, [], upd_same, h0 d hd⟩, ?_⟩
  rintro i m σ' H' ⟨rfl, hi, ys, hys, w⟩
  by_cases hlt : i < n
  · refine .inr ⟨hgo d i σ' H' ys hlt w, fun x H2 hx => turn d i σ' H' ys x H2 _ _ hd hlt w hys hx (fun σ2 y H5 h1 h2 => ?_) (fun σ2 H5 h1 h2 => ?_)⟩
    · have hl := hal d i σ' H' ys hi w
      exact ⟨ys, h1, Nat.lt_of_le_of_lt (show ys.length ≤ 100000 by omega) (by rw [sizeLine_eq]; decide), n - (i + 1), by omega, rfl, hlt, _, upd_same, h2⟩
    · exact ⟨n - (i + 1), by omega, rfl, hlt, ys, h1, h2⟩
  · have e : i = n := by omega
    subst e
    exact .inl ⟨hst d σ' H' ys w, fin d σ' H' ys hd hys w⟩
theorem rd_crangeR {a : Int} {n : Nat} (e : a = (n : Int)) (hz : n ≤ 100000) (W : Addr → Nat → St → Hp → List V → Prop)
    (hal : ∀ d i σ' H' ys, i ≤ n → W d i σ' H' ys → ys.length ≤ i) (h0 : ∀ d, H d = none → W d 0 (compSt own fr σ) (upd H d (.lst [])) [])
    (turn : ∀ d i σ' H' ys (R : St → V → Hp → Prop) (R0 : St → Hp → Prop), H d = none → i < n → W d i σ' H' ys → H' d = some (.lst ys) →
      (∀ σ2 y H5, H5 d = some (.lst ys) → W d (i + 1) σ2 (upd H5 d (.lst (ys ++ [y]))) (ys ++ [y]) → R σ2 y H5) → (∀ σ2 H5, H5 d = some (.lst ys) → W d (i + 1) σ2 H5 ys → R0 σ2 H5) →
      g (.int (i : Int)) σ' H' fun σ2 H3 => tt σ2 H3 fun ok H4 => if ok = true then ta σ2 H4 (R σ2) else R0 σ2 H4)
    (fin : ∀ d σ' H' ys, H d = none → H' d = some (.lst ys) → W d n σ' H' ys → Q (.ref d) H') : srcR [.int a] H (compK own fr g tt ta σ Q) := by
  subst e
  refine ⟨n, rfl, by omega, by omega, ?_⟩
  have z : ((n : Int)).toNat = n := by omega
  show compK own fr g tt ta σ Q (Itr 0 (n : Int).toNat) H
  rw [z]
  refine comp_raw (n := n) W hz (fun d i σ' H' ys hi _ => hi) (fun d σ' H' ys _ => Nat.le_refl n) hal h0 (fun d i σ' H' ys x H2 R R0 hd hi w hys hy => ?_) fin
  obtain ⟨e1, e2⟩ := hy
  subst e1 e2
  rw [Int.zero_add]
  exact turn d i σ' _ ys R R0 hd hi w hys
theorem rd_clistR {p : Addr} {xs : List V} (hz : xs.length ≤ 100000) (W : Addr → Nat → St → Hp → List V → Prop) (hw : ∀ d i σ' H' ys, W d i σ' H' ys → SqL K H' p xs) (hS : SqL K H p xs)
    (hal : ∀ d i σ' H' ys, i ≤ xs.length → W d i σ' H' ys → ys.length ≤ i) (h0 : ∀ d, H d = none → W d 0 (compSt own fr σ) (upd H d (.lst [])) [])
    (turn : ∀ d i x σ' H' ys (R : St → V → Hp → Prop) (R0 : St → Hp → Prop), H d = none → xs[i]? = some x → W d i σ' H' ys → H' d = some (.lst ys) →
      (∀ σ2 y H5, H5 d = some (.lst ys) → W d (i + 1) σ2 (upd H5 d (.lst (ys ++ [y]))) (ys ++ [y]) → R σ2 y H5) → (∀ σ2 H5, H5 d = some (.lst ys) → W d (i + 1) σ2 H5 ys → R0 σ2 H5) →
      g x σ' H' fun σ2 H3 => tt σ2 H3 fun ok H4 => if ok = true then ta σ2 H4 (R σ2) else R0 σ2 H4)
    (fin : ∀ d σ' H' ys, H d = none → H' d = some (.lst ys) → W d xs.length σ' H' ys → Q (.ref d) H') : srcL K (.ref p) H (compK own fr g tt ta σ Q) := by
  refine ⟨p, rfl, ⟨xs, hS⟩, comp_raw (J := Itl K p) (n := xs.length) W hz (fun d i σ' H' ys hi w => ⟨xs, xs[i], hw d i σ' H' ys w, by simp [hi]⟩) (fun d σ' H' ys w => ⟨xs, hw d _ σ' H' ys w, Nat.le_refl _⟩) hal h0 (fun d i σ' H' ys x H2 R R0 hd hi w hys hy => ?_) fin⟩
  obtain ⟨e1, e2⟩ := hy
  subst e1
  exact turn d i x σ' _ ys R R0 hd (e2 xs (hw d i σ' _ ys w)) w hys
end
theorem Tbl.nil {H : Hp} {d : Addr} : Tbl (upd H d (.lst [])) d [] [] := ⟨upd_same, List.nodup_nil, by simp, rfl, fun i p r e => by simp at e⟩
section
variable {H : Hp} {σ : St} {Q : VK} {td ty tv : TE}
def nk (k : Nat) : Key := Sum.inl (k : Int)
def rDGet (x y : V) (H : Hp) (Q : VK) : Prop := ∃ a v, x = .ref a ∧ DGet H a y (some v) ∧ Q v H
def rDPut (x y v : V) (H : Hp) (D : Hp → Prop) : Prop := ∃ a H4, x = .ref a ∧ DPut H a y v H4 ∧ D H4
theorem r_tDGet (h : td σ H fun x H1 => ty σ H1 fun y H2 => rDGet x y H2 Q) : tDGet td ty σ H Q := h
theorem r_sDPut {D : Ends} (h : tv σ H fun v H1 => td σ H1 fun x H2 => ty σ H2 fun y H3 => rDPut x y v H3 (D.nx σ)) : sDPut td ty tv D σ H := h
theorem r_dget {a : Addr} {k : Nat} {kvs : List (Key × V)} {v : V} (h : H a = some (.dK kvs)) (hv : valV kvs (nk k) = some v) (q : Q v H) : rDGet (.ref a) (.int (k : Int)) H Q :=
  ⟨a, v, rfl, by rw [← hv]; exact DGet.k (k := nk k) h, q⟩
theorem r_dput {D : Hp → Prop} {a : Addr} {k : Nat} {kvs : List (Key × V)} {v : V} (h : H a = some (.dK kvs)) (hl : kvs.length ≤ 100000) (q : D (upd H a (.dK (putK kvs (nk k) v)))) : rDPut (.ref a) (.int (k : Int)) v H D :=
  ⟨a, _, rfl, DPut.k (k := nk k) h (Nat.lt_of_le_of_lt hl (by rw [sizeLine_eq]; decide)), q⟩
theorem r_dnew (h : ∀ p, H p = none → Q (.ref p) (upd H p (.dK []))) : tDNewK σ H Q := h
theorem nk_inj {a b : Nat} (h : nk a = nk b) : a = b := Int.ofNat.inj (Sum.inl.inj h)
def zipK (F : List Nat) (ps : List Addr) : List (Key × V) := (F.zip ps).map fun x => (nk x.1, V.ref x.2)
theorem zipK_len {F : List Nat} {ps : List Addr} : (zipK F ps).length ≤ F.length := by
  unfold zipK
  rw [List.length_map, List.length_zip]
  omega
theorem zipK_none : ∀ {F : List Nat} {ps : List Addr} {f : Nat}, f ∉ F → valV (zipK F ps) (nk f) = none
  | [], _, _, _ => rfl
  | _ :: _, [], _, _ => rfl
  | a :: F, p :: ps, f, h => by
    have h1 : ¬ nk a = nk f := fun z => h (by rw [nk_inj z]; exact List.mem_cons_self)
    show valV ((nk a, V.ref p) :: zipK F ps) (nk f) = none
    rw [valV_neg h1]
    exact zipK_none fun z => h (List.mem_cons_of_mem _ z)
theorem zipK_get : ∀ {F : List Nat} {ps : List Addr} {j f : Nat} {p : Addr}, F.Nodup → F[j]? = some f → ps[j]? = some p → valV (zipK F ps) (nk f) = some (.ref p)
  | [], _, _, _, _, _, h, _ => by simp at h
  | _ :: _, [], _, _, _, _, _, h => by simp at h
  | a :: F, q :: ps, 0, f, p, _, h1, h2 => by
    cases h1; cases h2
    exact valV_pos rfl
  | a :: F, q :: ps, j + 1, f, p, nd, h1, h2 => by
    have h1' : F[j]? = some f := h1
    have h2' : ps[j]? = some p := h2
    obtain ⟨n1, n2⟩ := List.nodup_cons.mp nd
    have h3 : ¬ nk a = nk f := fun z => n1 (by rw [nk_inj z]; exact List.mem_of_getElem? h1')
    show valV ((nk a, V.ref q) :: zipK F ps) (nk f) = _
    rw [valV_neg h3]
    exact zipK_get n2 h1' h2'
theorem zipK_snoc {F : List Nat} {ps : List Addr} {f : Nat} {p : Addr} (hl : ps.length = F.length) (h : f ∉ F) : putK (zipK F ps) (nk f) (.ref p) = zipK (F ++ [f]) (ps ++ [p]) := by
  rw [putK_new _ (zipK_none h)]
  unfold zipK
  rw [List.zip_append hl.symm, List.map_append]
  rfl
end
end L2

namespace L2
open PySem PySem.Spec PyProof.Rows
theorem lri_no_len : typeLookup (.type "list_reverseiterator") "__len__" = pure none := by rw [typeLookup_type, builtinLookup_eq_fast]; kernel_rfl
theorem lri_hint : typeLookup (.type "list_reverseiterator") "__length_hint__" = pure (some (.builtin "list_reverseiterator.__length_hint__")) := by rw [typeLookup_type, builtinLookup_eq_fast]; kernel_rfl
section
variable {prog : Program} {w : World} {A : Around} {s : Shared} {R : Result → Shared → Prop}
variable {I : Addr} {fp wr : List Addr} {G : Array GenState → Array GenState → Prop} {n : Nat} {P : Nat → Value → Prop} {St : Nat → Shared → Prop}
theorem extend_lri (W : WalksS prog w A.in1 I fp wr G n P St) (hT : ∀ i s, St i s → s.TypeIs (.ref I) "list_reverseiterator") (S : Addr) (res : Value) (c₀ : Nat) (hst : St 0 s) (hSf : S ∉ fp) (hI : I ∈ fp)
    (hS : s.heap.get? S = some { cls := .type "list", data := .seq #[] c₀ })
    (hR : ∀ s' acc' c', Moved (S :: wr) G s s' → s'.heap.get? S = some { cls := .type "list", dict := none, data := .seq acc' c', slots := #[] } → ItemsOf P acc' n → R (.ok (.ret res)) s') (hn : n ≤ sizeLine) :
    wpAny (model prog w) A.in1 (Builtin.List.listExtendWith (.ref S) (.ref I) res)
      (fun fin s' => match fin with | .done f => R (.ok f) s' | .again c' => c'.quiet = true ∧ codeAny (model prog w) A c' R s') (fun e s' => R (.error e) s') s := by
  have hSI : S ≠ I := fun e => hSf (e ▸ hI)
  have h1 : Builtin.List.listSameRef (.ref S) (.ref I) = false := by simp [Builtin.List.listSameRef, hSI]
  unfold Builtin.List.listExtendWith
  refine wpAny_bind (wpAny_typeOf (hT 0 _ hst) ?_)
  rw [if_neg (by rw [h1]; decide)]
  refine wpAny_bind (W.self 0 _ _ _ hst ?_)
  refine wpAny_bind (wpAny_holding ?_)
  unfold Builtin.List.listLengthHint
  refine wpAny_bind (wpAny_specialOf (hT 0 _ hst) lri_no_len ?_)
  show wpAny _ A.in1 (specialOf (Value.ref I) (Str.ofString "__length_hint__") >>= _) _ _ _
  refine wpAny_bind (wpAny_specialOf (hT 0 _ hst) lri_hint ?_)
  generalize hid : ("list_reverseiterator.__length_hint__" : String) = id0
  wp_delta
  rw [show splitId id0 = some ("list_reverseiterator", "__length_hint__") from by subst hid; decide +kernel]
  subst hid
  refine wpAny_bind (wpAny_isInstance (b := true) (hT 0 _ hst) (by rw [isSubtype_type]; kernel_rfl) ?_)
  refine wpAny_pure ?_
  rw [if_neg (by decide)]
  refine wpAny_pure ⟨plainId_quiet F.plain_extend_loop _, codeAny_extend_loopS W hn _ hSf _ n 0 _ _ _ rfl (Nat.zero_le _) hst hS (ItemsOf.nil P) fun s' acc' c' hm hS' hacc => ?_⟩
  exact hR s' acc' c' hm hS' hacc
end
section
variable {prog : Program} {w : World} {A : Around} {s : Shared} {R : Result → Shared → Prop} {E : Value → Shared → Prop}
variable {I : Addr} {fp wr : List Addr} {G : Array GenState → Array GenState → Prop} {n : Nat} {P : Nat → Value → Prop} {St : Nat → Shared → Prop}
theorem list_init_lri (W : WalksS prog w A.in1 I fp wr G n P St) (hT : ∀ i s, St i s → s.TypeIs (.ref I) "list_reverseiterator") (S : Addr) (hst : St 0 s) (hSf : S ∉ fp) (hI : I ∈ fp)
    (hS : s.heap.get? S = some { cls := .type "list", data := .seq #[] })
    (hR : ∀ s' acc' c', Moved (S :: wr) G s s' → s'.heap.get? S = some { cls := .type "list", dict := none, data := .seq acc' c', slots := #[] } → ItemsOf P acc' n → R (.ok (.ret .none)) s') (hn : n ≤ sizeLine) :
    wpAny (model prog w) A.in1 (Builtin.«list.__init__» ⟨[.ref S, .ref I], []⟩)
      (fun fin s' => match fin with | .done f => R (.ok f) s' | .again c' => c'.quiet = true ∧ codeAny (model prog w) A c' R s') (fun e s' => R (.error e) s') s := by
  show wpAny _ A.in1 (do let old ← Builtin.List.listItems (.ref S); Builtin.List.listUpdate (.ref S) (fun _ => #[]); letGo old.toList.reverse; Builtin.List.listExtendWith (.ref S) (.ref I) .none) _ _ s
  refine wpAny_bind ?_
  unfold Builtin.List.listItems
  refine wpAny_bind (wpAny_seqItems hS rfl (wpAny_pure ?_))
  show wpAny _ A.in1 (updateSeq S (fun _ => #[]) >>= fun _ => letGo (#[] : Array Value).toList.reverse >>= fun _ => Builtin.List.listExtendWith (.ref S) (.ref I) .none) _ _ s
  refine wpAny_bind (wpAny_updateSeq hS rfl ?_)
  have hS₂ := Heap.get?_update_self (Obj.mapSeq (fun _ => (#[] : Array Value))) hS rfl
  have oth : ∀ b o, b ≠ S → s.heap.get? b = some o → (s.heap.update S (Obj.mapSeq (fun _ => (#[] : Array Value)))).get? b = some o :=
    fun b o hb e => (Heap.get?_update_other _ _ (Ne.symm hb)).trans e
  refine wpAny_bind (wpAny_letGo ?_)
  refine extend_lri W hT S .none _ (W.frame 0 s _ s.toks hst (Nat.le_refl _) fun b hb o e => oth b o (fun h => hSf (h ▸ hb)) e) hSf hI hS₂ (fun s' acc' c' hm hS' hacc => ?_) hn
  exact hR s' acc' c' (Moved.trans W.gtrans ((Moved.refl W.grefl).then_heap (Nat.le_refl _) fun b o hb e => oth b o (fun h => hb (h ▸ List.mem_cons_self)) e) hm) hS' hacc
theorem call_list_lri {Q : Value → Shared → Prop} (W : WalksS prog w A.in1.in1 I fp wr G n P St) (hT : ∀ i s, St i s → s.TypeIs (.ref I) "list_reverseiterator") (hst : St 0 s) (hfp : ∀ b ∈ fp, b < s.heap.objs.size) (hI : I ∈ fp)
    (hQ : ∀ s' acc' c', Moved (s.heap.objs.size :: wr) G { s with heap := s.heap.push { cls := .type "list", data := .seq #[] } } s' →
      s'.heap.get? s.heap.objs.size = some { cls := .type "list", dict := none, data := .seq acc' c', slots := #[] } → ItemsOf P acc' n → Q (.ref s.heap.objs.size) s') (hn : n ≤ sizeLine) :
    wpAny (model prog w) A (call (.type "list") [.ref I]) Q E s := by
  have hSf : s.heap.objs.size ∉ fp := fun hm => Nat.lt_irrefl _ (hfp _ hm)
  refine callType_codes (Q₁ := fun obj s₁ => obj = .ref s.heap.objs.size ∧ s₁ = { s with heap := s.heap.push { cls := .type "list", data := .seq #[] } }) F.called_list (F.typeCall_list_1 _) F.entry_list_init
    (code_list_new _ ⟨rfl, rfl⟩) fun obj s₁ h₁ => ?_
  obtain ⟨rfl, rfl⟩ := h₁
  have hS : (s.heap.push { cls := .type "list", data := .seq #[] }).get? s.heap.objs.size = some { cls := .type "list", data := .seq #[] } := Heap.get?_push_size _ rfl
  refine ⟨⟨_, hS, rfl⟩, F.args_list_init_2 _ _, list_init_lri W hT _ (W.frame 0 s _ s.toks hst (Nat.le_refl _) fun b _ o e => Heap.get?_push_of_some _ e) hSf hI hS (fun s' acc' c' hm hS' hacc => ?_) hn⟩
  exact ⟨rfl, hQ s' acc' c' hm hS' hacc⟩
end
theorem vals_ext : ∀ {xs : List V} {us : List Value}, xs.length = us.length → (∀ (i : Nat) (x : V) (u : Value), xs[i]? = some x → us[i]? = some u → RelV x u) → Vals xs us
  | [], [], _, _ => .nil
  | x :: xs, u :: us, h, k => .cons (k 0 x u rfl rfl) (vals_ext (by simpa using h) fun i a b e1 e2 => k (i + 1) a b e1 e2)
  | [], _ :: _, h, _ => by simp at h
  | _ :: _, [], h, _ => by simp at h
theorem Vals.getL {xs : List V} {us : List Value} (r : Vals xs us) {i : Nat} {x : V} {u : Value} (hx : xs[i]? = some x) (hu : us[i]? = some u) : RelV x u := by
  obtain ⟨u', hu', ru⟩ := r.get hx
  rw [hu] at hu'
  cases hu'
  exact ru
/-- list(reversed(l)) -/
def tListRev (K : PySem.W.Frag) (ta : TA) : TE := fun σ H Q => ta σ H fun vs H1 => ∃ a xs, vs = [.ref a] ∧ SqL K H1 a xs ∧ ∀ d, H1 d = none → Q (.ref d) (upd H1 d (.lst xs.reverse))
theorem pe_listRev {X : Cx} (K : PySem.W.Frag) (hK : X.K = K) (hc : X.calm = true) {e : Expr} {ta : TA} {p p2 pos pos2 : Pos} (hg1 : Gl X "list") (hm1 : X.mg "list" = none) (hg2 : Gl X "reversed") (hm2 : X.mg "reversed" = none) (ha : PA X [e] ta) (hn : isStar e = false := by rfl) :
    PE X (.Call (.Name "list" p) [.Call (.Name "reversed" p2) [e] [] pos2] [] pos) (tListRev K ta) := by
  subst hK
  intro pins s σ H Q I h
  refine Call_ (ld_blt I hg1 hm1 boot_list (PyProof.Rows.callWith_type1 ?_ (star_cons rfl) (star_any rfl)))
  rw [star_cons rfl]
  show wpAny _ _ (spliced ((false, eval (.Call (.Name "reversed" p2) [e] [] pos2) X.env) :: backTo pos (starEach [] X.env))) _ _ s
  refine Calls.spliced_cons ?_
  refine Call_ (ld_blt I hg2 hm2 boot_reversed (PyProof.Rows.callWith_type1 (thn (ha pos2 pins s σ H _ I h) fun us s1 ⟨vs, H1, I1, r1, q1⟩ => ?_) (star_cons hn) (star_any rfl)))
  obtain ⟨a, xs, ev, hS, q⟩ := q1
  subst ev
  obtain ⟨u, rfl, ru⟩ := vals1 r1
  cases (show u = Value.ref a from ru)
  obtain ⟨its, rv, pl, hz⟩ := I1.list hS
  have hl := rv.length
  refine call_reversed_list pl.isList ?_
  refine Calls.spliced_nil ?_
  have lta : a < s1.heap.objs.size := by obtain ⟨_, z, _⟩ := pl.isList; exact Heap.lt_size z
  have hh : X.A.in1.in1.handled = none := by simpa using I.ok.hd hc
  refine call_list_lri (I := s1.heap.objs.size) ((Walks.listRev hh s1.heap.objs.size a (Nat.ne_of_lt lta) its.toArray).toS) (fun i s' st => st.2.1.typeIs) ⟨Nat.zero_le _, ⟨_, Heap.get?_push_size _ rfl, rfl, by simp [revObj]⟩, pl.isList.push _⟩ (fun b hb => ?_) (by simp) (fun s' acc c hm hS' hacc => ?_) (by rw [List.size_toArray, ← hl]; exact hz)
  · have hb' : b = s1.heap.objs.size ∨ b = a := by simpa using hb
    rw [Heap.size_push]
    rcases hb' with rfl | rfl
    · exact Nat.lt_succ_self _
    · exact Nat.lt_succ_of_lt lta
  · obtain ⟨h', g', d', tk', os'⟩ := s'
    have eg : g' = s1.gens := hm.gens
    have ed : d' = s1.drawn := hm.drawn
    have eo : os' = s1.os := hm.os
    subst eg ed eo
    rw [Heap.size_push] at hS' hm ⊢
    refine ⟨.ref (s1.heap.objs.size + 1), upd H1 (s1.heap.objs.size + 1) (.lst xs.reverse), I1.laid (a := s1.heap.objs.size + 1) (o := .lst xs.reverse) (fun b o e => ?_) (Nat.le_succ _) ⟨?_, acc.toList, c, ?_, ?_⟩, rfl, q _ (I1.hok.fresh (Nat.le_succ _))⟩
    · have hlt := Heap.lt_size e
      refine hm.heap b o (fun z => ?_) (Heap.get?_push_of_some _ (Heap.get?_push_of_some _ e))
      have z' : b = s1.heap.objs.size + 1 ∨ b = s1.heap.objs.size := by simpa using z
      rcases z' with z' | z'
      · rw [z'] at hlt; exact absurd hlt (Nat.not_lt.mpr (Nat.le_succ _))
      · rw [z'] at hlt; exact absurd hlt (Nat.lt_irrefl _)
    · rw [List.length_reverse]; exact hz
    · refine vals_ext ?_ fun i x u e1 e2 => ?_
      · rw [List.length_reverse, hl]
        simpa using hacc.1.symm
      · have e2' : acc[i]? = some u := by rw [← Array.getElem?_toList]; exact e2
        have z := hacc.2 i u e2'
        have hi : i < xs.length := by
          have := (List.getElem?_eq_some_iff.mp e1).1
          rw [List.length_reverse] at this
          exact this
        rw [List.getElem?_reverse hi] at e1
        have z2 : its[xs.length - 1 - i]? = some u := by
          rw [hl]
          simpa using z
        exact rv.getL e1 z2
    · simpa using hS'
def DE (P : Program) (w : World) (a : Addr) (kvs : List (Key × V)) (ep : Nat) : HO := .ext fun h => kvs.length ≤ sizeLine ∧ (a == sysModules) = false ∧ ∃ vs, KV kvs vs ∧ h.DictAt (mixKind P w) a vs ep
section
variable {X : Cx} {pins : List (Addr × Obj)} {σ : St} {H : Hp} {s : Shared} {a : Addr} {kvs : List (Key × V)} {ep : Nat}
theorem de_of (I : Inv X pins σ H s) (e : H a = some (DE X.prog X.w a kvs ep)) : kvs.length ≤ sizeLine ∧ (a == sysModules) = false ∧ ∃ vs, KV kvs vs ∧ s.heap.DictAt (mixKind X.prog X.w) a vs ep :=
  (show ObjOk X.prog X.w H s.heap a (DE X.prog X.w a kvs ep) from I.hok a _ e).1
theorem Inv.hold (I : Inv X pins σ H s) (e : H a = some (.dK kvs)) : ∃ ep, Inv X pins σ (upd H a (DE X.prog X.w a kvs ep)) s := by
  obtain ⟨z, hd, vs, rel, dd⟩ := dk_of I.hok e
  obtain ⟨ep, da⟩ := dd.dictAt
  refine ⟨ep, ?_⟩
  obtain ⟨o, es, ho, r⟩ := id da
  exact I.write (x := a) (e := a) (h' := s.heap) (t' := s.toks) (by rw [e]; exact True.intro) (.inl rfl) (fun _ _ _ q => q) ⟨o, ho⟩ ⟨⟨z, hd, vs, rel, da⟩, ⟨o, ho⟩, fun h1 h2 ⟨q1, q2, vs', q3, q4⟩ k => ⟨q1, q2, vs', q3, q4.at' fun o' e' => k o' e'⟩⟩
theorem Inv.release (I : Inv X pins σ H s) (e : H a = some (DE X.prog X.w a kvs ep)) : Inv X pins σ (upd H a (.dK kvs)) s := by
  obtain ⟨z, hd, vs, rel, da⟩ := de_of I e
  obtain ⟨o, es, ho, r⟩ := id da
  exact I.write (x := a) (e := a) (h' := s.heap) (t' := s.toks) (by rw [e]; exact True.intro) (.inl rfl) (fun _ _ _ q => q) ⟨o, ho⟩ (dk_new z hd rel da.dictOf)
end
/-- ahead of a statement: a dict is held; is let go -/
def sHold (P : Program) (w : World) (i : Nat) (t : TS) : TS := fun D σ H => ∃ a kvs, σ[i]? = some (some (.ref a)) ∧ H a = some (.dK kvs) ∧ ∀ ep, t D σ (upd H a (DE P w a kvs ep))
def sFree (P : Program) (w : World) (i : Nat) (t : TS) : TS := fun D σ H => ∃ a kvs ep, σ[i]? = some (some (.ref a)) ∧ H a = some (DE P w a kvs ep) ∧ t D σ (upd H a (.dK kvs))
theorem ps_hold {X : Cx} (P : Program) (w : World) (i : Nat) (hP : X.prog = P) (hw : X.w = w) {st : Stmt} {t : TS} (h : PS X st t) : PS X st (sHold P w i t) := by
  subst hP hw
  intro pins s σ H D I q
  obtain ⟨a, kvs, _, e, q⟩ := q
  obtain ⟨ep, I'⟩ := I.hold e
  exact h pins s σ _ D I' (q ep)
theorem ps_free {X : Cx} (P : Program) (w : World) (i : Nat) (hP : X.prog = P) (hw : X.w = w) {st : Stmt} {t : TS} (h : PS X st t) : PS X st (sFree P w i t) := by
  subst hP hw
  intro pins s σ H D I q
  obtain ⟨a, kvs, ep, _, e, q⟩ := q
  exact h pins s σ _ D (I.release e) q
def Itd (P : Program) (w : World) (a : Addr) (kvs : List (Key × V)) (ep : Nat) : It :=
  ⟨fun i H => H a = some (DE P w a kvs ep) ∧ i < kvs.length, fun i H x H' => H' = H ∧ ∃ kv, kvs[i]? = some kv ∧ x = kV kv.1, fun i H => H a = some (DE P w a kvs ep) ∧ kvs.length ≤ i⟩
theorem key_rel {P : Program} {w : World} {k : Key} {u : Value} (h : (mixKind P w).is k u = true) : RelV (kV k) u := by
  rcases keyIs_shape h with ⟨i, t, rfl, rfl⟩ | ⟨x, t, rfl, rfl⟩
  · exact ⟨t, rfl⟩
  · exact ⟨t, rfl⟩
theorem KV.get {kvs : List (Key × V)} {vs : List (Key × Value)} (r : KV kvs vs) {i : Nat} {p : Key × V} (h : kvs[i]? = some p) : ∃ q, vs[i]? = some q ∧ p.1 = q.1 ∧ RelV p.2 q.2 := by
  unfold KV at r
  induction r generalizing i with
  | nil => simp at h
  | @cons a b as bs hab t ih =>
    cases i with
    | zero => cases h; exact ⟨b, rfl, hab⟩
    | succ i => exact ih h
theorem turn_dict {P : Program} {w : World} {K : PySem.W.Frag} {tg : Expr} (a it : Addr) (kvs : List (Key × V)) (ep : Nat) : Turn P w K tg (Itd P w a kvs ep) [it] it (fun i h => h.IsKeyIter it a i kvs.length ep) where
  mem := by simp
  obj := fun i h st b hb => by
    have e : b = it := by simpa using hb
    subst e
    obtain ⟨o, e, c, d⟩ := st
    exact ⟨o, e, fun v z => by rw [d] at z; cases z⟩
  keep := fun i h h' st k => st.at fun o e => k it (by simp) o e
  item := by
    intro X hP hw hK hc i pins s σ H E I hf st hg
    subst hP hw hK
    obtain ⟨hH, hi⟩ := hg
    obtain ⟨z, hd, vs, rel, da⟩ := de_of I hH
    obtain ⟨f0, f1, f2, f3, f4, f5⟩ := hf it (by simp)
    obtain ⟨q, hq, e1, r1⟩ := rel.get (List.getElem?_eq_getElem hi)
    rw [rel.length] at st
    refine wpAny_pyNext_dict_item st da (k := q.1) (v := q.2) hq fun key h' hk st' sb => ?_
    have I1 : Inv X pins σ H { s with heap := h' } := I.turned (t' := s.toks) (fun b o hb e => (sb.2 b hb).trans e) f0 f1 f3 f4 f5
    obtain ⟨o, e, c, d⟩ := id st'
    refine ⟨key, rfl, go_of (s := { s with heap := h' }) e c d (by decide) ⟨kV kvs[i].1, H, I1, ?_, ⟨rfl, kvs[i], List.getElem?_eq_getElem hi, rfl⟩, ?_, fun b hb => (hf b hb).1⟩⟩
    · rw [e1]; exact key_rel hk
    · rw [rel.length]; exact st'
  done := by
    intro X hP hw hK hc i pins s σ H E I hf st hg
    subst hP hw hK
    obtain ⟨hH, hi⟩ := hg
    obtain ⟨z, hd, vs, rel, da⟩ := de_of I hH
    obtain ⟨f0, f1, f2, f3, f4, f5⟩ := hf it (by simp)
    have hl := rel.length
    rw [hl] at st
    exact wpAny_pyNext_dict_end (I.ok.hd hc) st da (List.getElem?_eq_none (by omega)) fun h' eb => ⟨rfl, I.turned (t' := s.toks) (fun b o hb e => eb b o hb e) f0 f1 f3 f4 f5⟩
  self := fun _ _ _ _ _ st h => wpAny_pyIter_keyiter st h
def srcD (P : Program) (w : World) (x : V) (H : Hp) (R : It → Hp → Prop) : Prop := ∃ a kvs ep, x = .ref a ∧ H a = some (DE P w a kvs ep) ∧ R (Itd P w a kvs ep) H
def iDict (P : Program) (w : World) (tl : TE) : TI := fun σ H R => tl σ H fun x H1 => srcD P w x H1 R
theorem pi_dict {X : Cx} (P : Program) (w : World) (hP : X.prog = P) (hw : X.w = w) {tg l : Expr} {tl : TE} (hl : PE X l tl) : PI X tg l (iDict P w tl) := by
  subst hP hw
  intro pins s σ H R I h
  refine thn (hl pins s σ H _ I h) fun v s1 ⟨x, H1, I1, r1, q1⟩ => ?_
  obtain ⟨a, kvs, ep, e, hH, q⟩ := q1
  subst e
  cases r1
  obtain ⟨z, hd, vs, rel, da⟩ := de_of I1 hH
  have hl := rel.length
  refine wpAny_pyIter_dict hd da ?_
  refine ⟨s1.heap.objs.size, [s1.heap.objs.size], _, _, H1, rfl, I1.kept (t' := s1.toks) fun b o e => Heap.get?_push_of_some _ e, turn_dict a _ kvs ep, ⟨_, Heap.get?_push_size _ rfl, rfl, by rw [hl]; rfl⟩, fun b hb => ?_, q⟩
  have e : b = s1.heap.objs.size := by simpa using hb
  subst e
  exact I1.fpOk (Nat.le_refl _) (I1.hok.fresh (Nat.le_refl _))
/-- d[k] of a dict that is held -/
def rDGetE (P : Program) (w : World) (x y : V) (H : Hp) (Q : VK) : Prop := ∃ a kvs ep k v, x = .ref a ∧ H a = some (DE P w a kvs ep) ∧ y = kV k ∧ valV kvs k = some v ∧ Q v H
def tDGetE (P : Program) (w : World) (td ty : TE) : TE := fun σ H Q => td σ H fun x H1 => ty σ H1 fun y H2 => rDGetE P w x y H2 Q
theorem pe_dgetE {X : Cx} (P : Program) (w : World) (hP : X.prog = P) (hw : X.w = w) {o i : Expr} {pos : Pos} {td ty : TE} (ho : PE X o td) (hi : PE X i ty) (hs : NoSl i) : PE X (.Subscript o i pos) (tDGetE P w td ty) := by
  subst hP hw
  intro pins s σ H Q I h
  refine subD_of PySem.F.slot_dict_getitem.lookup hs (thn (ho pins s σ H _ I h) fun u s1 ⟨x, H1, I1, rx, q1⟩ => thn (hi pins s1 σ H1 _ I1 q1) fun iv s2 ⟨y, H2, I2, ry, a, kvs, ep, k, v, ex, hH, ey, hv, q2⟩ => ?_)
  subst ex ey
  obtain rfl : u = Value.ref a := rx
  obtain ⟨z, hd, vs, rel, da⟩ := de_of I2 hH
  obtain ⟨w', hw, rw'⟩ := RelO.some_of (v := v) (o := valueAt vs k) (by rw [← hv]; exact rel.val k)
  exact ⟨da.dictOf.typeIs, wpAny_getItem_of (kV_is ry) da.dictOf.mapOf hw ⟨v, H2, I2.tok _, rw', q2⟩⟩
section
variable {P : Program} {w : World} {σ : St} {H : Hp} {Q : VK} {td ty : TE} {tl : TE} {ta : TA} {K : PySem.W.Frag}
theorem r_iDict {R : It → Hp → Prop} (h : tl σ H fun x H1 => srcD P w x H1 R) : iDict P w tl σ H R := h
theorem r_tDGetE (h : td σ H fun x H1 => ty σ H1 fun y H2 => rDGetE P w x y H2 Q) : tDGetE P w td ty σ H Q := h
theorem r_dgetE {a : Addr} {kvs : List (Key × V)} {ep k : Nat} {v : V} (h : H a = some (DE P w a kvs ep)) (hv : valV kvs (nk k) = some v) (q : Q v H) : rDGetE P w (.ref a) (.int (k : Int)) H Q := ⟨a, kvs, ep, nk k, v, rfl, h, rfl, hv, q⟩
theorem r_listRev (h : ta σ H fun vs H1 => ∃ a xs, vs = [.ref a] ∧ SqL K H1 a xs ∧ ∀ d, H1 d = none → Q (.ref d) (upd H1 d (.lst xs.reverse))) : tListRev K ta σ H Q := h
/-- a loop over the keys of a dict that is held; the keys are numbers -/
theorem rd_dict {g : TG} {t : TS} {D : Ends} {a : Addr} {kvs : List (Key × V)} {ep : Nat} (h : H a = some (DE P w a kvs ep)) (Pv : Nat → St → Hp → Prop) (h0 : Pv 0 σ H) (hl : ∀ i σ' H', Pv i σ' H' → H' a = some (DE P w a kvs ep))
    (hs : ∀ i p σ' H', kvs[i]? = some p → Pv i σ' H' → g (kV p.1) σ' H' fun σ2 H2 => t { D with nx := Pv (i + 1), ct := Pv (i + 1), bk := D.nx } σ2 H2) (hd : ∀ σ' H', Pv kvs.length σ' H' → D.nx σ' H') : srcD P w (.ref a) H (loopK g t D σ) := by
  refine ⟨a, kvs, ep, rfl, h, fun i m σ' H' => m = kvs.length - i ∧ i ≤ kvs.length ∧ Pv i σ' H', ⟨kvs.length, by simp, Nat.zero_le _, h0⟩, ?_⟩
  rintro i m σ' H' ⟨rfl, hi, p0⟩
  have q := hl i σ' H' p0
  by_cases hlt : i < kvs.length
  · refine .inr ⟨⟨q, hlt⟩, Pv (i + 1), fun σ2 H2 p' => ⟨kvs.length - (i + 1), by omega, rfl, hlt, p'⟩, fun z H2 yl => ?_⟩
    obtain ⟨rfl, kv, hkv, rfl⟩ := yl
    exact hs i kv σ' H2 hkv p0
  · have e : i = kvs.length := by omega
    subst e
    exact .inl ⟨⟨q, Nat.le_refl _⟩, hd σ' H' p0⟩
end
end L2

namespace L2
open PySem PySem.Spec PyProof.Rows
section
variable {X : Cx} {CX : CXT} {k : Nat} {f C : Addr} {fd : FuncData} {ps : List Str} {sp : Sp} {m : Str} {pos apos : Pos} {e o : Expr} {es : List Expr} {ta : TE} {t : TA}
theorem pe_methF {pl : Sem Bool} (he : PE X o ta) (c : Cls X.K C) (hm : Meth X.K C m f) (F : FnOk X.prog X.w X.K X.mg X.base CX0 k f fd ps sp) (hr : Room k X.A) (hb : Binds X.K fd ps []) (ha : PA X (e :: es) t)
    (hn : isStar e = false := by rfl) (hall : es.all (fun e => !isStar e) = true := by rfl)
    (ht : eval (.Call (.Attribute o m apos) (e :: es) [] pos) X.env = (do
      let ov ← eval o X.env
      standAt apos.atName
      let (f, first) ← holding [ov] (getMethod ov m pl)
      callWith pos f first (backTo pos (starEach (e :: es) X.env)) (backToKw pos (keywordEach [] X.env))) := by rfl) :
    PE X (.Call (.Attribute o m apos) (e :: es) [] pos) (tMeth C m sp [] E0 ta t) := pe_meth he c hm F hr hb .nil pass0 ha (star_cons hn) (star_any hall) ht
end
section
variable {σ : St} {H : Hp} {Q : VK} {K : PySem.W.Frag}
theorem r_meth {C : Addr} {m : Str} {sp : Sp} {E : XK} {ta : TE} {t : TA} (h : ta σ H fun x H1 => ∃ a dx fs, x = .ref a ∧ H1 a = some (.ins C dx fs) ∧ fs.lookup m = none ∧ t σ H1 fun vs H2 => sp (x :: (vs ++ [])) H2 Q E) : tMeth C m sp [] E ta t σ H Q := h
theorem r_modI {a b : Int} (h : 0 < b) (q : Q (.int (a % b)) H) : rI (fun _ j => 0 < j) (fun i j => .int (i % j)) (.int a) (.int b) H Q := ⟨a, b, rfl, rfl, h, q⟩
theorem r_divI {a b : Int} (h : 0 < b) (h2 : b < 1073741824) (q : Q (.int (a / b)) H) : rI CDiv (fun i j => .int (i / j)) (.int a) (.int b) H Q := ⟨a, b, rfl, rfl, ⟨by omega, by omega⟩, q⟩
end
def srcR2 (vs : List V) (H : Hp) (R : It → Hp → Prop) : Prop := ∃ i j : Int, vs = [.int i, .int j] ∧ (-(2 ^ 62) ≤ i ∧ i < 2 ^ 62 ∧ -(2 ^ 62) ≤ j ∧ j < 2 ^ 62) ∧ R (Itr i (j - i).toNat) H
theorem pi_range2F {X : Cx} {tg a b : Expr} {ta : TA} {p pos : Pos} (hg : Gl X "range") (hm : X.mg "range" = none) (ha : PA X [a, b] ta) (hn : isStar a = false := by rfl) (hn2 : isStar b = false := by rfl) : PI X tg (.Call (.Name "range" p) [a, b] [] pos) (iRng2 ta) :=
  pi_range2 hg hm ha (by rw [star_cons hn, star_cons hn2]; rfl) (by rw [star_cons hn2]; rfl)
section
variable {σ : St} {H : Hp} {Q : VK} {D : Ends} {g : TG} {t : TS} {tA : TA} {tt : TT} {ta : TE} {own : List Str} {fr : List Nat}
theorem r_iRng2 {R : It → Hp → Prop} (h : tA σ H fun vs H1 => srcR2 vs H1 R) : iRng2 tA σ H R := h
theorem rd_range2 {a b : Int} {lo n : Nat} (e : a = (lo : Int)) (e2 : b = ((lo + n : Nat) : Int)) (hn : lo + n ≤ 1000000) (Pv : Nat → St → Hp → Prop) (h0 : Pv 0 σ H)
    (hs : ∀ i σ' H', i < n → Pv i σ' H' → g (.int ((lo + i : Nat) : Int)) σ' H' fun σ2 H2 => t { D with nx := Pv (i + 1), ct := Pv (i + 1), bk := D.nx } σ2 H2) (hd : ∀ σ' H', Pv n σ' H' → D.nx σ' H') : srcR2 [.int a, .int b] H (loopK g t D σ) := by
  subst e e2
  refine ⟨lo, _, rfl, ⟨by omega, by omega, by omega, by omega⟩, ?_⟩
  have z : (((lo + n : Nat) : Int) - (lo : Int)).toNat = n := by omega
  rw [z]
  refine ⟨fun i m σ' H' => m = n - i ∧ i ≤ n ∧ Pv i σ' H', ⟨n, rfl, Nat.zero_le _, h0⟩, ?_⟩
  rintro i m σ' H' ⟨rfl, hi, p⟩
  by_cases hlt : i < n
  · refine .inr ⟨hlt, Pv (i + 1), fun σ2 H2 p' => ⟨n - (i + 1), by omega, rfl, hlt, p'⟩, fun x H2 y => ?_⟩
    obtain ⟨rfl, rfl⟩ := y
    have q := hs i σ' H2 hlt p
    rw [show (((lo + i : Nat) : Int)) = (lo : Int) + (i : Int) by push_cast; rfl] at q
    exact q
  · have e : i = n := by omega
    subst e
    exact .inl ⟨Nat.le_refl i, hd σ' H' p⟩
theorem rd_crange2R {a b : Int} {lo n : Nat} (e : a = (lo : Int)) (e2 : b = ((lo + n : Nat) : Int)) (hz : lo + n ≤ 100000) (W : Addr → Nat → St → Hp → List V → Prop)
    (hal : ∀ d i σ' H' ys, i ≤ n → W d i σ' H' ys → ys.length ≤ i) (h0 : ∀ d, H d = none → W d 0 (compSt own fr σ) (upd H d (.lst [])) [])
    (turn : ∀ d i σ' H' ys (R : St → V → Hp → Prop) (R0 : St → Hp → Prop), H d = none → i < n → W d i σ' H' ys → H' d = some (.lst ys) →
      (∀ σ2 y H5, H5 d = some (.lst ys) → W d (i + 1) σ2 (upd H5 d (.lst (ys ++ [y]))) (ys ++ [y]) → R σ2 y H5) → (∀ σ2 H5, H5 d = some (.lst ys) → W d (i + 1) σ2 H5 ys → R0 σ2 H5) →
      g (.int ((lo + i : Nat) : Int)) σ' H' fun σ2 H3 => tt σ2 H3 fun ok H4 => if ok = true then ta σ2 H4 (R σ2) else R0 σ2 H4)
    (fin : ∀ d σ' H' ys, H d = none → H' d = some (.lst ys) → W d n σ' H' ys → Q (.ref d) H') : srcR2 [.int a, .int b] H (compK own fr g tt ta σ Q) := by
  subst e e2
  refine ⟨lo, _, rfl, ⟨by omega, by omega, by omega, by omega⟩, ?_⟩
  have z : (((lo + n : Nat) : Int) - (lo : Int)).toNat = n := by omega
  rw [z]
  refine comp_raw (n := n) W (by omega) (fun d i σ' H' ys hi _ => hi) (fun d σ' H' ys _ => Nat.le_refl n) hal h0 (fun d i σ' H' ys x H2 R R0 hd hi w hys hy => ?_) fin
  obtain ⟨e1, e2⟩ := hy
  subst e1 e2
  have q := turn d i σ' _ ys R R0 hd hi w hys
  rw [show (((lo + i : Nat) : Int)) = (lo : Int) + (i : Int) by push_cast; rfl] at q
  exact q
end
end L2

namespace L2
open PySem PySem.Spec PyProof.Rows
theorem cellsFrom_app : ∀ (names : List (Str × NameKind)) (n : Nat) (acc : List (Str × Addr)), cellsFrom n names acc = cellsFrom n names [] ++ acc
  | [], _, _ => rfl
  | (x, k) :: r, n, acc => by
    unfold cellsFrom
    split
    · rw [cellsFrom_app r (n + 1) ((x, n) :: acc), cellsFrom_app r (n + 1) [(x, n)], List.append_assoc]
      rfl
    · exact cellsFrom_app r n acc
theorem cellsFrom_has : ∀ (names : List (Str × NameKind)) (n : Nat) (x : Str), (x, NameKind.cell) ∈ names → ∃ c, (cellsFrom n names []).lookup x = some c
  | (y, k) :: r, n, x, h => by
    unfold cellsFrom
    rcases List.mem_cons.mp h with e | h
    · cases e
      rw [if_pos (show (NameKind.cell == NameKind.cell) = true from rfl), cellsFrom_app, List.lookup_append]
      cases q : (cellsFrom (n + 1) r []).lookup y with
      | some c => exact ⟨c, rfl⟩
      | none => exact ⟨n, by simp⟩
    · split
      · obtain ⟨c, hc⟩ := cellsFrom_has r (n + 1) x h
        rw [cellsFrom_app, List.lookup_append, hc]
        exact ⟨c, rfl⟩
      · exact cellsFrom_has r n x h
theorem cellsFrom_mem : ∀ (names : List (Str × NameKind)) (n : Nat) (x : Str) (c : Addr), (x, c) ∈ cellsFrom n names [] → (x, NameKind.cell) ∈ names
  | [], _, _, _, h => by simp [cellsFrom] at h
  | (y, k) :: r, n, x, c, h => by
    unfold cellsFrom at h
    split at h
    · rename_i hk
      rw [cellsFrom_app] at h
      rcases List.mem_append.mp h with z | z
      · exact List.mem_cons_of_mem _ (cellsFrom_mem r (n + 1) x c z)
      · have z' := List.mem_singleton.mp z
        cases z'
        have : k = NameKind.cell := by simpa using hk
        rw [this]; exact List.mem_cons_self
    · exact List.mem_cons_of_mem _ (cellsFrom_mem r n x c h)
theorem newFunctionEnv_cl {M : Model} {A : Around} {E : Value → Shared → Prop} {s : Shared} {scope : Scope} {globals : Addr} {cl : List (Str × Addr)} {qual : Str} {env : Env} {Q : Env → Shared → Prop}
    (h : Q (newEnv scope s.heap.objs.size globals (cellsFrom (s.heap.objs.size + 1) scope.names cl) qual none .none (some env) builtinsNs) { s with heap := pushCells (s.heap.push { cls := .type "dict", data := .dict #[] }) scope.names }) :
    wpAny M A (newFunctionEnv scope globals cl [] qual none .none (some env)) Q E s := by
  simp only [newFunctionEnv, Option.isSome_some, if_true]
  refine wpAny_bind (wpAny_alloc ?_)
  refine wpAny_bind (wpAny_layCells _ (fun name kind cells => by cases hkc : kind == NameKind.cell <;> simp [hkc]) _ _ _ _ ?_)
  rw [show ({ s with heap := s.heap.push { cls := .type "dict", data := .dict #[] } } : Shared).heap.objs.size = s.heap.objs.size + 1 from Heap.size_push ..]
  exact wpAny_bind (wpAny_pure (wpAny_pure h))
def cxCompC (X : Cx) (scope : Scope) (own : List Str) (fr : List Nat) (C : Addr) (s₂ : Shared) (H₂ : Hp) (fp : List Addr) : Cx :=
  { X with N := compN own fr X.N, s₀ := s₂, H₀ := H₂, env := compEnvC scope (cellsFrom (C + 1) scope.names (clGo X.env scope.names [])) C X.env, outer := X.stack, ex := fp, fn := fun x => decide ((x, NameKind.cell) ∈ scope.names), pn := [], xe := fun _ _ => False }
structure CompScC (sc : Scope) (N : List Str) (scope : Scope) (own : List Str) (fr : List Nat) : Prop where
  kind : scope.kind = .function
  cf0 : ∀ y ∈ scope.names, y.2 = .cell → (y.1, NameKind.free) ∉ scope.names
  names : ∀ y ∈ scope.names, y.2 = .local → scope.names.lookup y.1 = some .local
  free : ∀ y ∈ scope.names, y.2 = .free → sc.names.lookup y.1 = some .cell ∨ sc.names.lookup y.1 = some .free
  fr0 : ∀ i ∈ fr, (N[i]?.bind fun x => scope.names.lookup x) = some .free
  nd : (compN own fr N).Nodup
theorem CompScC.cf {sc : Scope} {N : List Str} {scope : Scope} {own : List Str} {fr : List Nat} (S : CompScC sc N scope own fr) (x : Str) (h : (x, NameKind.cell) ∈ scope.names) : (x, NameKind.free) ∉ scope.names := S.cf0 _ h rfl
theorem CompScC.fr {sc : Scope} {N : List Str} {scope : Scope} {own : List Str} {fr : List Nat} (S : CompScC sc N scope own fr) : ∀ i ∈ fr, ∃ x, N[i]? = some x ∧ scope.names.lookup x = some .free := fun i hi => by
  have q := S.fr0 i hi
  cases e : N[i]? with
  | none => rw [e] at q; cases q
  | some x => rw [e] at q; exact ⟨x, rfl, q⟩
section
variable {X : Cx} {scope : Scope} {own : List Str} {fr : List Nat} {pins : List (Addr × Obj)} {σ : St} {H₂ : Hp} {s₂ : Shared} {fp : List Addr} {C D : Addr} {h₁ : Heap} {m : Str → Option Value} {tk : Nat}
theorem CompScC.cells (S : CompScC X.env.scope X.N scope own fr) (ok : X.Ok) : ∀ x ∈ scope.names, x.2 = .free → ∃ c, X.env.cells.lookup x.1 = some c := fun x hx hf => ok.has x.1 (S.free x hx hf)
theorem inv_compC (S : CompScC X.env.scope X.N scope own fr) (I : Inv X pins σ H₂ s₂) (f2 : ∀ b ∈ fp, FpOk X pins H₂ b) (fo : ∀ b ∈ fp, b < s₂.heap.objs.size)
    (hC : s₂.heap.objs.size ≤ C) (hD : s₂.heap.objs.size ≤ D) (hDC : D ≠ C) (hDC' : D < C) (old : ∀ b o, s₂.heap.get? b = some o → h₁.get? b = some o) (hns : h₁.Ns C m) (new : ∃ n, h₁.get? D = some { cls := .type "list", data := .seq #[] n }) (okc : CellsOk h₁ (C + 1) (cellsFrom (C + 1) scope.names [])) :
    Inv (cxCompC X scope own fr C s₂ H₂ fp) [] (compSt own fr σ) (upd H₂ D (.lst [])) { s₂ with heap := h₁, toks := tk } := by
  have hk := S.cells I.ok
  have sub := clGo_sub (env := X.env) scope.names [] hk (fun x c e => by cases e)
  have fl : ∀ x c, (clGo X.env scope.names []).lookup x = some c → ∃ v, s₂.heap.IsCell c v := fun x c e => I.cell x c (sub x c e)
  have two : ∀ x c, (cellsFrom (C + 1) scope.names (clGo X.env scope.names [])).lookup x = some c → ((cellsFrom (C + 1) scope.names []).lookup x = some c) ∨ (clGo X.env scope.names []).lookup x = some c := fun x c e => by
    rw [cellsFrom_app, List.lookup_append] at e
    cases q : (cellsFrom (C + 1) scope.names []).lookup x with
    | none => rw [q] at e; exact .inr e
    | some c' => rw [q] at e; exact .inl e
  have nw : ∀ x c, (cellsFrom (C + 1) scope.names []).lookup x = some c → h₁.IsCell c none ∧ C + 1 ≤ c := fun x c e => okc.empty x c (PySem.mem_of_lookup e)
  have ge : ∀ x c, (cellsFrom (C + 1) scope.names []).lookup x = some c → s₂.heap.objs.size ≤ c := fun x c e => Nat.le_trans hC (Nat.le_of_lt (nw x c e).2)
  have olt : ∀ x c, (clGo X.env scope.names []).lookup x = some c → c < s₂.heap.objs.size := fun x c e => by
    obtain ⟨v, o, z1, _⟩ := fl x c e
    exact Heap.lt_size z1
  have okX : (cxCompC X scope own fr C s₂ H₂ fp).Ok := by
    refine ⟨I.ok.mod, S.kind, I.ok.glob, I.ok.blt, hC, fun x y c e1 e2 => ?_, fun x hx => ?_, fun x c hf e => ?_, I.ok.hd, I.ok.frames, .inl rfl, fun b hb => ⟨?_, fun x c e z => ?_⟩,
      I.bs, Nat.le_trans I.ok.bsz I.sz, fun b o e hb => ?_, fun b hb => ?_, I.stack, I.stkFree⟩
    · rcases two x c e1 with z1 | z1 <;> rcases two y c e2 with z2 | z2
      · exact name_of_addr okc.apart (PySem.mem_of_lookup z1) (PySem.mem_of_lookup z2)
      · exact absurd (Nat.lt_of_le_of_lt (ge x c z1) (olt y c z2)) (Nat.lt_irrefl _)
      · exact absurd (Nat.lt_of_le_of_lt (ge y c z2) (olt x c z1)) (Nat.lt_irrefl _)
      · exact I.ok.inj x y c (sub x c z1) (sub y c z2)
    · show ∃ c, (cellsFrom (C + 1) scope.names (clGo X.env scope.names [])).lookup x = some c
      rw [cellsFrom_app, List.lookup_append]
      cases q : (cellsFrom (C + 1) scope.names []).lookup x with
      | some c' => exact ⟨c', rfl⟩
      | none =>
        rcases relabel_kinds hx with z | z
        · exact clGo_has _ _ _ z
        · obtain ⟨c, hc⟩ := cellsFrom_has scope.names (C + 1) x z
          rw [q] at hc; cases hc
    · rcases two x c e with z | z
      · exact ge x c z
      · exfalso
        have hf' : (x, NameKind.cell) ∈ scope.names := of_decide_eq_true hf
        have e' : (cellsFrom (C + 1) scope.names (clGo X.env scope.names [])).lookup x = some c := e
        obtain ⟨c', hc'⟩ := cellsFrom_has scope.names (C + 1) x hf'
        rw [cellsFrom_app, List.lookup_append, hc'] at e'
        cases e'
        exact absurd (Nat.lt_of_le_of_lt (ge x _ hc') (olt x _ z)) (Nat.lt_irrefl _)
    · exact Nat.ne_of_lt (Nat.lt_of_lt_of_le (fo b hb) hC)
    · rcases two x c e with y | y
      · exact absurd (Nat.lt_of_le_of_lt (ge x c y) (z ▸ fo b hb)) (Nat.lt_irrefl _)
      · exact (f2 b hb).2.2.2.2.1 x c (sub x c y) z
    · obtain ⟨_, _, _, f3, _⟩ := f2 b hb
      rcases f3 with z | z
      · exact I.ok.noex b o e z
      · exact absurd (Nat.lt_of_lt_of_le (Heap.lt_size (I.ok.bs b o e).1) z) (Nat.lt_irrefl _)
    · obtain ⟨_, f1, f2', _⟩ := f2 b hb
      intro z
      rcases List.mem_cons.mp (I.stkSub b z) with q | q
      · exact f1 q
      · exact f2' q
  have frH : ∀ a, s₂.heap.objs.size ≤ a → H₂ a = none := fun a h => I.hok.fresh h
  refine ⟨okX, rfl, I.bare, Un.laid old hD (frH D hD), ⟨m, hns, fun i x v e1 e2 e3 => ?_⟩, fun x c e => ?_, ?_, fun x c e => ?_, fun p hp => absurd (show p ∈ ([] : List (Addr × Obj)) from hp) (by simp), I.hok.laid old hD ?_, ?_⟩
  · obtain ⟨j, hi, hj, hv⟩ := compSt_get e2
    have hx : X.N[j]? = some x := by
      obtain ⟨y, hy, _⟩ := S.fr j (List.mem_of_getElem? hj)
      have e1' : (compN own fr X.N)[i]? = some x := e1
      unfold compN at e1'
      rw [List.getElem?_append_right hi, List.getElem?_map, hj] at e1'
      have e1'' : (X.N[j]?).getD ("" : Str) = x := by simpa using e1'
      rw [hy] at e1'' ⊢
      exact congrArg some e1''
    obtain ⟨y, hy, hfree⟩ := S.fr j (List.mem_of_getElem? hj)
    rw [hx] at hy; cases hy
    have hkind : X.env.kindOf x = some .cell ∨ X.env.kindOf x = some .free := S.free _ (PySem.mem_of_lookup hfree) rfl
    obtain ⟨mo, hno, hlo⟩ := I.loc
    obtain ⟨u, r, l⟩ := hlo j x v hx hv (hkind.elim (fun z => .inr (.inl z)) fun z => .inr (.inr z))
    refine ⟨u, r, .inr ⟨relabel_free hfree, ?_⟩⟩
    obtain ⟨c, hc⟩ := clGo_has (env := X.env) scope.names [] x (PySem.mem_of_lookup hfree)
    have hno : (cellsFrom (C + 1) scope.names []).lookup x = none := by
      cases q : (cellsFrom (C + 1) scope.names []).lookup x with
      | none => rfl
      | some c' => exact absurd (PySem.mem_of_lookup hfree) (S.cf x (cellsFrom_mem scope.names (C + 1) x c' (PySem.mem_of_lookup q)))
    refine ⟨c, by show (cellsFrom (C + 1) scope.names (clGo X.env scope.names [])).lookup x = some c; rw [cellsFrom_app, List.lookup_append, hno]; exact hc, ?_⟩
    have hc' := sub x c hc
    rcases l with ⟨k, _⟩ | ⟨_, c', e, o, z1, z2⟩
    · rcases hkind with z | z
      · rw [k] at z; cases z
      · rw [k] at z; cases z
    · rw [hc'] at e; cases e
      exact ⟨o, old _ _ z1, z2⟩
  · rcases two x c e with y | y
    · exact ⟨none, (nw x c y).1⟩
    · obtain ⟨v, o, z1, z2⟩ := fl x c y
      exact ⟨v, o, old _ _ z1, z2⟩
  · show (upd H₂ D (.lst [])) C = none
    rw [upd_ne (Ne.symm hDC)]; exact frH C hC
  · rcases two x c e with y | y
    · rw [upd_ne (show c ≠ D from Nat.ne_of_gt (Nat.lt_trans hDC' (nw x c y).2))]
      exact frH c (ge x c y)
    · obtain ⟨v, o, z1, z2⟩ := fl x c y
      rw [upd_ne (Nat.ne_of_lt (Nat.lt_of_lt_of_le (Heap.lt_size z1) hD))]
      exact I.freeC x c (sub x c y)
  · obtain ⟨n, e⟩ := new
    exact ⟨Nat.zero_le _, [], n, .nil, e⟩
  · show (compSt own fr σ).length = (compN own fr X.N).length
    simp [compSt, compN]
end

section
variable {X : Cx} {elt tg iter : Expr} {ifs : List Expr} {scope : Scope} {pos : Pos} {own : List Str} {fr : List Nat} {wi : TI} {g : TG} {tt : TT} {te : TE}
theorem comp_coreC {pins : List (Addr × Obj)} {s : Shared} {σ : St} {H : Hp} {Q : VK} {RR : Value → Addr → Result → Shared → Prop} (hc : X.calm = true) (S : CompScC X.env.scope X.N scope own fr) (hi : PI X tg iter wi)
    (hb : ∀ C s₂ H₂ fp, PG (cxCompC X scope own fr C s₂ H₂ fp) tg g ∧ PIf (cxCompC X scope own fr C s₂ H₂ fp) ifs tt ∧ PE (cxCompC X scope own fr C s₂ H₂ fp) elt te)
    (I : Inv X pins σ H s) (h : tComp own fr wi g tt te σ H Q)
    (hRR : ∀ D C s' H' m', Inv X pins σ H' s' → Q (.ref D) H' → FpOk X pins H' C → s'.heap.Ns C m' → RR (.ref D) C (.ok .next) s') :
    wpAny (model X.prog X.w) X.A (eval iter X.env) (fun v s₁ => wpAny (model X.prog X.w) X.A (pyIter v) (fun it s₂ => wpAny (model X.prog X.w) X.A (newList []) (fun acc s₃ =>
      wpAny (model X.prog X.w) X.A (newFunctionEnv scope X.env.globals (clGo X.env scope.names []) [] X.env.qual none .none (some X.env)) (fun cenv s₄ =>
        codeAny (model X.prog X.w) X.A (.compStart (.ListComp elt [⟨tg, iter, ifs, 0⟩] scope pos) 0 it acc { cenv with scope := relabel scope X.env }) (RR acc cenv.locals) s₄) X.xe s₃) X.xe s₂) X.xe s₁) X.xe s := by
  refine thn (hi pins s σ H _ I h) fun v s1 h1 => thn h1 fun itv s2 h2 => ?_
  obtain ⟨it, fp, tn, J, H2, e, I2, T, st2, f2, hq⟩ := h2
  subst e
  refine wpAny_newObj_type (newFunctionEnv_cl ?_)
  dsimp only
  have hD := I2.hok.fresh (Nat.le_refl s2.heap.objs.size)
  obtain ⟨W, ⟨m0, w0⟩, turn⟩ := hq s2.heap.objs.size hD
  generalize hH2 : s2.heap.push { cls := .type "list", dict := none, data := .seq ([] : List Value).toArray } = G at ⊢
  have hG : G.objs.size = s2.heap.objs.size + 1 := by rw [← hH2, Heap.size_push]
  have hDC : s2.heap.objs.size ≠ G.objs.size := by rw [hG]; exact Nat.ne_of_lt (Nat.lt_succ_self _)
  have hC : s2.heap.objs.size ≤ G.objs.size := by rw [hG]; exact Nat.le_succ _
  have old : ∀ b o, s2.heap.get? b = some o → (pushCells (G.push { cls := .type "dict", data := .dict #[] }) scope.names).get? b = some o := fun b o e =>
    pushCells_keeps _ _ b o (Heap.get?_push_of_some _ (hH2 ▸ Heap.get?_push_of_some _ e))
  have new : (pushCells (G.push { cls := .type "dict", data := .dict #[] }) scope.names).get? s2.heap.objs.size = some { cls := .type "list", data := .seq #[] 0 } :=
    pushCells_keeps _ _ _ _ (Heap.get?_push_of_some _ (hH2 ▸ Heap.get?_push_size _ rfl))
  have hns₁ : (pushCells (G.push { cls := .type "dict", data := .dict #[] }) scope.names).Ns G.objs.size (fun _ => none) := (Heap.Ns.new G (.type "dict")).keeps (pushCells_keeps _ _)
  have okc := cellsFrom_ok scope.names (G.push { cls := .type "dict", data := .dict #[] }) (G.objs.size + 1) [] ⟨fun _ _ hm => (nomatch hm), List.Pairwise.nil⟩ (by rw [Heap.size_push]; exact Nat.le_refl _)
  rw [Heap.size_push] at okc
  generalize hh1 : pushCells (G.push { cls := .type "dict", data := .dict #[] }) scope.names = h₁ at old new hns₁ okc ⊢
  have fo : ∀ b ∈ fp, b < s2.heap.objs.size := fun b hb' => let ⟨o, e, _⟩ := T.obj 0 _ st2 b hb'; Heap.lt_size e
  have I4 : Inv (cxCompC X scope own fr G.objs.size s2 H2 fp) [] (compSt own fr σ) (upd H2 s2.heap.objs.size (.lst [])) { s2 with heap := h₁ } :=
    inv_compC (tk := s2.toks) S I2 f2 fo hC (Nat.le_refl _) hDC (by rw [hG]; exact Nat.lt_succ_self _) old hns₁ ⟨_, new⟩ okc
  obtain ⟨hg, ht, he⟩ := hb G.objs.size s2 H2 fp
  have fpX : ∀ {H' : Hp}, (∀ b ∈ fp, H' b = none) → ∀ b ∈ fp, FpOk (cxCompC X scope own fr G.objs.size s2 H2 fp) [] H' b := fun {H'} hn b hb' => by
    refine ⟨hn b hb', Nat.ne_of_lt (Nat.lt_of_lt_of_le (fo b hb') hC), I4.ok.exfs b hb', .inl hb', (I4.ok.exf b hb').2, fun p hp => absurd (show p ∈ ([] : List (Addr × Obj)) from hp) (by simp)⟩
  have fr0 : ∀ b ∈ fp, (upd H2 s2.heap.objs.size (.lst [])) b = none := fun b hb' => by
    rw [upd_ne (Nat.ne_of_lt (fo b hb'))]; exact (f2 b hb').1
  have tn0 : tn 0 h₁ := T.keep _ _ _ st2 fun b hb' o e => old b o e
  have loop : codeAny (model X.prog X.w) X.A (.compLoop (.ListComp elt [⟨tg, iter, ifs, 0⟩] scope pos) 0 (.ref it) (.ref s2.heap.objs.size) (compEnvC scope (cellsFrom (G.objs.size + 1) scope.names (clGo X.env scope.names [])) G.objs.size X.env))
      (RR (.ref s2.heap.objs.size) G.objs.size) { s2 with heap := h₁ } := by
    refine comp_loop (fun n s' => ∃ i σ' H', Inv (cxCompC X scope own fr G.objs.size s2 H2 fp) [] σ' H' s' ∧ tn i s'.heap ∧ (∀ b ∈ fp, H' b = none) ∧ W i n σ' H') ?_ m0 ⟨0, _, _, I4, tn0, fr0, w0⟩
    rintro n s3 ⟨i, σ3, H3, I3, st3, fr3, w3⟩
    have nfp : ∀ {H' : Hp} {s' : Shared} {σ' : St} {pl : List (Addr × Obj)}, Inv (cxCompC X scope own fr G.objs.size s2 H2 fp) pl σ' H' s' → pl = pinsAt fp s'.heap → True := fun _ _ => trivial
    rcases turn i n σ3 H3 w3 with ⟨stop, qn⟩ | ⟨go, step⟩
    · refine thn (T.done (cxCompC X scope own fr G.objs.size s2 H2 fp) rfl rfl rfl hc i [] s3 σ3 H3 (fun _ _ => False) I3 (fpX fr3) st3 stop) fun r s4 ⟨hr, I5⟩ => ?_
      subst hr
      have IX : Inv X pins σ H3 s4 := I2.call' (ch := fp) I5.os I5.base I5.hok I5.bare fun b hb' => let ⟨_, f1, _, f3, f4, f5⟩ := f2 b hb'; ⟨f3, f1, f4, f5⟩
      obtain ⟨m', hn', _⟩ := I5.loc
      exact hRR _ _ _ _ m' IX qn (I2.fpOk hC I5.free) hn'
    · refine thn (T.item (cxCompC X scope own fr G.objs.size s2 H2 fp) rfl rfl rfl hc i [] s3 σ3 H3 (fun _ _ => False) I3 (fpX fr3) st3 go) fun r s4 ⟨u, hr, h4⟩ => ?_
      subst hr
      refine thn h4 fun _ s5 ⟨x, H5, I5, r5, y5, st5, fr5⟩ => ?_
      have I5' := I5.pinned (fpX fr5) (T.obj _ _ st5)
      refine thn (hg _ s5 σ3 H5 x u _ I5' r5 (step x H5 y5)) fun _ s6 ⟨σ6, H6, I6, q6⟩ => ?_
      have again : ∀ {s7 : Shared} {σ7 : St} {H7 : Hp} {m' : Nat}, Inv (cxCompC X scope own fr G.objs.size s2 H2 fp) ([] ++ pinsAt fp s5.heap) σ7 H7 s7 → m' < n → W (i + 1) m' σ7 H7 →
          ∃ m, m < n ∧ ∃ i σ' H', Inv (cxCompC X scope own fr G.objs.size s2 H2 fp) [] σ' H' s7 ∧ tn i s7.heap ∧ (∀ b ∈ fp, H' b = none) ∧ W i m σ' H' := fun {s7 σ7 H7 m'} I7 hm w7 => by
        refine ⟨m', hm, i + 1, σ7, H7, I7.unpinned, T.keep _ _ _ st5 fun b hb' o e => (I7.pin (b, o) (List.mem_append_right _ (List.mem_append_right _ (mem_pinsAt hb' e)))).1, fun b hb' => ?_, w7⟩
        obtain ⟨o, e, d⟩ := T.obj _ _ st5 b hb'
        exact (I7.pin (b, o) (List.mem_append_right _ (List.mem_append_right _ (mem_pinsAt hb' e)))).2.1
      refine thn (ht _ s6 σ6 H6 _ I6 q6) fun ok s7 ⟨H7, I7, q7⟩ => ?_
      cases ok with
      | false =>
        rw [if_neg Bool.false_ne_true] at q7 ⊢
        obtain ⟨m', hm, w7⟩ := q7
        exact again I7 hm w7
      | true =>
        rw [if_pos rfl] at q7 ⊢
        refine thn (he _ s7 σ6 H7 _ I7 q7) fun y s8 ⟨yv, H8, I8, r8, q8⟩ => ?_
        obtain ⟨ys, hy, hl, m', hm, w8⟩ := q8
        refine thn (mt_append _ s8 σ6 H8 (.ref s2.heap.objs.size) [yv] _ [y] (fun _ H9 => H9 = upd H8 s2.heap.objs.size (.lst (ys ++ [yv]))) I8 rfl (.cons r8 .nil) ⟨_, ys, yv, rfl, rfl, hy, hl, rfl⟩) fun _ s9 ⟨_, H9, I9, _, e9⟩ => ?_
        subst e9
        exact again I9 hm w8
  exact codeAny_compStart_list loop (T.self X.A 0 _ _ _ tn0 loop)
/-- [elt for tg in iter if ..] -/
theorem pe_compC (hc : X.calm = true) (S : CompScC X.env.scope X.N scope own fr) (hi : PI X tg iter wi)
    (hb : ∀ C s₂ H₂ fp, PG (cxCompC X scope own fr C s₂ H₂ fp) tg g ∧ PIf (cxCompC X scope own fr C s₂ H₂ fp) ifs tt ∧ PE (cxCompC X scope own fr C s₂ H₂ fp) elt te)
    (hs : ∀ x, foldedSetIterable iter X.env x = pure x := by intro _; rfl) : PE X (.ListComp elt [⟨tg, iter, ifs, 0⟩] scope pos) (tComp own fr wi g tt te) := by
  intro pins s σ H Q I h
  rw [eval_ListComp]
  refine wpAny_comprehension_free (use := none) rfl hs (clGo_eq (S.cells I.ok)) S.kind S.names ?_
  refine comp_coreC (RR := fun acc C => compPost (model X.prog X.w) X.A X.xe none (EP X pins σ Q) acc C) hc S hi hb I h ?_
  intro D C s' H' m' I' q f hn
  obtain ⟨f0, f1, f2, f3, f4, f5⟩ := f
  exact ⟨m', hn, fun h' sb => ⟨.ref D, H', I'.turned (t' := s'.toks) (fun b o hb e => (sb.2 b hb).trans e) f0 f1 f3 f4 f5, rfl, q⟩⟩
end
end L2

namespace L2
open PySem PySem.Spec PyProof.Rows
section
variable {K : PySem.W.Frag} {H : Hp} {σ : St} {Q : VK} {tt : TT} {ta : TE} {own : List Str} {fr : List Nat}
end
end L2

namespace L2
open PySem PySem.Spec PyProof.Rows
section
variable {X : Cx}
end
end L2

namespace L2
section
variable {α : Type} {us : List α}
theorem len0 (h : us.length = 0) : us = [] := List.length_eq_zero_iff.mp h
theorem lenS {n : Nat} (h : us.length = n + 1) : ∃ a r, us = a :: r ∧ r.length = n := by
  cases us with
  | nil => simp at h
  | cons a r => exact ⟨a, r, rfl, by simpa using h⟩
theorem len1 (h : us.length = 1) : ∃ a, us = [a] := by
  obtain ⟨a, r, rfl, h2⟩ := lenS h; obtain rfl := len0 h2; exact ⟨a, rfl⟩
theorem len2 (h : us.length = 2) : ∃ a b, us = [a, b] := by
  obtain ⟨a, r, rfl, h2⟩ := lenS h; obtain ⟨b, rfl⟩ := len1 h2; exact ⟨a, b, rfl⟩
theorem len3 (h : us.length = 3) : ∃ a b c, us = [a, b, c] := by
  obtain ⟨a, r, rfl, h2⟩ := lenS h; obtain ⟨b, c, rfl⟩ := len2 h2; exact ⟨a, b, c, rfl⟩
theorem len4 (h : us.length = 4) : ∃ a b c d, us = [a, b, c, d] := by
  obtain ⟨a, r, rfl, h2⟩ := lenS h; obtain ⟨b, c, d, rfl⟩ := len3 h2; exact ⟨a, b, c, d, rfl⟩
end
end L2

namespace L2
open PySem PySem.Spec PyProof.Rows

theorem ObjOk.there {P : Program} {w : World} {H : Hp} {h : Heap} {a : Addr} {o : HO} (x : ObjOk P w H h a o) : ∃ ob, h.get? a = some ob := by
  cases o with
  | lst xs => obtain ⟨_, _, _, _, e⟩ := x; exact ⟨_, e⟩
  | tup xs => obtain ⟨_, _, _, ob, e, _⟩ := x; exact ⟨_, e⟩
  | dK kvs => obtain ⟨_, _, _, _, o, _, _, e, _⟩ := x; exact ⟨_, e⟩
  | dT kvs => obtain ⟨_, _, _, _, o, _, _, e, _⟩ := x; exact ⟨_, e⟩
  | set S n => obtain ⟨o, _, _, _, e, _⟩ := x; exact ⟨_, e⟩
  | ins C dx fs => obtain ⟨_, _, _, e, _⟩ := x; exact ⟨_, e⟩
  | own y => exact x
  | xd fs => obtain ⟨_, ⟨_, _, _, e, _⟩, _⟩ := x; exact ⟨_, e⟩
  | rng lo hi => obtain ⟨_, _, _, e⟩ := x; exact ⟨_, e⟩
  | frz ob u => obtain ⟨e, _⟩ := x; exact ⟨_, e⟩
  | tbl ps => exact ⟨_, (show h.get? a = some _ from x)⟩
  | met f y => exact ⟨_, (show h.get? a = some _ from x)⟩
  | ext φ => obtain ⟨_, e, _⟩ := x; exact e

/-- an error of the class at C that lies at x, its newest entry of the way at T -/
def ExcT (h : Heap) (x T C : Addr) : Prop := ∃ a0 oe vs oT ts, h.get? x = some oe ∧ (oe.cls = .ref C ∧ vs[0]? = some a0) ∧ oe.data = .fields vs ∧ vs[1]? = some (.ref T) ∧ T ≠ x ∧ h.get? T = some oT ∧ oT.data = .fields ts ∧ ts[3]? = some .none
/-- .. just made -/
def ExcN (h : Heap) (x C : Addr) : Prop := ∃ a0 oe vs, h.get? x = some oe ∧ (oe.cls = .ref C ∧ vs[0]? = some a0) ∧ oe.data = .fields vs ∧ vs[1]? = some .none
def IsRec (h : Heap) (b : Addr) : Prop := ∃ o vs, h.get? b = some o ∧ o.data = .fields vs
theorem ExcT.recs {h : Heap} {x T C : Addr} (e : ExcT h x T C) : ∀ b ∈ [x, T], IsRec h b := fun b hb => by
  obtain ⟨_, oe, vs, oT, ts, e1, _, e3, _, _, e6, e7, _⟩ := e
  rcases List.mem_cons.mp hb with rfl | hb
  · exact ⟨_, _, e1, e3⟩
  · obtain rfl := List.mem_singleton.mp hb
    exact ⟨_, _, e6, e7⟩
theorem ExcN.recs {h : Heap} {x C : Addr} (e : ExcN h x C) : ∀ b ∈ [x], IsRec h b := fun b hb => by
  obtain ⟨_, oe, vs, e1, _, e3, _⟩ := e
  obtain rfl := List.mem_singleton.mp hb
  exact ⟨_, _, e1, e3⟩

/-- what becomes of the heap as an error passes: all is kept, but the frames' slots, the error itself and its entries -/
structure Left2 (l : List Env) (x : Addr) (ts : List Addr) (C : Addr) (h h' : Heap) : Prop where
  keep : ∀ b o, b ∉ frs l → b ≠ x → b ∉ ts → h.get? b = some o → h'.get? b = some o
  slot : ∀ b o, b ∈ frs l → h.get? b = some o → ∃ sl, h'.get? b = some { o with slots := sl }
  exc : ∃ T, ExcT h' x T C ∧ (T ∈ ts ∨ h.get? T = none)

theorem funs_rebase {h base base' : Heap} : ∀ {l : List Env}, h.FunFrames base l → (∀ b ∈ frs l, base'.get? b = none) → h.FunFrames base' l
  | [], _, _ => True.intro
  | env :: rest, ⟨hk, ⟨L, o, hf, _, ho, hd⟩, hr⟩, hb => by
    have e : frs (env :: rest) = L :: frs rest := by unfold frs; rw [List.filterMap_cons, hf]
    rw [e] at hb
    exact ⟨hk, ⟨L, o, hf, hb L (.head _), ho, hd⟩, funs_rebase hr fun b hm => hb b (.tail _ hm)⟩

/-- the heap without the frames, the error and its entries -/
abbrev hidL (h : Heap) (l : List Env) (cs : List Addr) : Heap := PySem.W.hideAll h (frs l ++ cs)

theorem left2_of {h h' base : Heap} {l : List Env} {x : Addr} {ts : List Addr} {C : Addr} {a0 : Value} (hl : h.FunFrames base l) (k1 : (hidL h l (x :: ts)).StaysIn h') (k3 : h'.TracedW (hidL h l (x :: ts)) x (.ref C) a0) (k4 : h.UpToSlots h') : Left2 l x ts C h h' := by
  refine ⟨fun b o h1 h2 h3 hb => k1 b o (PySem.W.hideAll_get _ hb fun hm => ?_), fun b o hm hb => ?_, ?_⟩
  · rcases List.mem_append.mp hm with z | z
    · exact h1 z
    · rcases List.mem_cons.mp z with z | z
      · exact h2 z
      · exact h3 z
  · obtain ⟨_, o', ho', hnf⟩ := hl.mem hm
    rw [hb] at ho'; cases ho'
    exact k4 b o hb hnf
  · obtain ⟨oe', vs', T', oT', ts', f1, f2, f3, f4, f5, f6, f7, f8, f9⟩ := k3
    refine ⟨T', ⟨a0, oe', vs', oT', ts', f1, f2, f3, f4, f6, f7, f8, f9⟩, ?_⟩
    by_cases hT : T' ∈ ts
    · exact .inl hT
    refine .inr ?_
    cases q : h.get? T' with
    | none => rfl
    | some o =>
      exfalso
      have nm : T' ∉ frs l ++ x :: ts := fun hm => by
        rcases List.mem_append.mp hm with hm | hm
        · obtain ⟨_, o', ho', hnf⟩ := hl.mem hm
          obtain ⟨sl, z⟩ := k4 T' o' ho' hnf
          rw [f7] at z
          have z' := Option.some.inj z
          rw [z'] at f8
          exact hnf ts' f8
        · rcases List.mem_cons.mp hm with z | z
          · exact f6 z
          · exact hT z
      rw [PySem.W.hideAll_get _ q nm] at f5
      cases f5

section
variable {M : Model} {A : Around} {E : Value → Shared → Prop} {s : Shared} {base : Heap} {env : Env} {outer : List Env} {L x T C : Addr} {Q : Unit → Shared → Prop}
theorem hid_none {h : Heap} {l : List Env} {cs : List Addr} {b : Addr} (hb : b ∈ cs) : (hidL h l cs).get? b = none := PySem.W.hideAll_none _ (List.mem_append_right _ hb)
theorem hid_fr {h : Heap} {l : List Env} {cs : List Addr} {b : Addr} (hb : b ∈ frs l) : (hidL h l cs).get? b = none := PySem.W.hideAll_none _ (List.mem_append_left _ hb)
theorem ExcT.traced {h : Heap} {l : List Env} (e : ExcT h x T C) : ∃ a0, h.TracedW (hidL h l [x, T]) x (.ref C) a0 := by
  obtain ⟨a0, oe, vs, oT, ts, e1, e2, e3, e4, e5, e6, e7, e8⟩ := e
  exact ⟨a0, oe, vs, T, oT, ts, e1, e2, e3, e4, hid_none (.tail _ (.head _)), e5, e6, e7, e8⟩
theorem leave_next (hfr : A.frames = some (env :: outer)) (hl : s.heap.FunFrames base (env :: outer)) (hf : env.frame = some L) (he : ExcT s.heap x T C)
    (h : ∀ h', Left2 (env :: outer) x [T] C s.heap h' → Q () { s with heap := h' }) : wpAny M A (leaving env (.ref x)) Q E s := by
  obtain ⟨a0, ht⟩ := he.traced (l := env :: outer)
  refine wpAny_leaving_nextW hfr (funs_rebase hl fun b hb => hid_fr hb) hf ht (fun b o hb => PySem.W.of_hideAll _ hb) (hid_none (.head _)) fun h' hL => h h' ?_
  obtain ⟨k1, _, k3, k4⟩ := hL
  exact left2_of hl k1 k3 k4
theorem leave_first (hfr : A.frames = some (env :: outer)) (hl : s.heap.FunFrames base (env :: outer)) (hf : env.frame = some L) (he : ExcN s.heap x C)
    (h : ∀ h', Left2 (env :: outer) x [] C s.heap h' → Q () { s with heap := h' }) : wpAny M A (leaving env (.ref x)) Q E s := by
  obtain ⟨a0, oe, vs, e1, ⟨e2, e2'⟩, e3, e4⟩ := he
  refine wpAny_leaving_firstW (base := hidL s.heap (env :: outer) [x]) hfr (funs_rebase hl fun b hb => hid_fr hb) hf e1 (fun b o hb => PySem.W.of_hideAll _ hb) (hid_none (.head _)) e3 e4 e2' fun h' hL => h h' ?_
  obtain ⟨k1, _, k3, k4⟩ := hL
  rw [e2] at k3
  exact left2_of hl k1 k3 k4
/-- the frame that catches notes itself, too -/
theorem note_next (hfr : A.frames = some (env :: outer)) (hl : s.heap.FunFrames base (env :: outer)) (hf : env.frame = some L) (he : ExcT s.heap x T C)
    (h : ∀ h', Left2 (env :: outer) x [T] C s.heap h' → Q () { s with heap := h' }) : wpAny M A (noteFrame (.ref x) env) (fun _ s₂ => wpAny M A (setFlight (.ref x) none) Q E s₂) E s := by
  obtain ⟨a0, ht⟩ := he.traced (l := env :: outer)
  refine wpAny_looks_onW hfr hf ⟨fun b o hb => PySem.W.of_hideAll _ hb, hid_none (.head _), funs_rebase hl fun b hb => hid_fr hb, ht⟩ fun h1 hh1 u1 => ?_
  refine wpAny_landsW hh1 fun h2 hh2 u2 => h h2 ?_
  exact left2_of hl hh2.1 hh2.2.2.2 (u1.trans u2)
theorem land_again {l : List Env} (hl : s.heap.FunFrames base l) (he : ExcT s.heap x T C)
    (h : ∀ h', Left2 l x [T] C s.heap h' → Q () { s with heap := h' }) : wpAny M A (setFlight (.ref x) none) Q E s := by
  obtain ⟨a0, ht⟩ := he.traced (l := l)
  refine lands_againW ⟨fun b o hb => PySem.W.of_hideAll _ hb, hid_none (.head _), funs_rebase hl fun b hb => hid_fr hb, ht⟩ fun h1 hh1 u1 => h h1 ?_
  exact left2_of hl hh1.1 hh1.2.2.2 u1
end

structure Up (X : Cx) (pins : List (Addr × Obj)) (σ : St) (H : Hp) (s : Shared) (x : Addr) (ts : List Addr) : Prop where
  inv : Inv X pins σ H s
  fx : H x = none
  fT : ∀ b ∈ ts, H b = none
  nx : X.s₀.heap.get? x = none
  nT : ∀ b ∈ ts, X.s₀.heap.get? b = none
  px : ∀ p ∈ X.pn ++ pins, p.1 ≠ x ∧ p.1 ∉ ts
section
variable {X : Cx} {pins : List (Addr × Obj)} {σ : St} {H H' : Hp} {s s' : Shared} {x T C : Addr} {ts : List Addr} {h' : Heap} {E : XK} {e : Value}
theorem Inv.fsF (I : Inv X pins σ H s) : ∀ b ∈ X.fs, H b = none := fun b hb => by
  obtain ⟨_, o, ho, _⟩ := I.ok.funs.mem hb
  exact I.base.free b o ho (I.ok.frf b hb) fun z => I.ok.exfs b z hb
theorem Inv.rec_ne (I : Inv X pins σ H s) {b : Addr} (r : IsRec s.heap b) : b ≠ X.env.locals ∧ (∀ y c, X.env.cells.lookup y = some c → c ≠ b) ∧ b ∉ frs X.stack ∧ b ∉ X.fs := by
  obtain ⟨o, vs, ho, hd⟩ := r
  refine ⟨fun z => ?_, fun y c e z => ?_, fun z => ?_, fun z => ?_⟩
  · obtain ⟨m, ⟨oL, es, ep, hoL, hdL, _⟩, _⟩ := I.loc
    rw [← z, ho] at hoL; cases hoL
    rw [hd] at hdL; cases hdL
  · obtain ⟨v, oc, hoc, hdc⟩ := I.cell y c e
    rw [z, ho] at hoc; cases hoc
    rw [hd] at hdc; cases hdc
  · obtain ⟨_, o', ho', hnf⟩ := I.stack.mem z
    rw [ho] at ho'; cases ho'
    exact hnf vs hd
  · obtain ⟨_, o', ho', hnf⟩ := I.funs.mem z
    rw [ho] at ho'; cases ho'
    exact hnf vs hd
theorem Inv.land {ch : List Addr} (I : Inv X pins σ H s)
    (hch : ∀ b ∈ ch, X.s₀.heap.get? b = none ∧ b ≠ X.env.locals ∧ (∀ x c, X.env.cells.lookup x = some c → c ≠ b) ∧ ∀ p ∈ X.pn ++ pins, p.1 ≠ b) (hfr : ∀ b ∈ ch, H b = none)
    (keep : ∀ b o, b ≠ X.env.locals → b ∉ X.fs → b ∉ ch → s.heap.get? b = some o → h'.get? b = some o)
    (slot : ∀ b o, b = X.env.locals ∨ b ∈ X.fs → s.heap.get? b = some o → ∃ sl, h'.get? b = some { o with slots := sl }) : Inv X pins σ H { s with heap := h' } := by
  have neL : ∀ b o, X.s₀.heap.get? b = some o → b ≠ X.env.locals := fun b o e => Nat.ne_of_lt (Nat.lt_of_lt_of_le (Heap.lt_size e) I.ok.above)
  have neC : ∀ b o, X.s₀.heap.get? b = some o → b ∉ ch := fun b o e hb => by rw [(hch b hb).1] at e; cases e
  have trk : ∀ b u o, H b = some u → s.heap.get? b = some o → h'.get? b = some o := fun b u o e q =>
    keep b o (fun z => by rw [z, I.free] at e; cases e) (fun z => by rw [I.fsF b z] at e; cases e) (fun z => by rw [hfr b z] at e; cases e) q
  have any : ∀ b o, b ∉ ch → s.heap.get? b = some o → ∃ sl, h'.get? b = some { o with slots := sl } := fun b o hb q => by
    by_cases z : b = X.env.locals ∨ b ∈ X.fs
    · exact slot b o z q
    · exact ⟨o.slots, keep b o (fun y => z (.inl y)) (fun y => z (.inr y)) hb q⟩
  have cellK : ∀ x c, X.env.cells.lookup x = some c → ∀ v, s.heap.IsCell c v → h'.IsCell c v := fun x c e v ⟨o, ho, hd⟩ => by
    obtain ⟨sl, q⟩ := any c o (fun z => (hch c z).2.2.1 x c e rfl) ho
    exact ⟨_, q, hd⟩
  refine ⟨I.ok, I.os, I.bare, ⟨fun b o e n hb hx => keep b o (neL b o e) hb (neC b o e) (I.base.keep b o e n hb hx), fun b o e n hb hx => ?_, I.base.free, fun b o e hx => ?_, I.base.tups, I.base.frzs, I.base.tbls⟩, ?_, fun x c e => ?_, I.free, I.freeC, fun p hp => ?_, fun a o e => ?_, I.len⟩
  · obtain ⟨sl, e1⟩ := I.base.slot b o e n hb hx
    obtain ⟨sl', e2⟩ := slot b _ (.inr hb) e1
    exact ⟨sl', e2⟩
  · obtain ⟨o', e1⟩ := I.base.there b o e hx
    obtain ⟨sl, q⟩ := any b o' (neC b o e) e1
    exact ⟨_, q⟩
  · obtain ⟨m, hn, hl⟩ := I.loc
    obtain ⟨oL, es, ep, ho, r⟩ := hn
    obtain ⟨sl, hL⟩ := slot _ oL (.inl rfl) ho
    refine ⟨m, ⟨_, es, ep, hL, r⟩, fun i x v e1 e2 e3 => ?_⟩
    obtain ⟨u, r, l⟩ := hl i x v e1 e2 e3
    refine ⟨u, r, ?_⟩
    rcases l with l | ⟨k, c, e, z⟩
    · exact .inl l
    · exact .inr ⟨k, c, e, cellK x c e _ z⟩
  · obtain ⟨v, z⟩ := I.cell x c e
    exact ⟨v, cellK x c e v z⟩
  · obtain ⟨e, n, ne, nf, d⟩ := I.pin p hp
    exact ⟨keep p.1 p.2 ne nf (fun z => (hch p.1 z).2.2.2 p hp rfl) e, n, ne, nf, d⟩
  · refine (I.hok a o e).stay (fun b u hb q => ?_) (fun _ q => q) fun _ _ q => q
    rcases hb with rfl | hb
    · exact trk _ _ _ e q
    · exact trk _ _ _ hb q

/-- the state behind such a step -/
theorem Up.land (U : Up X pins σ H s x ts) (hex : X.ex = []) (hd : ∀ b ∈ x :: ts, IsRec s.heap b) (F : Left2 X.stack x ts C s.heap h') : ∃ T, ExcT h' x T C ∧ Up X pins σ H { s with heap := h' } x [T] := by
  have I := U.inv
  have hch : ∀ b ∈ x :: ts, X.s₀.heap.get? b = none ∧ H b = none ∧ ∀ p ∈ X.pn ++ pins, p.1 ≠ b := fun b hb => by
    rcases List.mem_cons.mp hb with rfl | hb
    · exact ⟨U.nx, U.fx, fun p hp => (U.px p hp).1⟩
    · exact ⟨U.nT b hb, U.fT b hb, fun p hp z => (U.px p hp).2 (z ▸ hb)⟩
  have J : Inv X pins σ H { s with heap := h' } := by
    refine I.land (ch := x :: ts) (fun b hb => ⟨(hch b hb).1, (I.rec_ne (hd b hb)).1, (I.rec_ne (hd b hb)).2.1, (hch b hb).2.2⟩) (fun b hb => (hch b hb).2.1) (fun b o h1 h2 h3 q => ?_) (fun b o hb q => ?_)
    · exact F.keep b o (fun z => (List.mem_cons.mp (I.stkSub b z)).elim h1 h2) (fun z => h3 (z ▸ .head _)) (fun z => h3 (.tail _ z)) q
    · by_cases z : b ∈ frs X.stack
      · exact F.slot b o z q
      · have nr : b ∉ x :: ts := fun y => by
          obtain ⟨n1, _, _, n4⟩ := I.rec_ne (hd b y)
          exact hb.elim n1 n4
        exact ⟨o.slots, F.keep b o z (fun y => nr (y ▸ .head _)) (fun y => nr (.tail _ y)) q⟩
  obtain ⟨T, hT, hor⟩ := F.exc
  refine ⟨T, hT, J, U.fx, fun b hb => ?_, U.nx, fun b hb => ?_, fun p hp => ⟨(U.px p hp).1, fun hb => ?_⟩⟩
  · obtain rfl := List.mem_singleton.mp hb
    rcases hor with z | z
    · exact U.fT _ z
    · cases q : H b with
      | none => rfl
      | some u => obtain ⟨ob, e⟩ := (I.hok b u q).there; rw [z] at e; cases e
  · obtain rfl := List.mem_singleton.mp hb
    rcases hor with z | z
    · exact U.nT _ z
    · cases q : X.s₀.heap.get? b with
      | none => rfl
      | some o => obtain ⟨ob, e⟩ := I.base.there b o q (by rw [hex]; simp); rw [z] at e; cases e
  · have hb' := List.mem_singleton.mp hb
    rcases hor with z | z
    · exact (U.px p hp).2 (hb' ▸ z)
    · have e := (I.pin p hp).1
      rw [hb', z] at e; cases e

/-- how an error lies behind a call -/
def CXR (P : Program) (w : World) : CXT := fun outer H s E e s' => ∃ x T C H', e = .ref x ∧ s'.os = s.os ∧ AllBare s'.gens ∧ Un (frs outer) [] H H' s.heap s'.heap ∧ HOk P w H' s'.heap ∧ s.heap.get? x = none ∧ s.heap.get? T = none ∧
  H' x = none ∧ H' T = none ∧ ExcT s'.heap x T C ∧ E (.ref C) none H'
theorem raised_up (I : Inv X pins σ H s) (hex : X.ex = []) (h : CXR X.prog X.w X.stack H s E e s') : ∃ x T C H', e = .ref x ∧ ExcT s'.heap x T C ∧ Up X pins σ H' s' x [T] ∧ E (.ref C) none H' := by
  obtain ⟨x, T, C, H', rfl, os, bare, un, hok, nx, nT, fx, fT, he, q⟩ := h
  have nw : ∀ b, s.heap.get? b = none → X.s₀.heap.get? b = none := fun b n => by
    cases q : X.s₀.heap.get? b with
    | none => rfl
    | some o => obtain ⟨ob, e⟩ := I.base.there b o q (by rw [hex]; simp); rw [n] at e; cases e
  refine ⟨x, T, C, H', rfl, he, ⟨I.call' (ch := []) os un hok bare (fun b z => absurd z (by simp)), fx, fun b hb => ?_, nw _ nx, fun b hb => ?_, fun p hp => ⟨fun z => ?_, fun z => ?_⟩⟩, q⟩
  · obtain rfl := List.mem_singleton.mp hb
    exact fT
  · obtain rfl := List.mem_singleton.mp hb
    exact nw _ nT
  · have e := (I.pin p hp).1
    rw [z, nx] at e; cases e
  · have e := (I.pin p hp).1
    rw [List.mem_singleton.mp z, nT] at e; cases e
end

/-- an error made here may leave the body -/
def Lets (X : Cx) (E : XK) : Prop := ∀ (pins : List (Addr × Obj)) (σ : St) (H : Hp) (s : Shared) (x C : Addr), Up X pins σ H s x [] → ExcN s.heap x C → E (.ref C) none H → X.xe (.ref x) s
section
variable {P : Program} {w : World} {K : PySem.W.Frag} {mg : Str → Option Value} {base : Heap} {N : List Str} {qual : Str} {scope : Scope} {f : Addr} {cd : Value} {A : Around} {outer : List Env} {s : Shared} {H : Hp} {E : XK}
theorem cxr_of {pins : List (Addr × Obj)} {σ : St} {H' : Hp} {s' : Shared} {x T C : Addr} (U : Up (cxOf (CXR P w) P w K mg base N qual scope f cd A outer s H E) pins σ H' s' x [T]) (he : ExcT s'.heap x T C) (q : E (.ref C) none H') :
    CXR P w outer H s E (.ref x) s' :=
  ⟨x, T, C, H', rfl, U.inv.os, U.inv.bare, U.inv.base, U.inv.hok, U.nx, U.nT T (.head _), U.fx, U.fT T (.head _), he, q⟩
theorem passR : Passes (CXR P w) (cxOf (CXR P w) P w K mg base N qual scope f cd A outer s H E) E := fun pins σ H1 s1 e s' I h => by
  obtain ⟨x, T, C, H', rfl, he, U, q⟩ := raised_up I rfl h
  refine leave_next (L := s.heap.objs.size) (outer := outer) U.inv.ok.frames U.inv.stack rfl he fun h' F => ?_
  obtain ⟨T', he', U'⟩ := U.land rfl he.recs F
  exact cxr_of U' he' q
theorem letsR : Lets (cxOf (CXR P w) P w K mg base N qual scope f cd A outer s H E) E := fun pins σ H' s' x C U he q => by
  refine leave_first (L := s.heap.objs.size) (outer := outer) U.inv.ok.frames U.inv.stack rfl he fun h' F => ?_
  obtain ⟨T', he', U'⟩ := U.land rfl he.recs F
  exact cxr_of U' he' q
/-- THE RULE for a def that raises -/
theorem Fun.okR {x qual : Str} {st : Stmt} {f : Addr} {fd : FuncData} {N ps : List Str} {k : Nat} {sp : Sp} (F : Fun K x qual st f fd) (S : FnScope N ps (defScope st)) (len : ∀ vs H Q E, sp vs H Q E → vs.length = ps.length)
    (hbody : ∀ (cdv : Value) (A : Around) (outer : List Env) (s : Shared) (H : Hp) (vs : List V) (Q : VK) (E : XK), Room k (A.deeper (envOfC qual (defScope st) s.heap.objs.size f cdv)) → sp vs H Q E →
      ∃ t, PSs (cxOf (CXR P w) P w K mg base N qual (defScope st) f cdv A outer s H E) (defBody st) t ∧ t { nx := fun _ H' => Q .non H', rt := Q } (start N vs) H) : FnOk P w K mg base (CXR P w) (k + 1) f fd ps sp := by
  obtain ⟨oc, od, kV, doc, pm, an, cdv, ct, osl, rfl, lk, hcd⟩ := F.ex
  exact fn_of lk hcd S len fun A outer s H vs Q E hr hsp => hbody cdv A outer s H vs Q E hr hsp
end

abbrev bmV : List Value := [.type "ValueError", .type "Exception", .type "BaseException", .type "object"]
abbrev newV : String := "ValueError.__new__"
theorem exc_obj {K : PySem.W.Frag} {h : Heap} {C : Addr} {bmB : List Value} {newId : String} (X : K.In h) (q : PySem.W.excIn K C bmB newId = true) :
    ∃ bm N nm qn bs hdct sn sub ab col dd k0 k1 k2 k3 k5 mN, h.get? C = some (excClassObj nm qn C N bs bm hdct sn sub ab col dd k0 k1 k2 k3 k5 newId) ∧ h.Ns N mN ∧ mN "__init__" = none ∧ OwnTail h bmB bm := by
  unfold PySem.W.excIn at q
  split at q
  · rename_i dd cd sl ho
    split at q
    · rename_i C' bm k0 k1 k2 k3 n k5 hm hs
      simp only [Bool.and_eq_true, beq_iff_eq, Bool.not_eq_true'] at q
      obtain ⟨⟨⟨⟨⟨rfl, rfl⟩, hdel⟩, ht⟩, hok⟩, hni⟩ := q
      obtain ⟨nm, bs, mro, ns, qn, hd, sn, sub, ab, col, del⟩ := cd
      dsimp only at hm hdel hok hni
      subst hm hdel
      have hsl : sl = #[k0, k1, k2, k3, some (.builtin n), k5] := by
        obtain ⟨l⟩ := sl
        simp only at hs
        rw [hs]
      subst hsl
      exact ⟨bm, ns, nm, qn, bs, hd, sn, sub, ab, col, dd, k0, k1, k2, k3, k5, _, X _ _ ho, .of_isNs (PySem.W.isNs_of_in X hok), PySem.W.nsMap_none_of_in X hok hni, PySem.W.tail_of_in X ht⟩
    · cases q
  · cases q
section
variable {X : Cx} {E : XK} {C : Addr} {x : Str} {np cpos pos : Pos} {e : Expr} {es : List Expr} {ta : TA}
def tRaise (C : Addr) (E : XK) (ta : TA) : TS := fun _ σ H => ta σ H fun vs H1 => vs.length ≤ sizeLine ∧ E (.ref C) none H1
theorem Inv.madeExc {pins : List (Addr × Obj)} {σ : St} {H : Hp} {s : Shared} {h' : Heap} {e : Addr} {us : List Value} (I : Inv X pins σ H s) (hex : X.ex = []) (m : Heap.MadeExcOf s.heap h' e (.ref C) us) : Up X pins σ H { s with heap := h' } e [] ∧ ExcN h' e C := by
  obtain ⟨t, ht, _, _⟩ := m.there
  refine ⟨⟨I.un (t' := s.toks) (Un.kept m.keeps) (I.hok.kept m.keeps), ?_, fun b hb => absurd hb (by simp), ?_, fun b hb => absurd hb (by simp), fun p hp => ⟨fun z => ?_, by simp⟩⟩, ⟨_, _, _, ht, ⟨rfl, rfl⟩, rfl, rfl⟩⟩
  · cases q : H e with
    | none => rfl
    | some u => obtain ⟨ob, e1⟩ := (I.hok e u q).there; rw [m.new] at e1; cases e1
  · cases q : X.s₀.heap.get? e with
    | none => rfl
    | some o => obtain ⟨ob, e1⟩ := I.base.there e o q (by rw [hex]; simp); rw [m.new] at e1; cases e1
  · have e1 := (I.pin p hp).1
    rw [z, m.new] at e1; cases e1
theorem ps_raise (hL : Lets X E) (hex : X.ex = []) (hcalm : X.calm = true) (hq : PySem.W.excIn X.K C bmV newV = true) (hg : Gl X x) (hm : X.mg x = some (.ref C)) (ha : PA X (e :: es) ta)
    (hdb : (x == ("__debug__" : Str)) = false := by decide) (he : starEach (e :: es) X.env = (false, eval e X.env) :: starEach es X.env := by rfl) (hpl : (backTo cpos (starEach es X.env)).any (·.1) = false := by rfl) :
    PS X (.Raise (some (.Call (.Name x np) (e :: es) [] cpos)) none pos) (tRaise C E ta) := by
  intro pins s σ H D I h
  obtain ⟨bm, N, nm, qn, bs, hdct, sn, sub, ab, col, dd, k0, k1, k2, k3, k5, mN, hC, hN, hni, T⟩ := exc_obj I.mod.kin hq
  have Fb := PySem.F.excBase_ValueError
  refine wpAny_Raise_call_subU (C := C) (nm := nm) (q := qn) (N := N) (bs := bs) (bm := bm) (hdct := hdct) (sn := sn) (sub := sub) (ab := ab) (col := col) (dd := dd) (k0 := k0) (k1 := k1) (k2 := k2) (k3 := k3) (k5 := k5)
    Fb (by decide +kernel) Fb (mN := mN) (T.hasType Fb.hasBase) (I.ok.hd hcalm) (by rw [he]; show (false || (backTo cpos (starEach es X.env)).any (·.1)) = false; rw [hpl]; rfl) hni (ld_glob I hg hm ⟨rfl, ?_⟩ hdb)
  have h0 := ha cpos pins s σ H _ I h
  rw [he] at h0 ⊢
  refine Calls.evalArgs_plain (thn h0 fun us s2 ⟨vs, H2, I2, r, z, q⟩ => ⟨rfl, by rw [← r.length]; exact z, I2.bk _ _ hC, hN.keeps I2.bk, T.keeps I2.bk, fun h' e' m => ?_⟩)
  obtain ⟨U, hn⟩ := I2.madeExc hex m
  exact hL pins σ H2 _ e' C U hn q
end

abbrev TXs := Ends → (St → Hp → Addr → Prop) → St → Hp → Prop
abbrev TXe := St → Hp → VK → (Hp → Addr → Prop) → Prop
def XP (X : Cx) (pins : List (Addr × Obj)) (Ex : St → Hp → Addr → Prop) (e : Value) (s' : Shared) : Prop := ∃ x T C σ' H', e = .ref x ∧ ExcT s'.heap x T C ∧ Up X pins σ' H' s' x [T] ∧ Ex σ' H' C
def PSx (X : Cx) (sts : List Stmt) (t : TXs) : Prop :=
  ∀ (pins : List (Addr × Obj)) (s : Shared) (σ : St) (H : Hp) (D : Ends) (Ex : St → Hp → Addr → Prop), Inv X pins σ H s → t D Ex σ H → wpAny (model X.prog X.w) X.A (execs sts X.env) (SP X pins D) (XP X pins Ex) s
def PSx1 (X : Cx) (st : Stmt) (t : TXs) : Prop :=
  ∀ (pins : List (Addr × Obj)) (s : Shared) (σ : St) (H : Hp) (D : Ends) (Ex : St → Hp → Addr → Prop), Inv X pins σ H s → t D Ex σ H → wpAny (model X.prog X.w) X.A (exec st X.env) (SP X pins D) (XP X pins Ex) s
def PEx (X : Cx) (e : Expr) (t : TXe) : Prop :=
  ∀ (pins : List (Addr × Obj)) (s : Shared) (σ : St) (H : Hp) (Q : VK) (Ex : Hp → Addr → Prop), Inv X pins σ H s → t σ H Q Ex → wpAny (model X.prog X.w) X.A (eval e X.env) (EP X pins σ Q) (XP X pins fun σ' H' C => σ' = σ ∧ Ex H' C) s
section
variable {X : Cx} {pos : Pos}
theorem psx_one {st : Stmt} {t : TXs} (h : PSx1 X st t) : PSx X [st] t := by
  intro pins s σ H D Ex I q
  refine wpAny_execs_cons (wpAny_mono (h pins s σ H D Ex I q) (fun f s1 z => ?_) fun _ _ z => z)
  cases f with
  | next => exact wpAny_execs_nil z
  | ret v => exact z
  | brk => exact z
  | cont => exact z
def tXif (c : TT) (t u : TXs) : TXs := fun D Ex σ H => c σ H fun b H1 => if b = true then t D Ex σ H1 else u D Ex σ H1
theorem psx_if {c : Expr} {a b : List Stmt} {tc : TT} {t u : TXs} (hc : PT X.nox c tc) (ha : PSx X a t) (hb : PSx X b u) : PSx1 X (.If c a b pos) (tXif tc t u) := by
  intro pins s σ H D Ex I h
  refine wpAny_If (wpAny_mono (hc pins s σ H _ (I.wish _) h) (fun d s1 ⟨H1, I1, q1⟩ => ?_) fun _ _ z => False.elim z)
  cases d with
  | true => exact ha pins s1 σ H1 D Ex I1.unwish q1
  | false => exact hb pins s1 σ H1 D Ex I1.unwish q1
end

def IsExc (x C : Addr) (h : Heap) : Prop := ∃ o vs, h.get? x = some o ∧ o.cls = .ref C ∧ o.data = .fields vs
abbrev excO (x C : Addr) : HO := .ext (IsExc x C)
theorem excO_ok {P : Program} {w : World} {H : Hp} {h : Heap} {x C : Addr} (e : IsExc x C h) : ObjOk P w H h x (excO x C) := by
  obtain ⟨o, vs, h1, h2, h3⟩ := id e
  exact ⟨e, ⟨o, h1⟩, fun a b ⟨o, vs, h1, h2, h3⟩ k => ⟨o, vs, k o h1, h2, h3⟩⟩
theorem ExcT.isExc {h : Heap} {x T C : Addr} (e : ExcT h x T C) : IsExc x C h := by
  obtain ⟨_, oe, vs, _, _, e1, ⟨e2, _⟩, e3, _⟩ := e
  exact ⟨oe, vs, e1, e2, e3⟩
section
variable {X : Cx} {pins : List (Addr × Obj)} {σ : St} {H : Hp} {s : Shared} {x T C : Addr} {ts : List Addr}
theorem Up.adopt (U : Up X pins σ H s x ts) {o : HO} (hr : IsRec s.heap x) (new : ObjOk X.prog X.w (upd H x o) s.heap x o) : Inv X pins σ (upd H x o) s := by
  have I := U.inv
  obtain ⟨n1, n2, n3, n4⟩ := I.rec_ne hr
  have nn : ∀ b u, H b = some u → b ≠ x := fun b u e z => by rw [z, U.fx] at e; cases e
  refine ⟨I.ok, I.os, I.bare, ⟨I.base.keep, I.base.slot, fun b ob e n hx => ?_, I.base.there, fun b xs e => ?_, fun b ob u e => ?_, fun b ps e => ?_⟩, I.loc, I.cell, ?_, fun y c e => ?_, fun p hp => ?_, fun b u e => ?_, I.len⟩
  · have : b ≠ x := fun z => by rw [z, U.nx] at e; cases e
    rw [upd_ne this]; exact I.base.free b ob e n hx
  · have q := I.base.tups b xs e
    rw [upd_ne (nn _ _ q)]; exact q
  · have q := I.base.frzs b ob u e
    rw [upd_ne (nn _ _ q)]; exact q
  · obtain ⟨m, q⟩ := I.base.tbls b ps e
    exact ⟨m, by rw [upd_ne (nn _ _ q)]; exact q⟩
  · rw [upd_ne n1.symm]; exact I.free
  · rw [upd_ne (n2 y c e)]; exact I.freeC y c e
  · obtain ⟨e, n, ne, nf, d⟩ := I.pin p hp
    exact ⟨e, by rw [upd_ne (U.px p hp).1]; exact n, ne, nf, d⟩
  · by_cases hb : b = x
    · subst hb; rw [upd_same] at e; cases e; exact new
    · rw [upd_ne hb] at e
      refine (I.hok b u e).stay (fun c v _ q => q) (fun c q => by rw [upd_ne (nn _ _ q)]; exact q) fun c xs q => by rw [upd_ne (nn _ _ q)]; exact q
/-- the name of the caught error goes -/
theorem goes_ok {M : Model} {A : Around} {E : Value → Shared → Prop} {i : Nat} {n : Str} {pos : Pos} {Q : Unit → Shared → Prop} (I : Inv X pins σ H s) (hN : X.N.Nodup) (hi : X.N[i]? = some n) (hk : X.env.kindOf n = some .local)
    (h : ∀ s', Inv X pins (σ.set i none) H s' → Q () s') : wpAny M A (do bindName X.env n .none; unbindBehindTheSuite X.env n pos) Q E s := by
  obtain ⟨m, hn, hl⟩ := id I.loc
  have hcls : (X.env.scope.kind == .class || (X.env.scope.kind == .module && X.env.locals != X.env.globals)) = false := by rw [I.ok.kind]; rfl
  have hiσ : i < σ.length := by rw [I.len]; exact (List.getElem?_eq_some_iff.mp hi).1
  have cne := I.cne
  refine wpAny_nameGoes_keeps hk hn hcls (fun h' v hn' hs => ?_)
  refine h _ ⟨I.ok, I.os, I.bare, ⟨fun b o e n hb hx => ?_, fun b o e n hb hx => ?_, I.base.free, fun b o e hx => ?_, I.base.tups, I.base.frzs, I.base.tbls⟩, ⟨_, hn', fun j y v' e1 e2 e3 => ?_⟩, fun y c e => ?_, I.free, I.freeC, fun p hp => ?_, fun b ob e => ?_, by simpa using I.len⟩
  · exact (hs.2 b (Nat.ne_of_lt (Nat.lt_of_lt_of_le (Heap.lt_size e) I.ok.above))).trans (I.base.keep b o e n hb hx)
  · obtain ⟨sl, e1⟩ := I.base.slot b o e n hb hx
    exact ⟨sl, (hs.2 b (Nat.ne_of_lt (Nat.lt_of_lt_of_le (Heap.lt_size e) I.ok.above))).trans e1⟩
  · obtain ⟨o', e1⟩ := I.base.there b o e hx
    exact ⟨o', (hs.2 b (Nat.ne_of_lt (Nat.lt_of_lt_of_le (Heap.lt_size e) I.ok.above))).trans e1⟩
  · by_cases hj : j = i
    · subst hj
      rw [List.getElem?_set_self hiσ] at e2
      cases e2
    · rw [List.getElem?_set_ne (Ne.symm hj)] at e2
      obtain ⟨u', r', q⟩ := hl j y v' e1 e2 e3
      refine ⟨u', r', ?_⟩
      rcases q with ⟨k, e⟩ | ⟨k, c, e, z⟩
      · refine .inl ⟨k, ?_⟩
        have : y ≠ n := fun e => hj (nodup_ix hN e1 (e ▸ hi))
        simp [this, e]
      · exact .inr ⟨k, c, e, z.sameBut hs (cne y c e)⟩
  · obtain ⟨w', z⟩ := I.cell y c e
    exact ⟨w', z.sameBut hs (cne y c e)⟩
  · obtain ⟨e, n, ne, nf, d⟩ := I.pin p hp
    exact ⟨(hs.2 p.1 ne).trans e, n, ne, nf, d⟩
  · refine (I.hok b ob e).stay (fun c w' hc q => (hs.2 c ?_).trans q) (fun _ q => q) fun _ _ q => q
    rintro rfl
    rcases hc with hc | hc
    · rw [← hc, I.free] at e; cases e
    · rw [I.free] at hc; cases hc
end

abbrev Cx.suite (X : Cx) (e : Value) : Cx := { X with A := X.A.mark (some e), calm := false, xe := fun _ _ => False }
section
variable {X : Cx} {pins : List (Addr × Obj)} {σ : St} {H : Hp} {s : Shared} {e : Value}
theorem Inv.suite (I : Inv X pins σ H s) (e : Value) : Inv (X.suite e) pins σ H s :=
  ⟨⟨I.ok.mod, I.ok.kind, I.ok.glob, I.ok.blt, I.ok.above, I.ok.inj, I.ok.has, I.ok.cab, fun z => Bool.noConfusion z, I.ok.frames, I.ok.stk, I.ok.exf, I.ok.bs, I.ok.bsz, I.ok.noex, I.ok.exfs, I.ok.funs, I.ok.frf⟩, I.os, I.bare, I.base, I.loc, I.cell, I.free, I.freeC, I.pin, I.hok, I.len⟩
theorem Inv.unsuite (I : Inv (X.suite e) pins σ H s) (ok : X.Ok) : Inv X pins σ H s := ⟨ok, I.os, I.bare, I.base, I.loc, I.cell, I.free, I.freeC, I.pin, I.hok, I.len⟩
def tTry (K : PySem.W.Frag) (B : Addr) (i : Nat) (tb : TXs) (ts : TS) : TS := fun D σ H => tb D (fun σ' H' C => PySem.W.exmOne K (.ref C) (.ref B) = some true ∧ ∀ x, H' x = none →
  ts { nx := fun σ2 H2 => D.nx (σ2.set i none) H2, rt := D.rt, bk := fun σ2 H2 => D.bk (σ2.set i none) H2, ct := fun σ2 H2 => D.ct (σ2.set i none) H2 } (σ'.set i (some (.ref x))) (upd H' x (excO x C))) σ H
theorem ps_try {body : List Stmt} {b₀ : Stmt} {su : List Stmt} {cn n : Str} {np hp pos : Pos} {B : Addr} {i : Nat} {tb : TXs} {ts : TS} (hex : X.ex = []) (hb : PSx X body tb) (hs : ∀ e, PSs (X.suite e) (b₀ :: su) ts)
    (hg : Gl X cn) (hm : X.mg cn = some (.ref B)) (hN : X.N.Nodup) (hi : X.N[i]? = some n) (hk : X.env.kindOf n = some .local) (hst : X.stack = X.env :: X.outer) (hfr : X.env.frame = some X.env.locals)
    (hdb : (cn == ("__debug__" : Str)) = false := by decide) :
    PS X (.Try body [.ExceptHandler (some (.Name cn np)) (some n) (b₀ :: su) hp] [] [] pos) (tTry X.K B i tb ts) := by
  intro pins s σ H D I h
  refine wpAny_Try_except (wpAny_mono (hb pins s σ H D _ I h) (fun f s1 z => ?_) fun e s1 z => ?_)
  · cases f with
    | next => exact wpAny_execs_nil z
    | ret v => exact z
    | brk => exact z
    | cont => exact z
  obtain ⟨x, T, C, σ', H', rfl, he, U, hm1, q⟩ := z
  have fr : X.A.frames = some (X.env :: X.outer) := by rw [← hst]; exact I.ok.frames
  have sk1 : s1.heap.FunFrames X.base (X.env :: X.outer) := by rw [← hst]; exact U.inv.stack
  refine note_next (L := X.env.locals) (outer := X.outer) fr sk1 hfr he fun h2 F2 => ?_
  rw [← hst] at F2
  obtain ⟨T2, he2, U2⟩ := U.land hex he.recs F2
  have I2 := U2.inv
  refine wpAny_handleBy_cons (codeAny_handlers_test (wpAny_mono (Q := fun c s => c = .ref B ∧ s = { s1 with heap := h2 }) (E := fun _ _ => False) (show wpAny (model X.prog X.w) (X.A.mark (some (.ref x))) (eval (.Name cn np) X.env) _ _ _ from ld_glob (X := X.suite (.ref x)) (I2.suite _) hg hm ⟨rfl, rfl⟩ hdb) (fun c s3 ⟨e1, e2⟩ => ?_) fun _ _ z => False.elim z)) (by intro q; cases q)
  subst e1 e2
  have LT : PySem.W.Looks (model X.prog X.w) h2 (typeOf (.ref x)) (.ref C) := by
    obtain ⟨o, vs, e1, e2, _⟩ := he2.isExc
    exact e2 ▸ (PySem.W.Looks.ld e1).andThen .now
  refine (PySem.W.exm_one I2.kIn LT hm1).at ?_
  refine codeAny_handlers_suite_as ?_
  have sk2 : h2.FunFrames X.base X.stack := I2.stack
  refine land_again (s := { s1 with heap := h2 }) sk2 he2 fun h3 F3 => ?_
  obtain ⟨T3, he3, U3⟩ := U2.land hex he2.recs F3
  have I3 := U3.adopt (he3.recs x (.head _)) (excO_ok he3.isExc)
  refine store_ok (X := X.suite (.ref x)) (v := .ref x) (I3.suite _) hN hi (.inl hk) rfl (fun s4 I4 => ?_) (.inr hk)
  refine wpAny_mono (hs (.ref x) pins s4 _ _ _ I4 (q x U3.fx)) (fun f s5 z => ?_) fun _ _ z => False.elim z
  have ok := I.ok
  cases f with
  | next =>
    obtain ⟨σ6, H6, I6, q6⟩ := z
    exact goes_ok (I6.unsuite ok) hN hi hk fun s7 I7 => ⟨_, H6, I7, q6⟩
  | ret u =>
    obtain ⟨v, σ6, H6, I6, r6, q6⟩ := z
    exact goes_ok (I6.unsuite ok) hN hi hk fun s7 I7 => ⟨v, _, H6, I7, r6, q6⟩
  | brk =>
    obtain ⟨σ6, H6, I6, q6⟩ := z
    exact goes_ok (I6.unsuite ok) hN hi hk fun s7 I7 => ⟨_, H6, I7, q6⟩
  | cont =>
    obtain ⟨σ6, H6, I6, q6⟩ := z
    exact goes_ok (I6.unsuite ok) hN hi hk fun s7 I7 => ⟨_, H6, I7, q6⟩
end
end L2

namespace L2
open PySem PySem.Spec PyProof.Rows
section
variable {X : Cx} {x : Str} {st : Stmt} {ps : List Str} {k : Nat} {sp : Sp} {p pos : Pos} {e : Expr} {es : List Expr} {t : TA} {E : XK}
/-- a call that raises, in a body that lets it pass -/
theorem pe_dfR (d : Df X.K X.mg x st ps) (G : FnOk X.prog X.w X.K X.mg X.base (CXR X.prog X.w) k d.f d.fd ps sp) (hr : Room k X.A) (hg : Gl X x) (hx : Passes (CXR X.prog X.w) X E) (ha : PA X (e :: es) t) (hn : isStar e = false := by rfl) (hall : es.all (fun e => !isStar e) = true := by rfl) (hdb : (x == ("__debug__" : Str)) = false := by decide) :
    PE X (.Call (.Name x p) (e :: es) [] pos) (tCall sp [] E t) := pe_call G hr hg d.nm d.fn.kp d.bd .nil hx ha hdb (star_cons hn) (star_any hall)
theorem ps_raiseF {C : Addr} {np cpos : Pos} (hL : Lets X E) (hex : X.ex = []) (hcalm : X.calm = true) (hq : PySem.W.excIn X.K C bmV newV = true) (hg : Gl X x) (hm : X.mg x = some (.ref C)) (ha : PA X (e :: es) t) (hn : isStar e = false := by rfl) (hall : es.all (fun e => !isStar e) = true := by rfl)
    (hdb : (x == ("__debug__" : Str)) = false := by decide) : PS X (.Raise (some (.Call (.Name x np) (e :: es) [] cpos)) none pos) (tRaise C E t) := ps_raise hL hex hcalm hq hg hm ha hdb (star_cons hn) (star_any hall)
end
section
variable {K : PySem.W.Frag} {B C : Addr} {i : Nat} {tb t u : TXs} {ts : TS} {D : Ends} {σ : St} {H : Hp} {c : TT} {te : TXe} {sp : Sp} {ta : TA} {Q : VK} {Ex : St → Hp → Addr → Prop} {Eh : Hp → Addr → Prop} {E : XK}
theorem r_try (h : tb D (fun σ' H' C => PySem.W.exmOne K (.ref C) (.ref B) = some true ∧ ∀ x, H' x = none →
  ts { nx := fun σ2 H2 => D.nx (σ2.set i none) H2, rt := D.rt, bk := fun σ2 H2 => D.bk (σ2.set i none) H2, ct := fun σ2 H2 => D.ct (σ2.set i none) H2 } (σ'.set i (some (.ref x))) (upd H' x (excO x C))) σ H) : tTry K B i tb ts D σ H := h
theorem r_Xif (h : c σ H fun b H1 => if b = true then t D Ex σ H1 else u D Ex σ H1) : tXif c t u D Ex σ H := h
theorem r_raise (h : ta σ H fun vs H1 => vs.length ≤ sizeLine ∧ E (.ref C) none H1) : tRaise C E ta D σ H := h
end

structure ExcCls (K : PySem.W.Frag) (C : Addr) : Prop where
  cls : PySem.W.isClsIn K C = true
  ga : PySem.W.findIn K (.ref C) "__getattribute__" = some (some (.builtin "BaseException.__getattribute__"))
  gt : PySem.W.findIn K (.ref C) "__getattr__" = some none
  kc : PySem.W.findIn K (.ref C) "__class__" = some (some (.builtin "object.__class__"))
  gg : PySem.W.specialIn K (.builtin "object.__class__") "__get__" = some (some (.builtin "getset_descriptor.__get__"))
  tk : PySem.W.takesIn K (.builtin "object.__class__") = some true
  ob : PySem.W.mroIn K C (.type "object") = some true
  be : PySem.W.mroIn K C (.type "BaseException") = some true
section
open PySem.Calls PySem.Builtin PySem.Builtin.ObjectAttr PySem.Builtin.Getset_descriptor
variable {prog : Program} {w : World} {A : Around} {E : Value → Shared → Prop} {K : PySem.W.Frag} {x C : Addr} {h : Heap} {g : Array GenState} {d : Drawn} {t : Nat} {os : OsState}
theorem exc_ty {M : Model} (e : IsExc x C h) : PySem.W.Looks M h (typeOf (.ref x)) (.ref C) := by
  obtain ⟨o, vs, e1, e2, _⟩ := e
  exact e2 ▸ (PySem.W.Looks.ld e1).andThen .now
theorem exc_find {M : Model} (X : K.In h) (c : ExcCls K C) : PySem.W.Looks M h (find (.ref x) (.ref C) "__class__") (.bind (.builtin "getset_descriptor.__get__") (.builtin "object.__class__")) := by
  have L1 := PySem.W.looks_findIn (M := M) X c.kc
  have L2 : PySem.W.Looks M h (getOf (some (.builtin "object.__class__"))) (some (.builtin "getset_descriptor.__get__")) := PySem.W.looks_specialIn X c.gg
  have L3 := PySem.W.looks_takesIn (M := M) X c.tk
  exact L1.andThen (L2.andThen ((show PySem.W.Looks M h (dataDescriptor? (some (.builtin "object.__class__")) (some (.builtin "getset_descriptor.__get__"))) (some (.builtin "getset_descriptor.__get__", .builtin "object.__class__")) from L3.andThen .now).andThen (PySem.W.Looks.tag .now)))
theorem exc_class_get {R : Result → Shared → Prop} {tp : Value} (X : K.In h) (c : ExcCls K C) (e : IsExc x C h) (hq : R (.ok (.ret (.ref C))) ⟨h, g, d, t, os⟩) :
    codeAny (model prog w) A (.call (.builtin "getset_descriptor.__get__") ⟨[.builtin "object.__class__", .ref x, tp], []⟩) R ⟨h, g, d, t, os⟩ := by
  have L0 := exc_ty (M := model prog w) e
  have L1 := PySem.W.looks_mroIn (M := model prog w) X c.ob
  refine codeAny_call_builtin PySem.W.KF.slot_gs.plain PySem.W.KF.entry_gs (PySem.W.KF.slot_gs.check _ _ _ _ _ _ _ _ PySem.W.KF.type_class (PySem.W.KF.args_gs _ _ _) ?_)
  unfold Builtin.«getset_descriptor.__get__» descrGet
  rw [PySem.W.dga_obj]
  refine wpAny_bind (wpAny_pure ?_)
  unfold descrGetter descrCheckInstance descrNameAndClass isInstance
  simp only [PySem.W.KF.owner_class]
  repeat lk
  refine ⟨Code.quiet_builtin _ (by decide +kernel), codeAny_builtin PySem.W.KF.entry_class ?_⟩
  unfold Builtin.«object.__class__» shownTypeOf
  repeat lk
  exact hq
theorem exc_check {M : Model} {nameV : Value} {Q : Unit → Shared → Prop} (X : K.In h) (c : ExcCls K C) (e : IsExc x C h) (hq : Q () ⟨h, g, d, t, os⟩) : wpAny M A (checkBuiltinCall "BaseException.__getattribute__" ⟨[.ref x, nameV], []⟩) Q E ⟨h, g, d, t, os⟩ := by
  have hk : builtinKind "BaseException.__getattribute__" = some .slot := by decide +kernel
  have hsplit : splitId "BaseException.__getattribute__" = some ("BaseException", "__getattribute__") := by decide +kernel
  have ha := F.args_bexc_ga (.ref x) nameV
  have L0 := exc_ty (M := M) e
  have L1 := PySem.W.looks_mroIn (M := M) X c.be
  simp only [checkBuiltinCall, hk, hsplit]
  refine wpAny_bind ?_
  have L2 : PySem.W.Looks M h (isInstance (.ref x) (.type "BaseException")) true := L0.andThen L1
  refine L2.at ?_
  repeat (first | assumption | wp_step)
theorem exc_entry {tk : Tok} {Q : Fin → Shared → Prop} (X : K.In h) (c : ExcCls K C) (e : IsExc x C h) (hq : Q (.done (.ret (.ref C))) ⟨h, g, d, t, os⟩) :
    wpAny (model prog w) A (Builtin.«object.__getattribute__» ⟨[.ref x, .str "__class__" tk], []⟩) Q E ⟨h, g, d, t, os⟩ := by
  have L0 := exc_ty (M := model prog w) e
  have L1 := exc_find (M := model prog w) (x := x) X c
  repeat (any_goals (first | assumption | with_reducible refine PySem.W.Looks.at (by assumption) ?_ | wp_step))
  refine exc_class_get X c e ?_
  repeat (any_goals (first | assumption | wp_step))
theorem exc_call {tk : Tok} {R : Result → Shared → Prop} (X : K.In h) (c : ExcCls K C) (e : IsExc x C h) (hq : R (.ok (.ret (.ref C))) ⟨h, g, d, t, os⟩) :
    codeAny (model prog w) A (.call (.builtin "BaseException.__getattribute__") ⟨[.ref x, .str "__class__" tk], []⟩) R ⟨h, g, d, t, os⟩ :=
  codeAny_call_builtin F.attrBase_ValueError.ga.plain F.entry_bexc_ga (exc_check X c e (exc_entry X c e hq))
theorem exc_class {Q : Option Value → Shared → Prop} (X : K.In h) (c : ExcCls K C) (e : IsExc x C h) (hq : Q (some (.ref C)) ⟨h, g, d, t + 1, os⟩) : wpAny (model prog w) A (getAttr? (.ref x) "__class__") Q E ⟨h, g, d, t, os⟩ := by
  have L0 := exc_ty (M := model prog w) e
  have L1 := PySem.W.looks_findIn (M := model prog w) X c.ga
  have L2 := PySem.W.looks_findIn (M := model prog w) X c.gt
  have f3 := F.attrBase_ValueError.ga.bind (.ref x)
  unfold getAttr? getAttrBy? getAttrBy
  refine wpAny_bind (wpAny_mkText (wpAny_bind (wpAny_attempt (wpAny_holding (wpAny_bind (L0.at (wpAny_bind (L1.at ?_))))))))
  show wpAny _ _ (getAttrByItsOwn _ _ _ _ _ _) _ _ _
  unfold getAttrByItsOwn hookBefore
  refine wpAny_bind ?_
  rw [if_pos (by rfl)]
  refine L2.at ?_
  refine wpAny_bind (wpAny_attempt (wpAny_holding ?_))
  unfold callGetattribute
  repeat (any_goals (first | assumption | wp_step))
  refine exc_call X c e ?_
  repeat (any_goals (first | assumption | wp_step))
theorem kitx_exc (c : ExcCls K C) : PySem.W.KitX K (.ref x) (.ref C) (IsExc x C) where
  ty := fun _ _ _ e => exc_ty e
  it := fun M h X e => by
    have hc : (PySem.W.clsIn K C).isSome = true := c.cls
    unfold PySem.W.clsIn at hc
    split at hc
    · rename_i ho
      intro A' Q' E' s' k q
      unfold isType loadHead
      exact wpAny_bind (wpAny_loadPart (k _ _ (X _ _ ho)) (wpAny_pure q))
    · cases hc
  ne := fun h tp dd its n sl X htp => by
    refine Bool.eq_false_iff.mpr fun q => ?_
    have e : C = tp := Value.ref.inj (beq_iff_eq.mp q)
    subst e
    have hc : (PySem.W.clsIn K C).isSome = true := c.cls
    unfold PySem.W.clsIn at hc
    split at hc
    · rename_i ho
      have z := (X _ _ ho).symm.trans htp
      cases z
    · cases hc
  ca := fun {prog w A E Q s} X e k => by
    obtain ⟨h, g, d, t, os⟩ := s
    exact exc_class X c e k
end
def rInstX (K : PySem.W.Frag) (xs : List V) (H : Hp) (Q : VK) : Prop := ∃ (x C : Addr) (c : V) (cv : Value) (b : Bool), xs = [.ref x, c] ∧ H x = some (excO x C) ∧ ExcCls K C ∧ RelV c cv ∧ (∀ u, RelV c u → u = cv) ∧ PySem.W.kitOne K (.ref C) cv = some b ∧ Q (.bl b) H
theorem call_isinstX {X : Cx} (K : PySem.W.Frag) (hK : X.K = K) : CallR X (.builtin "isinstance") (rInstX K) := by
  subst hK
  intro pins s σ H xs us Q I r h
  obtain ⟨x, C, c, cv, b, rfl, hx, hc, r2, r3, e, q⟩ := h
  obtain ⟨u, v, rfl, ru, rv⟩ := r.two
  cases (show u = Value.ref x from ru)
  cases r3 v rv
  obtain ⟨p, _, _⟩ := (show ObjOk X.prog X.w H s.heap x (excO x C) from I.hok x _ hx)
  exact PySem.W.kia_one (kitx_exc hc) I.kIn p e (fun z => nomatch z) fun tk => ⟨.bl b, H, I.tok tk, rfl, q⟩
section
variable {K : PySem.W.Frag} {H : Hp} {Q : VK} {x C D : Addr} {b : Bool}
theorem r_instXT {n : String} (hx : H x = some (excO x C)) (hc : ExcCls K C) (e : PySem.W.kitOne K (.ref C) (.type n) = some b) (q : Q (.bl b) H) : rInstX K [.ref x, .ty n] H Q := ⟨x, C, .ty n, .type n, b, rfl, hx, hc, rfl, fun _ z => z, e, q⟩
theorem r_instXR (hx : H x = some (excO x C)) (hc : ExcCls K C) (e : PySem.W.kitOne K (.ref C) (.ref D) = some b) (q : Q (.bl b) H) : rInstX K [.ref x, .ref D] H Q := ⟨x, C, .ref D, .ref D, b, rfl, hx, hc, rfl, fun _ z => z, e, q⟩
end
end L2

namespace L2
open PySem PySem.Spec PyProof.Rows
/-- an error, its newest entry at T, with a flag -/
def ExcF (h : Heap) (x T C : Addr) (fl : Value) : Prop := ∃ a0 oe vs oT ts, h.get? x = some oe ∧ (oe.cls = .ref C ∧ vs[0]? = some a0) ∧ oe.data = .fields vs ∧ vs[1]? = some (.ref T) ∧ T ≠ x ∧ h.get? T = some oT ∧ oT.data = .fields ts ∧ ts[3]? = some fl
theorem ExcF.recs {h : Heap} {x T C : Addr} {fl : Value} (e : ExcF h x T C fl) : ∀ b ∈ [x, T], IsRec h b := fun b hb => by
  obtain ⟨_, oe, vs, oT, ts, e1, _, e3, _, _, e6, e7, _⟩ := e
  rcases List.mem_cons.mp hb with rfl | hb
  · exact ⟨_, _, e1, e3⟩
  · obtain rfl := List.mem_singleton.mp hb
    exact ⟨_, _, e6, e7⟩
structure LeftF (l : List Env) (x : Addr) (ts : List Addr) (C : Addr) (fl : Value) (h h' : Heap) : Prop where
  keep : ∀ b o, b ∉ frs l → b ≠ x → b ∉ ts → h.get? b = some o → h'.get? b = some o
  slot : ∀ b o, b ∈ frs l → h.get? b = some o → ∃ sl, h'.get? b = some { o with slots := sl }
  exc : ∃ T, ExcF h' x T C fl ∧ (T ∈ ts ∨ h.get? T = none)
theorem leftF_of {h h' base : Heap} {l : List Env} {x : Addr} {ts : List Addr} {C : Addr} {a0 fl : Value} (hl : h.FunFrames base l) (k1 : (hidL h l (x :: ts)).StaysIn h') (k3 : h'.TracedAtW (hidL h l (x :: ts)) x (.ref C) a0 fl) (k4 : h.UpToSlots h') : LeftF l x ts C fl h h' := by
  refine ⟨fun b o h1 h2 h3 hb => k1 b o (PySem.W.hideAll_get _ hb fun hm => ?_), fun b o hm hb => ?_, ?_⟩
  · rcases List.mem_append.mp hm with z | z
    · exact h1 z
    · rcases List.mem_cons.mp z with z | z
      · exact h2 z
      · exact h3 z
  · obtain ⟨_, o', ho', hnf⟩ := hl.mem hm
    rw [hb] at ho'; cases ho'
    exact k4 b o hb hnf
  · obtain ⟨oe', vs', T', oT', ts', f1, f2, f3, f4, f5, f6, f7, f8, f9⟩ := k3
    refine ⟨T', ⟨a0, oe', vs', oT', ts', f1, f2, f3, f4, f6, f7, f8, f9⟩, ?_⟩
    by_cases hT : T' ∈ ts
    · exact .inl hT
    refine .inr ?_
    cases q : h.get? T' with
    | none => rfl
    | some o =>
      exfalso
      have nm : T' ∉ frs l ++ x :: ts := fun hm => by
        rcases List.mem_append.mp hm with hm | hm
        · obtain ⟨_, o', ho', hnf⟩ := hl.mem hm
          obtain ⟨sl, z⟩ := k4 T' o' ho' hnf
          rw [f7] at z
          have z' := Option.some.inj z
          rw [z'] at f8
          exact hnf ts' f8
        · rcases List.mem_cons.mp hm with z | z
          · exact f6 z
          · exact hT z
      rw [PySem.W.hideAll_get _ q nm] at f5
      cases f5
section
variable {M : Model} {A : Around} {E : Value → Shared → Prop} {s : Shared} {base : Heap} {env : Env} {outer : List Env} {L x T C : Addr} {Q : Unit → Shared → Prop}
theorem note_first (hfr : A.frames = some (env :: outer)) (hl : s.heap.FunFrames base (env :: outer)) (hf : env.frame = some L) (he : ExcN s.heap x C)
    (h : ∀ h', LeftF (env :: outer) x [] C (rawInt L) s.heap h' → Q () { s with heap := h' }) : wpAny M A (noteFrame (.ref x) env) Q E s := by
  obtain ⟨a0, oe, vs, e1, ⟨e2, e2'⟩, e3, e4⟩ := he
  unfold noteFrame
  simp only [hf]
  refine wpAny_bind (wpAny_field e1 e3 e4 ?_)
  rw [if_neg (by decide)]
  refine wpAny_entryW (base := hidL s.heap (env :: outer) [x]) hfr (funs_rebase hl fun b hb => hid_fr hb) hf e1 (fun b o hb => PySem.W.of_hideAll _ hb) (hid_none (.head _)) e3 (Array.getElem?_eq_some_iff.mp e4).1 e2' fun h' hL => h h' ?_
  obtain ⟨k1, _, k3, k4⟩ := hL
  rw [e2] at k3
  exact leftF_of hl k1 k3 k4
theorem note_on (hfr : A.frames = some (env :: outer)) (hl : s.heap.FunFrames base (env :: outer)) (hf : env.frame = some L) (he : ExcT s.heap x T C)
    (h : ∀ h', LeftF (env :: outer) x [T] C (rawInt L) s.heap h' → Q () { s with heap := h' }) : wpAny M A (noteFrame (.ref x) env) Q E s := by
  obtain ⟨a0, ht⟩ := he.traced (l := env :: outer)
  refine wpAny_noteFrame_onW hfr (funs_rebase hl fun b hb => hid_fr hb) hf ht (fun b o hb => PySem.W.of_hideAll _ hb) (hid_none (.head _)) fun h' hL => h h' ?_
  obtain ⟨k1, _, k3, k4⟩ := hL
  exact leftF_of hl k1 k3 k4
theorem ExcF.traced {h : Heap} {l : List Env} {fl : Value} (e : ExcF h x T C fl) : ∃ a0, h.TracedAtW (hidL h l [x, T]) x (.ref C) a0 fl := by
  obtain ⟨a0, oe, vs, oT, ts, e1, e2, e3, e4, e5, e6, e7, e8⟩ := e
  exact ⟨a0, oe, vs, T, oT, ts, e1, e2, e3, e4, hid_none (.tail _ (.head _)), e5, e6, e7, e8⟩
theorem note_again (hf : env.frame = some L) (he : ExcF s.heap x T C (rawInt L)) (h : Q () s) : wpAny M A (noteFrame (.ref x) env) Q E s := by
  obtain ⟨a0, ht⟩ := he.traced (l := [])
  exact wpAny_noteFrame_againW hf ht h
theorem leave_held (hl : s.heap.FunFrames base (env :: outer)) (hf : env.frame = some L) (he : ExcF s.heap x T C (rawInt L))
    (h : ∀ h', Left2 (env :: outer) x [T] C s.heap h' → Q () { s with heap := h' }) : wpAny M A (leaving env (.ref x)) Q E s := by
  obtain ⟨a0, ht⟩ := he.traced (l := env :: outer)
  unfold leaving
  refine wpAny_bind (wpAny_noteFrame_againW hf ht ?_)
  refine wpAny_setFlight_noneW (fun b o hb => PySem.W.of_hideAll _ hb) (funs_rebase hl fun b hb => hid_fr hb) ht fun h' k1 k2 k3 k4 => h h' ?_
  exact left2_of hl k1 k3 fun b o hb hn => ⟨o.slots, k4 b o hb hn⟩
/-- the loop hands it on: it is in flight here -/
theorem came_back {X : Cx} (hf : env.frame = some L) (he : ExcF s.heap x T C (rawInt L)) (h : ∀ h', (∀ b, b ≠ T → h'.get? b = s.heap.get? b) → ExcF h' x T C (rawInt L) → E (.ref x) { s with heap := h' }) : cameBackBy M A env E (.ref x) s := by
  obtain ⟨a0, oe, vs, oT, ts, e1, e2, e3, e4, e5, e6, e7, e8⟩ := he
  show wpAny M A (do
    if (← field (.ref x) 1) == .none then unsupported "frame.own-activation:exception-without-traceback"
    setFlight (.ref x) env.frame) (fun _ s'' => E (.ref x) s'') E s
  refine wpAny_bind (wpAny_field e1 e3 e4 ?_)
  rw [if_neg (show ¬ ((Value.ref T == Value.none) = true) from by simp)]
  unfold setFlight
  refine wpAny_bind (wpAny_field e1 e3 e4 ?_)
  rw [if_pos (show (Value.ref T != Value.none) = true from by simp), hf]
  have hsz := (Array.getElem?_eq_some_iff.mp e8).1
  refine wpAny_setField e6 e7 hsz ?_
  refine h _ (fun b hb => Heap.get?_update_other _ _ (Ne.symm hb)) ?_
  exact ⟨a0, oe, vs, _, _, (Heap.get?_update_other _ _ e5).trans e1, e2, e3, e4, e5, Heap.get?_update_self _ e6 (Obj.isFreed_of_fields (Obj.data_mapFields e7 _)), Obj.data_mapFields e7 _, by simp [hsz]⟩
end
section
variable {X : Cx} {pins : List (Addr × Obj)} {σ : St} {H : Hp} {s s' : Shared} {x T C : Addr} {ts : List Addr} {h' : Heap} {E : XK} {e : Value} {fl : Value}
theorem Up.landF (U : Up X pins σ H s x ts) (hex : X.ex = []) (hd : ∀ b ∈ x :: ts, IsRec s.heap b) (F : LeftF X.stack x ts C fl s.heap h') : ∃ T, ExcF h' x T C fl ∧ Up X pins σ H { s with heap := h' } x [T] := by
  have I := U.inv
  have hch : ∀ b ∈ x :: ts, X.s₀.heap.get? b = none ∧ H b = none ∧ ∀ p ∈ X.pn ++ pins, p.1 ≠ b := fun b hb => by
    rcases List.mem_cons.mp hb with rfl | hb
    · exact ⟨U.nx, U.fx, fun p hp => (U.px p hp).1⟩
    · exact ⟨U.nT b hb, U.fT b hb, fun p hp z => (U.px p hp).2 (z ▸ hb)⟩
  have J : Inv X pins σ H { s with heap := h' } := by
    refine I.land (ch := x :: ts) (fun b hb => ⟨(hch b hb).1, (I.rec_ne (hd b hb)).1, (I.rec_ne (hd b hb)).2.1, (hch b hb).2.2⟩) (fun b hb => (hch b hb).2.1) (fun b o h1 h2 h3 q => ?_) (fun b o hb q => ?_)
    · exact F.keep b o (fun z => (List.mem_cons.mp (I.stkSub b z)).elim h1 h2) (fun z => h3 (z ▸ .head _)) (fun z => h3 (.tail _ z)) q
    · by_cases z : b ∈ frs X.stack
      · exact F.slot b o z q
      · have nr : b ∉ x :: ts := fun y => by
          obtain ⟨n1, _, _, n4⟩ := I.rec_ne (hd b y)
          exact hb.elim n1 n4
        exact ⟨o.slots, F.keep b o z (fun y => nr (y ▸ .head _)) (fun y => nr (.tail _ y)) q⟩
  obtain ⟨T, hT, hor⟩ := F.exc
  refine ⟨T, hT, J, U.fx, fun b hb => ?_, U.nx, fun b hb => ?_, fun p hp => ⟨(U.px p hp).1, fun hb => ?_⟩⟩
  · obtain rfl := List.mem_singleton.mp hb
    rcases hor with z | z
    · exact U.fT _ z
    · cases q : H b with
      | none => rfl
      | some u => obtain ⟨ob, e⟩ := (I.hok b u q).there; rw [z] at e; cases e
  · obtain rfl := List.mem_singleton.mp hb
    rcases hor with z | z
    · exact U.nT _ z
    · cases q : X.s₀.heap.get? b with
      | none => rfl
      | some o => obtain ⟨ob, e⟩ := I.base.there b o q (by rw [hex]; simp); rw [z] at e; cases e
  · have hb' := List.mem_singleton.mp hb
    rcases hor with z | z
    · exact (U.px p hp).2 (hb' ▸ z)
    · have e := (I.pin p hp).1
      rw [hb', z] at e; cases e
/-- how an error may lie in a body -/
inductive FlyS (h : Heap) (x : Addr) (C L : Addr) : List Addr → Prop
  | new : ExcN h x C → FlyS h x C L []
  | fly {T : Addr} : ExcT h x T C → FlyS h x C L [T]
  | held {T : Addr} : ExcF h x T C (rawInt L) → FlyS h x C L [T]
def XR (X : Cx) (E : XK) (e : Value) (s' : Shared) : Prop := ∃ x ts C σ H, e = .ref x ∧ Up X [] σ H s' x ts ∧ FlyS s'.heap x C X.env.locals ts ∧ E (.ref C) none H
theorem Up.bare (U : Up X pins σ H s x ts) : Up X [] σ H s x ts := by
  have I := U.inv
  exact ⟨⟨I.ok, I.os, I.bare, I.base, I.loc, I.cell, I.free, I.freeC, fun p hp => I.pin p (by rw [List.append_nil] at hp; exact List.mem_append_left _ hp), I.hok, I.len⟩, U.fx, U.fT, U.nx, U.nT, fun p hp => U.px p (by rw [List.append_nil] at hp; exact List.mem_append_left _ hp)⟩
theorem Up.unwish {F : Value → Shared → Prop} (U : Up (X.wish F) pins σ H s x ts) : Up X pins σ H s x ts := ⟨U.inv.unwish, U.fx, U.fT, U.nx, U.nT, U.px⟩
theorem held_up (U : Up X [] σ H s x [T]) (hst : X.stack = X.env :: X.outer) (hfr : X.env.frame = some X.env.locals) (hex : X.ex = []) (he : ExcF s.heap x T C (rawInt X.env.locals)) (q : E (.ref C) none H) :
    cameBackBy (model X.prog X.w) X.A X.env (XR X E) (.ref x) s := by
  refine came_back (X := X) hfr he fun h' hk he' => ?_
  refine ⟨x, [T], C, σ, H, rfl, ?_, .held he', q⟩
  obtain ⟨n1, n2, n3, n4⟩ := U.inv.rec_ne (he.recs T (.tail _ (.head _)))
  refine ⟨U.inv.land (ch := [T]) (fun b hb => ?_) (fun b hb => U.fT b hb) (fun b o h1 h2 h3 q => (hk b fun z => h3 (z ▸ .head _)).trans q) (fun b o hb q => ⟨o.slots, (hk b fun z => ?_).trans q⟩), U.fx, U.fT, U.nx, U.nT, U.px⟩
  · obtain rfl := List.mem_singleton.mp hb
    exact ⟨U.nT _ (.head _), n1, n2, fun p hp z => (U.px p hp).2 (by rw [z]; exact .head _)⟩
  · rw [z] at hb
    exact hb.elim n1 n4
theorem passesXR (ok : X.Ok) (hst : X.stack = X.env :: X.outer) (hfr : X.env.frame = some X.env.locals) (hex : X.ex = []) : PassesOwn (model X.prog X.w) X.A X.env (XR X E) := by
  rintro e s ⟨x, ts, C, σ, H, rfl, U, fl, q⟩
  show wpAny _ _ (noteFrame (.ref x) X.env) _ _ s
  have fr : X.A.frames = some (X.env :: X.outer) := by rw [← hst]; exact ok.frames
  have sk : s.heap.FunFrames X.base (X.env :: X.outer) := by rw [← hst]; exact U.inv.stack
  cases fl with
  | new he =>
    refine note_first fr sk hfr he fun h' F => ?_
    rw [← hst] at F
    obtain ⟨T, he', U'⟩ := U.landF hex he.recs F
    exact held_up U' hst hfr hex he' q
  | fly he =>
    refine note_on fr sk hfr he fun h' F => ?_
    rw [← hst] at F
    obtain ⟨T, he', U'⟩ := U.landF hex he.recs F
    exact held_up U' hst hfr hex he' q
  | held he => exact note_again hfr he (held_up U hst hfr hex he q)
end
section
variable {P : Program} {w : World} {K : PySem.W.Frag} {mg : Str → Option Value} {base : Heap} {N : List Str} {qual : Str} {scope : Scope} {f : Addr} {cd : Value} {A : Around} {outer : List Env} {s : Shared} {H : Hp} {E : XK}
/-- the context of a def that may raise, in a loop too -/
abbrev cxR (P : Program) (w : World) (K : PySem.W.Frag) (mg : Str → Option Value) (base : Heap) (N : List Str) (qual : Str) (scope : Scope) (f : Addr) (cd : Value) (A : Around) (outer : List Env) (s : Shared) (H : Hp) (E : XK) : Cx :=
  (cxOf (CXR P w) P w K mg base N qual scope f cd A outer s H E).wish (XR (cxOf (CXR P w) P w K mg base N qual scope f cd A outer s H E) E)
theorem letsX : Lets (cxR P w K mg base N qual scope f cd A outer s H E) E := fun pins σ H' s' x C U he q => ⟨x, [], C, σ, H', rfl, U.unwish.bare, .new he, q⟩
theorem xr_leaves {e : Value} {s' : Shared} (h : XR (cxOf (CXR P w) P w K mg base N qual scope f cd A outer s H E) E e s') : (cxOf (CXR P w) P w K mg base N qual scope f cd A outer s H E).xe e s' := by
  obtain ⟨x, ts, C, σ, H', rfl, U, fl, q⟩ := h
  cases fl with
  | new he =>
    refine leave_first (L := s.heap.objs.size) (outer := outer) U.inv.ok.frames U.inv.stack rfl he fun h' F => ?_
    obtain ⟨T', he', U'⟩ := U.land rfl he.recs F
    exact cxr_of U' he' q
  | fly he =>
    refine leave_next (L := s.heap.objs.size) (outer := outer) U.inv.ok.frames U.inv.stack rfl he fun h' F => ?_
    obtain ⟨T', he', U'⟩ := U.land rfl he.recs F
    exact cxr_of U' he' q
  | held he =>
    refine leave_held (L := s.heap.objs.size) (outer := outer) U.inv.stack rfl he fun h' F => ?_
    obtain ⟨T', he', U'⟩ := U.land rfl he.recs F
    exact cxr_of U' he' q
/-- THE RULE for a def that raises, in a loop too -/
theorem Fun.okX {x qual : Str} {st : Stmt} {f : Addr} {fd : FuncData} {N ps : List Str} {k : Nat} {sp : Sp} (F : Fun K x qual st f fd) (S : FnScope N ps (defScope st)) (len : ∀ vs H Q E, sp vs H Q E → vs.length = ps.length)
    (hbody : ∀ (cdv : Value) (A : Around) (outer : List Env) (s : Shared) (H : Hp) (vs : List V) (Q : VK) (E : XK), Room k (A.deeper (envOfC qual (defScope st) s.heap.objs.size f cdv)) → sp vs H Q E →
      ∃ t, ((cxR P w K mg base N qual (defScope st) f cdv A outer s H E).Ok → PSs (cxR P w K mg base N qual (defScope st) f cdv A outer s H E) (defBody st) t) ∧ t { nx := fun _ H' => Q .non H', rt := Q } (start N vs) H) : FnOk P w K mg base (CXR P w) (k + 1) f fd ps sp := by
  obtain ⟨oc, od, kV, doc, pm, an, cdv, ct, osl, rfl, lk, hcd⟩ := F.ex
  refine fn_of lk hcd S len fun A outer s H vs Q E hr hsp => ?_
  obtain ⟨t, h, q⟩ := hbody cdv A outer s H vs Q E hr hsp
  refine ⟨t, fun pins s' σ H' D I z => ?_, q⟩
  exact wpAny_mono (h (I.wish _).ok pins s' σ H' D (I.wish _) z) (fun _ _ y => y.unwish) fun _ _ y => xr_leaves y
theorem FnOk.both {k : Nat} {f : Addr} {fd : FuncData} {ps : List Str} {sp1 sp2 : Sp} (F1 : FnOk P w K mg base CX0 k f fd ps sp1) (F2 : FnOk P w K mg base (CXR P w) k f fd ps sp2) : FnOk P w K mg base (CXR P w) k f fd ps (fun vs H Q E => sp1 vs H Q E ∨ sp2 vs H Q E) :=
  ⟨fun vs H Q E h => h.elim (F1.len vs H Q E) (F2.len vs H Q E), fun A outer s H args us vs Q E hr he hb hv h => by
    rcases h with h | h
    · refine codeAny_mono (F1.run A outer s H args us vs Q E hr he hb hv h) fun r s' z => ?_
      cases r with
      | error e => exact False.elim z
      | ok fl => cases fl <;> exact z
    · exact F2.run A outer s H args us vs Q E hr he hb hv h⟩
end
section
variable {X : Cx} {pos : Pos}
def tXmeth (C : Addr) (m : Str) (sp : Sp) (ta : TE) (t : TA) : TXe := fun σ H Q Ex => ta σ H fun x H1 => ∃ a dx fs, x = .ref a ∧ H1 a = some (.ins C dx fs) ∧ fs.lookup m = none ∧
  t σ H1 fun vs H2 => sp (x :: vs) H2 Q (fun c _ H3 => ∃ C, c = .ref C ∧ Ex H3 C)
theorem pex_meth {pl : Sem Bool} {C f : Addr} {m : Str} {k : Nat} {fd : FuncData} {ps : List Str} {sp : Sp} {o e : Expr} {es : List Expr} {ta : TE} {t : TA} {apos : Pos} (he : PE X.nox o ta) (c : Cls X.K C) (hm : Meth X.K C m f) (F : FnOk X.prog X.w X.K X.mg X.base (CXR X.prog X.w) k f fd ps sp) (hex : X.ex = []) (hr : Room k X.A) (hb : Binds X.K fd ps []) (ha : PA X.nox (e :: es) t)
    (hn : isStar e = false := by rfl) (hall : es.all (fun e => !isStar e) = true := by rfl)
    (ht : eval (.Call (.Attribute o m apos) (e :: es) [] pos) X.env = (do
      let ov ← eval o X.env
      standAt apos.atName
      let (f, first) ← holding [ov] (getMethod ov m pl)
      callWith pos f first (backTo pos (starEach (e :: es) X.env)) (backToKw pos (keywordEach [] X.env))) := by rfl) :
    PEx X (.Call (.Attribute o m apos) (e :: es) [] pos) (tXmeth C m sp ta t) := by
  intro pins s σ H Q Ex I h
  refine PySem.W.methodCall_KW (pl := pl) (wpAny_mono (he pins s σ H _ (I.wish _) h) (fun u s1 ⟨x, H1, I1', rx, a, dx, fs, ex, ea, l, q⟩ => ?_) fun _ _ z => False.elim z) ht
  have I1 := I1'.unwish
  subst ex
  obtain rfl : u = Value.ref a := rx
  refine getmeth_ok I1 ea c hm l ?_
  refine PySem.W.callWith_K (first := [.ref a]) (h₀ := X.base) I.ok.mod.kin hm.kp (wpAny_mono (ha pos pins s1 σ H1 _ (I1.wish _) q) (fun us s2 ⟨vs, H2, I2', r, q2⟩ => ?_) fun _ _ z => False.elim z) (star_cons hn) (star_any hall)
  have I2 := I2'.unwish
  refine ⟨I2.kIn, ?_⟩
  have r2 : Vals (V.ref a :: vs) (Value.ref a :: us) := .cons rfl r
  have hl : (Value.ref a :: us ++ []).length = ps.length := by
    have e := r2.length
    rw [F.len _ _ _ _ q2] at e
    rw [List.append_nil]
    exact e.symm
  have hb' := hb s2 (Value.ref a :: us) I2.kIn hl
  rw [List.append_nil] at hb'
  refine wpAny_call (codeAny_mono (F.run X.A X.stack s2 H2 ⟨Value.ref a :: us, []⟩ (Value.ref a :: us) (V.ref a :: vs) Q _ hr I2.env0 hb' r2 q2) fun r s' hq => ?_)
  cases r with
  | error e =>
    have hq2 : CXR X.prog X.w X.stack H2 s2 (fun c _ H3 => ∃ C, c = Value.ref C ∧ Ex H3 C) e s' := hq
    obtain ⟨x, T, C', H', rfl, he, U, C'', hc, q⟩ := raised_up I2 hex hq2
    cases hc
    exact ⟨x, T, C', σ, H', rfl, he, U, rfl, q⟩
  | ok fl =>
    cases fl with
    | ret u => exact I2.after hq
    | next => exact False.elim hq
    | brk => exact False.elim hq
    | cont => exact False.elim hq
def tXset (i : Nat) (te : TXe) : TXs := fun D Ex σ H => te σ H (fun v H1 => D.nx (σ.set i (some v)) H1) (fun H1 C => Ex σ H1 C)
theorem psx_set {i : Nat} {x : Str} {e : Expr} {te : TXe} {pos' : Pos} (hN : X.N.Nodup) (hi : X.N[i]? = some x) (hx : Loc X.env.scope x) (he : PEx X e te) (hs : swapsWith e (some (.Name x pos')) pos.line X.env = pure false := by rfl) (hf : X.fn x = true ∨ X.env.scope.names.lookup x = some .local := by first | exact .inl rfl | exact .inr rfl | assumption) :
    PSx1 X (.Assign [.Name x pos'] e pos) (tXset i te) := by
  intro pins s σ H D Ex I h
  refine wpAny_Assign_Name (wpAny_mono (he pins s σ H _ _ I h) (fun v s1 ⟨y, H1, I1, r1, q1⟩ => ?_) fun e s1 ⟨x, T, C, σ', H', e1, e2, e3, e4, e5⟩ => ⟨x, T, C, σ, H', e1, e2, by rw [← e4]; exact e3, e5⟩) hs
  exact store_ok I1 hN hi hx r1 (fun s' I' => ⟨_, H1, I', q1⟩) hf
end
section
variable {σ : St} {H : Hp} {Q : VK} {D : Ends} {Ex : St → Hp → Addr → Prop} {Eh : Hp → Addr → Prop}
theorem r_Xmeth {C : Addr} {m : Str} {sp : Sp} {ta : TE} {t : TA} (h : ta σ H fun x H1 => ∃ a dx fs, x = .ref a ∧ H1 a = some (.ins C dx fs) ∧ fs.lookup m = none ∧ t σ H1 fun vs H2 => sp (x :: vs) H2 Q (fun c _ H3 => ∃ C, c = .ref C ∧ Eh H3 C)) : tXmeth C m sp ta t σ H Q Eh := h
theorem r_Xset {i : Nat} {te : TXe} (h : te σ H (fun v H1 => D.nx (σ.set i (some v)) H1) (fun H1 C => Ex σ H1 C)) : tXset i te D Ex σ H := h
end
end L2

namespace L2
def Back (U N : St → Hp → Prop) : Prop := ∀ σ' H', U σ' H' → N σ' H'
theorem r_seqA {t u : TS} {D : Ends} {σ : St} {H : Hp} (h : ∀ N : St → Hp → Prop, Back (u D) N → t { D with nx := N } σ H) : tSeq t u D σ H := h _ fun _ _ z => z
theorem r_back {U N : St → Hp → Prop} {σ : St} {H : Hp} (h : Back U N) (q : U σ H) : N σ H := h σ H q
end L2

set_option maxHeartbeats 4000000
namespace TB
open PySem L2
seal PE PA PS PSs PT PI PG PGs PO
local macro_rules | `(tactic| walk_at "rd1") => `(tactic| with_reducible first
  | refine r_seqA (fun _ _ => ?_) | refine r_back (by assumption) ?_ | refine r_next ?_ | refine r_asg ?_ | refine r_name ?_ | refine r_drop ?_ | refine r_ret ?_ | refine r_retN ?_ | refine r_ifS ?_
  | refine r_C ?_ | refine r_op ?_ | refine r_un ?_ | refine r_rI0 ?_ | refine r_eqI ?_ | refine r_neI ?_ | refine r_test ?_ | refine r_tB ?_ | refine r_bl ?_
  | refine r_and ?_ | refine r_or ?_ | refine r_not ?_ | refine r_andV ?_ | refine r_orV ?_ | refine r_notV ?_ | refine r_if ?_ | refine r_nil ?_ | refine r_cons ?_ | refine r_CB ?_ | refine r_call ?_ | refine r_lst ?_ | refine r_tup ?_
  | refine r_for ?_ | refine r_iList ?_ | refine r_iRng1 ?_ | refine r_comp ?_ | refine r_sl ?_ | refine r_noPart ?_ | refine r_part ?_ | refine r_int1 ?_ | refine r_bm ?_ | refine r_fld ?_ | refine r_make ?_ | refine r_sFld ?_ | refine r_par ?_ | refine r_pair ?_ | refine r_gSub ?_ | refine r_iEnum ?_
  | refine r_isN ?_ | refine r_notN ?_ | refine r_all ?_ | refine r_true ?_ | (refine' r_var ?e ?_; (case e => with_unfolding_all exact rfl)))
local macro_rules | `(tactic| walk_at "rs1") => `(tactic| with_reducible first
  | refine r_seqA (fun _ _ => ?_) | refine r_back (by assumption) ?_ | refine r_next ?_ | refine r_asg ?_ | refine r_name ?_ | refine r_drop ?_ | refine r_ret ?_ | refine r_retN ?_
  | refine r_C ?_ | refine r_op ?_ | refine r_un ?_ | refine r_rI0 ?_ | refine r_eqI ?_ | refine r_neI ?_ | refine r_test ?_ | refine r_tB ?_ | refine r_bl ?_
  | refine r_and ?_ | refine r_or ?_ | refine r_not ?_ | refine r_andV ?_ | refine r_orV ?_ | refine r_notV ?_ | refine r_if ?_ | refine r_nil ?_ | refine r_cons ?_ | refine r_CB ?_ | refine r_call ?_ | refine r_lst ?_ | refine r_tup ?_
  | refine r_for ?_ | refine r_iList ?_ | refine r_iRng1 ?_ | refine r_comp ?_ | refine r_sl ?_ | refine r_noPart ?_ | refine r_part ?_ | refine r_int1 ?_ | refine r_bm ?_ | refine r_fld ?_ | refine r_make ?_ | refine r_sFld ?_ | refine r_par ?_ | refine r_pair ?_ | refine r_gSub ?_ | refine r_iEnum ?_
  | refine r_isN ?_ | refine r_notN ?_ | refine r_all ?_ | refine r_true ?_ | (refine' r_var ?e ?_; (case e => with_unfolding_all exact rfl)))
local macro_rules | `(tactic| walk_at "rs") => `(tactic| repeat walk_at "rs1")
local macro_rules | `(tactic| walk_at "rd") => `(tactic| repeat walk_at "rd1")
local macro_rules | `(tactic| walk_at "rw1") => `(tactic| with_reducible first
  | refine r_seqA (fun _ _ => ?_) | refine r_back (by assumption) ?_ | refine r_next ?_ | refine r_asg ?_ | refine r_name ?_ | refine r_drop ?_ | refine r_ret ?_ | refine r_retN ?_
  | refine r_C ?_ | refine r_op ?_ | refine r_un ?_ | refine r_rI0 ?_ | refine r_eqI ?_ | refine r_neI ?_ | refine r_test ?_ | refine r_tB ?_ | refine r_bl ?_
  | refine r_and ?_ | refine r_or ?_ | refine r_not ?_ | refine r_andV ?_ | refine r_orV ?_ | refine r_notV ?_ | refine r_if ?_ | refine r_nil ?_ | refine r_cons ?_ | refine r_CB ?_ | refine r_call ?_
  | refine r_for ?_ | refine r_iList ?_ | refine r_iRng1 ?_ | refine r_comp ?_ | refine r_sl ?_ | refine r_noPart ?_ | refine r_part ?_ | refine r_int1 ?_ | refine r_bm ?_ | refine r_fld ?_ | refine r_make ?_ | refine r_sFld ?_ | refine r_par ?_ | refine r_pair ?_ | refine r_gSub ?_ | refine r_iEnum ?_
  | refine r_isN ?_ | refine r_notN ?_ | refine r_all ?_ | refine r_true ?_ | (refine' r_var ?e ?_; (case e => with_unfolding_all exact rfl)))
local macro_rules | `(tactic| walk_at "rw") => `(tactic| repeat walk_at "rw1")
local macro_rules | `(tactic| walk_at "wr") => `(tactic| repeat (first | exact mk_nil | refine mk_cons ?_ ?_ | refine mk_lst ?_ (by decide) | exact mk_nat rfl))
local macro_rules | `(tactic| walk_at "rn1") => `(tactic| with_reducible first
  | refine r_seqA (fun _ _ => ?_) | refine r_back (by assumption) ?_ | refine r_next ?_ | refine r_asg ?_ | refine r_name ?_ | refine r_drop ?_ | refine r_ret ?_ | refine r_retN ?_
  | refine r_CN ?_ | refine r_C ?_ | refine r_op ?_ | refine r_un ?_ | refine r_rU ?_ | refine r_addN ?_ | refine r_eqN ?_ | refine r_neN ?_ | refine r_ltN ?_ | refine r_leN ?_ | refine r_gtN ?_ | refine r_geN ?_
  | refine r_modN (by first | assumption | omega) ?_ | refine r_divN (by first | assumption | omega) (by first | assumption | omega) ?_ | refine r_mulN (by omega) ?_
  | refine r_rI0 ?_ | refine r_eqI ?_ | refine r_neI ?_ | refine r_test ?_ | refine r_tB ?_ | refine r_bl ?_
  | refine r_and ?_ | refine r_or ?_ | refine r_not ?_ | refine r_andV ?_ | refine r_orV ?_ | refine r_notV ?_ | refine r_if ?_ | refine r_nil ?_ | refine r_cons ?_ | refine r_CB ?_ | refine r_call ?_
  | refine r_for ?_ | refine r_iList ?_ | refine r_iRng1 ?_ | refine r_comp ?_ | refine r_sl ?_ | refine r_noPart ?_ | refine r_part ?_ | refine r_int1 ?_ | refine r_bm ?_ | refine r_bm0 ?_ | refine r_fld ?_ | refine r_make ?_ | refine r_sFld ?_ | refine r_par ?_ | refine r_pair ?_ | refine r_gSub ?_ | refine r_iEnum ?_
  | refine r_isN ?_ | refine r_notN ?_ | refine r_all ?_ | refine r_true ?_ | (refine' r_var ?e ?_; (case e => with_unfolding_all exact rfl)))
local macro_rules | `(tactic| walk_at "rx1") => `(tactic| first | walk_at "rn1" | refine r_ix2 (by assumption) (by rfl) ?_ | refine r_len (by assumption) ?_ | refine r_in (by assumption) ?_ | refine r_notIn (by assumption) ?_)
local macro_rules | `(tactic| walk_at "rx") => `(tactic| repeat walk_at "rx1")
local macro_rules | `(tactic| walk_at "ifs") => `(tactic| with_reducible refine r_ifS ?_)
local macro_rules | `(tactic| walk_at "rn") => `(tactic| repeat walk_at "rn1")

def top (i : Nat) : Stmt := PySem.Challenge.pw_tracebook_k25_moves_and_wider_wheels.main.body.getD i (.Pass ⟨0, 0, 0, 0⟩)
abbrev s_check_spokes : Stmt := top 20
abbrev s_circle : Stmt := top 21
abbrev s_next_circle : Stmt := top 22
abbrev s_divided : Stmt := top 23
abbrev s_law_whole : Stmt := top 26
abbrev s_law_at : Stmt := top 27
abbrev s_law_spokes : Stmt := top 28
abbrev s_law_primes : Stmt := top 29
abbrev s_law_nought : Stmt := top 30
abbrev s_law_degree : Stmt := top 31
abbrev s_law_is : Stmt := top 32
abbrev s_law_number : Stmt := top 33
abbrev s_law_flags : Stmt := top 34
abbrev s_law_only : Stmt := top 35
abbrev s_law_step : Stmt := top 36
abbrev s_law_width : Stmt := top 37
abbrev s_law_apart : Stmt := top 38
abbrev s_law_put : Stmt := top 39
abbrev s_law_asked : Stmt := top 40
abbrev s_law_moved : Stmt := top 41
abbrev s_law_wider : Stmt := top 42
abbrev s_law : Stmt := top 43
abbrev s_Wheel_init : Stmt := inClass (top 24) 0
abbrev s_Wheel_laid : Stmt := inClass (top 24) 2
abbrev s_Wheel_moved : Stmt := inClass (top 24) 8
abbrev s_Wheel_wider : Stmt := inClass (top 24) 9
theorem sc_check_spokes : FnScope ["many"] ["many"] (defScope s_check_spokes) := ⟨rfl, rfl, rfl, by decide +kernel, rfl, by decide +kernel, by decide +kernel⟩
theorem sc_circle : FnScope ["many", "found", "divisor"] ["many"] (defScope s_circle) := ⟨rfl, rfl, rfl, by decide +kernel, rfl, by decide +kernel, by decide +kernel⟩
theorem sc_next_circle : FnScope ["many", "found", "left", "divisor"] ["many", "found"] (defScope s_next_circle) := ⟨rfl, rfl, rfl, by decide +kernel, rfl, by decide +kernel, by decide +kernel⟩
theorem sc_divided : FnScope ["polynomial", "divider", "degree", "left", "taken", "times", "start", "place"] ["polynomial", "divider"] (defScope s_divided) := ⟨rfl, rfl, rfl, by decide +kernel, rfl, by decide +kernel, by decide +kernel⟩
theorem sc_law_whole : FnScope ["_law_found"] ["_law_found"] (defScope s_law_whole) := ⟨rfl, rfl, rfl, by decide +kernel, rfl, by decide +kernel, by decide +kernel⟩
theorem sc_law_at : FnScope ["_law_script", "_law_k"] ["_law_script", "_law_k"] (defScope s_law_at) := ⟨rfl, rfl, rfl, by decide +kernel, rfl, by decide +kernel, by decide +kernel⟩
theorem sc_law_spokes : FnScope ["_law_cell"] ["_law_cell"] (defScope s_law_spokes) := ⟨rfl, rfl, rfl, by decide +kernel, rfl, by decide +kernel, by decide +kernel⟩
theorem sc_law_primes : FnScope ["_law_many", "_law_found", "_law_rest", "_law_p"] ["_law_many"] (defScope s_law_primes) := ⟨rfl, rfl, rfl, by decide +kernel, rfl, by decide +kernel, by decide +kernel⟩
theorem sc_law_nought : FnScope ["_law_counts", "_law_many", "_law_sums", "_law_k", "_law_p"] ["_law_counts", "_law_many"] (defScope s_law_nought) := ⟨rfl, rfl, rfl, by decide +kernel, rfl, by decide +kernel, by decide +kernel⟩
theorem sc_law_degree : FnScope ["_law_many", "_law_some"] ["_law_many"] (defScope s_law_degree) := ⟨rfl, rfl, rfl, by decide +kernel, rfl, by decide +kernel, by decide +kernel⟩
theorem sc_law_is : FnScope ["_law_found", "_law_counts", "_law_many", "_law_rest", "_law_k"] ["_law_found", "_law_counts", "_law_many"] (defScope s_law_is) := ⟨rfl, rfl, rfl, by decide +kernel, rfl, by decide +kernel, by decide +kernel⟩
theorem sc_law_number : FnScope ["_law_script", "_law_at_here", "_law_cell", "_law_number_here"] ["_law_script", "_law_at_here"] (defScope s_law_number) := ⟨rfl, rfl, rfl, by decide +kernel, rfl, by decide +kernel, by decide +kernel⟩
theorem sc_law_flags : FnScope ["_law_met", "_law_flags_here"] ["_law_met"] (defScope s_law_flags) := ⟨rfl, rfl, rfl, by decide +kernel, rfl, by decide +kernel, by decide +kernel⟩
theorem sc_law_only : FnScope ["_law_met", "_law_name", "_law_names", "_law_due"] ["_law_met", "_law_name"] (defScope s_law_only) := ⟨rfl, rfl, rfl, by decide +kernel, rfl, by decide +kernel, by decide +kernel⟩
theorem sc_law_step : FnScope ["_law_cell"] ["_law_cell"] (defScope s_law_step) := ⟨rfl, rfl, rfl, by decide +kernel, rfl, by decide +kernel, by decide +kernel⟩
theorem sc_law_width : FnScope ["_law_cell", "_law_many"] ["_law_cell", "_law_many"] (defScope s_law_width) := ⟨rfl, rfl, rfl, by decide +kernel, rfl, by decide +kernel, by decide +kernel⟩
theorem sc_law_apart : FnScope ["_law_j", "_law_many"] ["_law_j", "_law_many"] (defScope s_law_apart) := ⟨rfl, rfl, rfl, by decide +kernel, rfl, by decide +kernel, by decide +kernel⟩
theorem sc_law_put : FnScope ["_law_one", "_law_step_here", "_law_many", "_law_sums", "_law_k", "_law_at_here"] ["_law_one", "_law_step_here", "_law_many"] (defScope s_law_put) := ⟨rfl, rfl, rfl, by decide +kernel, rfl, by decide +kernel, by decide +kernel⟩
theorem sc_law_asked : FnScope ["_law_wheel", "_law_one", "_law_by", "_law_way", "_law_found", "_law_caught", "e"] ["_law_wheel", "_law_one", "_law_by", "_law_way"] (defScope s_law_asked) := ⟨rfl, rfl, rfl, by decide +kernel, rfl, by decide +kernel, by decide +kernel⟩
theorem sc_law_moved : FnScope ["_law_wheel", "_law_one", "_law_j", "_law_many", "_law_found", "_law_caught", "_law_due"] ["_law_wheel", "_law_one", "_law_j", "_law_many"] (defScope s_law_moved) := ⟨rfl, rfl, rfl, by decide +kernel, rfl, by decide +kernel, by decide +kernel⟩
theorem sc_law_wider : FnScope ["_law_wheel", "_law_one", "_law_by", "_law_many", "_law_found", "_law_caught", "_law_wide", "_law_due"] ["_law_wheel", "_law_one", "_law_by", "_law_many"] (defScope s_law_wider) := ⟨rfl, rfl, rfl, by decide +kernel, rfl, by decide +kernel, by decide +kernel⟩
theorem sc_law : FnScope ["_law_script", "_law_many", "_law_one", "_law_held", "_law_wheel", "_law_cell"] ["_law_script"] (defScope s_law) := ⟨rfl, rfl, rfl, by decide +kernel, rfl, by decide +kernel, by decide +kernel⟩
theorem sc_Wheel_init : FnScope ["self", "many"] ["self", "many"] (defScope s_Wheel_init) := ⟨rfl, rfl, rfl, by decide +kernel, rfl, by decide +kernel, by decide +kernel⟩
theorem sc_Wheel_laid : FnScope ["self", "counts", "step", "start", "totals", "k", "many", "place"] ["self", "counts", "step", "start"] (defScope s_Wheel_laid) := ⟨rfl, rfl, rfl, by decide +kernel, rfl, by decide +kernel, by decide +kernel⟩
theorem sc_Wheel_moved : FnScope ["self", "one", "j", "divisor"] ["self", "one", "j"] (defScope s_Wheel_moved) := ⟨rfl, rfl, rfl, by decide +kernel, rfl, by decide +kernel, by decide +kernel⟩
theorem sc_Wheel_wider : FnScope ["self", "one", "many"] ["self", "one", "many"] (defScope s_Wheel_wider) := ⟨rfl, rfl, rfl, by decide +kernel, rfl, by decide +kernel, by decide +kernel⟩
theorem cs_law_nought_0 : CompSc (defScope s_law_nought) ["_law_counts", "_law_many", "_law_sums", "_law_k", "_law_p"] { kind := .function, names := [(".0", .local), ("_law_k", .local), ("_law_many", .free), ("_law_p", .free), ("_law_sums", .free)], isGenerator := false, isCoroutine := false, more := [] } ["_law_k"] [1, 4, 2] := ⟨rfl, by decide +kernel, by decide +kernel, by decide +kernel, by decide +kernel, by decide +kernel⟩
theorem cs_law_nought_1 : CompSc (defScope s_law_nought) ["_law_counts", "_law_many", "_law_sums", "_law_k", "_law_p"] { kind := .function, names := [(".0", .local), ("_law_number_here", .local)], isGenerator := false, isCoroutine := false, more := [] } ["_law_number_here"] [] := ⟨rfl, by decide +kernel, by decide +kernel, by decide +kernel, by decide +kernel, by decide +kernel⟩
theorem cs_law_degree_0 : CompScC (defScope s_law_degree) ["_law_many", "_law_some"] { kind := .function, names := [(".0", .local), ("_law_k", .cell), ("all", .globalImplicit), ("_law_some", .free)], isGenerator := false, isCoroutine := false, more := [] } ["_law_k"] [1] := ⟨rfl, by decide +kernel, by decide +kernel, by decide +kernel, by decide +kernel, by decide +kernel⟩
theorem cs_law_degree_1 : CompSc { kind := .function, names := [(".0", .local), ("_law_k", .cell), ("all", .globalImplicit), ("_law_some", .cell)], isGenerator := false, isCoroutine := false, more := [] } ["_law_k", "_law_some"] { kind := .function, names := [(".0", .local), ("_law_p", .local), ("_law_k", .free)], isGenerator := false, isCoroutine := false, more := [] } ["_law_p"] [0] := ⟨rfl, by decide +kernel, by decide +kernel, by decide +kernel, by decide +kernel, by decide +kernel⟩
theorem cs_law_only_0 : CompSc (defScope s_law_only) ["_law_met", "_law_name", "_law_names", "_law_due"] { kind := .function, names := [(".0", .local), ("_law_other", .local), ("_law_name", .free)], isGenerator := false, isCoroutine := false, more := [] } ["_law_other"] [1] := ⟨rfl, by decide +kernel, by decide +kernel, by decide +kernel, by decide +kernel, by decide +kernel⟩
theorem cs_law_apart_0 : CompSc (defScope s_law_apart) ["_law_j", "_law_many"] { kind := .function, names := [(".0", .local), ("_law_p", .local), ("_law_j", .free)], isGenerator := false, isCoroutine := false, more := [] } ["_law_p"] [0] := ⟨rfl, by decide +kernel, by decide +kernel, by decide +kernel, by decide +kernel, by decide +kernel⟩
theorem cs_law_0 : CompSc (defScope s_law) ["_law_script", "_law_many", "_law_one", "_law_held", "_law_wheel", "_law_cell"] { kind := .function, names := [(".0", .local), ("_law_k", .local), ("_law_number", .globalImplicit), ("_law_script", .free)], isGenerator := false, isCoroutine := false, more := [] } ["_law_k"] [0] := ⟨rfl, by decide +kernel, by decide +kernel, by decide +kernel, by decide +kernel, by decide +kernel⟩
set_option genInjectivity false in
set_option genSizeOf false in
structure Txt (K : PySem.W.Frag) (mg : Str → Option Value) where
  d_check_spokes : Df K mg "check_spokes" s_check_spokes ["many"]
  d_circle : Df K mg "circle" s_circle ["many"]
  d_next_circle : Df K mg "next_circle" s_next_circle ["many", "found"]
  d_divided : Df K mg "divided" s_divided ["polynomial", "divider"]
  d_law_whole : Df K mg "_law_whole" s_law_whole ["_law_found"]
  d_law_at : Df K mg "_law_at" s_law_at ["_law_script", "_law_k"]
  d_law_spokes : Df K mg "_law_spokes" s_law_spokes ["_law_cell"]
  d_law_primes : Df K mg "_law_primes" s_law_primes ["_law_many"]
  d_law_nought : Df K mg "_law_nought" s_law_nought ["_law_counts", "_law_many"]
  d_law_degree : Df K mg "_law_degree" s_law_degree ["_law_many"]
  d_law_is : Df K mg "_law_is" s_law_is ["_law_found", "_law_counts", "_law_many"]
  d_law_number : Df K mg "_law_number" s_law_number ["_law_script", "_law_at_here"]
  d_law_flags : Df K mg "_law_flags" s_law_flags ["_law_met"]
  d_law_only : Df K mg "_law_only" s_law_only ["_law_met", "_law_name"]
  d_law_step : Df K mg "_law_step" s_law_step ["_law_cell"]
  d_law_width : Df K mg "_law_width" s_law_width ["_law_cell", "_law_many"]
  d_law_apart : Df K mg "_law_apart" s_law_apart ["_law_j", "_law_many"]
  d_law_put : Df K mg "_law_put" s_law_put ["_law_one", "_law_step_here", "_law_many"]
  d_law_asked : Df K mg "_law_asked" s_law_asked ["_law_wheel", "_law_one", "_law_by", "_law_way"]
  d_law_moved : Df K mg "_law_moved" s_law_moved ["_law_wheel", "_law_one", "_law_j", "_law_many"]
  d_law_wider : Df K mg "_law_wider" s_law_wider ["_law_wheel", "_law_one", "_law_by", "_law_many"]
  d_law : Df K mg "law" s_law ["_law_script"]
  C_Wheel : Addr
  i_Wheel : Addr
  j_Wheel : FuncData
  k_Wheel : Cls K C_Wheel
  c_Wheel : mg "Wheel" = some (.ref C_Wheel)
  m_Wheel : Mk K C_Wheel i_Wheel
  f_Wheel : Fun K "__init__" "Wheel.__init__" s_Wheel_init i_Wheel j_Wheel
  b_Wheel : Binds K j_Wheel ["self", "many"] []
  n_Wheel_rim : NoAttr K C_Wheel "rim"
  n_Wheel_spokes : NoAttr K C_Wheel "spokes"
  n_Wheel_size : NoAttr K C_Wheel "size"
  q_Wheel_laid : Addr
  r_Wheel_laid : FuncData
  e_Wheel_laid : Meth K C_Wheel "laid" q_Wheel_laid
  f_Wheel_laid : Fun K "laid" "Wheel.laid" s_Wheel_laid q_Wheel_laid r_Wheel_laid
  b_Wheel_laid : Binds K r_Wheel_laid ["self", "counts", "step", "start"] []
  q_Wheel_moved : Addr
  r_Wheel_moved : FuncData
  e_Wheel_moved : Meth K C_Wheel "moved" q_Wheel_moved
  f_Wheel_moved : Fun K "moved" "Wheel.moved" s_Wheel_moved q_Wheel_moved r_Wheel_moved
  b_Wheel_moved : Binds K r_Wheel_moved ["self", "one", "j"] []
  q_Wheel_wider : Addr
  r_Wheel_wider : FuncData
  e_Wheel_wider : Meth K C_Wheel "wider" q_Wheel_wider
  f_Wheel_wider : Fun K "wider" "Wheel.wider" s_Wheel_wider q_Wheel_wider r_Wheel_wider
  b_Wheel_wider : Binds K r_Wheel_wider ["self", "one", "many"] []
  C_BookError : Addr
  c_BookError : mg "BookError" = some (.ref C_BookError)
  C_BadWheel : Addr
  c_BadWheel : mg "BadWheel" = some (.ref C_BadWheel)
  C_NoMove : Addr
  c_NoMove : mg "NoMove" = some (.ref C_NoMove)
  C_NoPart : Addr
  c_NoPart : mg "NoPart" = some (.ref C_NoPart)
  C_NotSteady : Addr
  c_NotSteady : mg "NotSteady" = some (.ref C_NotSteady)
  C_BadMarks : Addr
  c_BadMarks : mg "BadMarks" = some (.ref C_BadMarks)
  C_NoWay : Addr
  c_NoWay : mg "NoWay" = some (.ref C_NoWay)
  C_OtherGroup : Addr
  c_OtherGroup : mg "OtherGroup" = some (.ref C_OtherGroup)
  C_OtherWheel : Addr
  c_OtherWheel : mg "OtherWheel" = some (.ref C_OtherWheel)
  C_TooGreat : Addr
  c_TooGreat : mg "TooGreat" = some (.ref C_TooGreat)
  C_NotKept : Addr
  c_NotKept : mg "NotKept" = some (.ref C_NotKept)
  C_BadSize : Addr
  c_BadSize : mg "BadSize" = some (.ref C_BadSize)
  C_Stranger : Addr
  c_Stranger : mg "Stranger" = some (.ref C_Stranger)
  C_NoUnit : Addr
  c_NoUnit : mg "NoUnit" = some (.ref C_NoUnit)
  C_NoBack : Addr
  c_NoBack : mg "NoBack" = some (.ref C_NoBack)
  C_NotTogether : Addr
  c_NotTogether : mg "NotTogether" = some (.ref C_NotTogether)
  x_BadWheel : PySem.W.excIn K C_BadWheel bmV newV = true
  y_BadWheel : ExcCls K C_BadWheel
  e_BadWheel : PySem.W.exmOne K (.ref C_BadWheel) (.ref C_BookError) = some true
  x_NoMove : PySem.W.excIn K C_NoMove bmV newV = true
  y_NoMove : ExcCls K C_NoMove
  e_NoMove : PySem.W.exmOne K (.ref C_NoMove) (.ref C_BookError) = some true
  v_NoMove : PySem.W.kitOne K (.ref C_NoMove) (.type "ValueError") = some true
  f_NoMove_NoPart : PySem.W.kitOne K (.ref C_NoMove) (.ref C_NoPart) = some false
  f_NoMove_NotSteady : PySem.W.kitOne K (.ref C_NoMove) (.ref C_NotSteady) = some false
  f_NoMove_BadWheel : PySem.W.kitOne K (.ref C_NoMove) (.ref C_BadWheel) = some false
  f_NoMove_BadMarks : PySem.W.kitOne K (.ref C_NoMove) (.ref C_BadMarks) = some false
  f_NoMove_NoWay : PySem.W.kitOne K (.ref C_NoMove) (.ref C_NoWay) = some false
  f_NoMove_OtherGroup : PySem.W.kitOne K (.ref C_NoMove) (.ref C_OtherGroup) = some false
  f_NoMove_OtherWheel : PySem.W.kitOne K (.ref C_NoMove) (.ref C_OtherWheel) = some false
  f_NoMove_TooGreat : PySem.W.kitOne K (.ref C_NoMove) (.ref C_TooGreat) = some false
  f_NoMove_NotKept : PySem.W.kitOne K (.ref C_NoMove) (.ref C_NotKept) = some false
  f_NoMove_BadSize : PySem.W.kitOne K (.ref C_NoMove) (.ref C_BadSize) = some false
  f_NoMove_Stranger : PySem.W.kitOne K (.ref C_NoMove) (.ref C_Stranger) = some false
  f_NoMove_NoUnit : PySem.W.kitOne K (.ref C_NoMove) (.ref C_NoUnit) = some false
  f_NoMove_NoBack : PySem.W.kitOne K (.ref C_NoMove) (.ref C_NoBack) = some false
  f_NoMove_NotTogether : PySem.W.kitOne K (.ref C_NoMove) (.ref C_NotTogether) = some false
  v_BadWheel : PySem.W.kitOne K (.ref C_BadWheel) (.type "ValueError") = some true
  f_BadWheel_NoPart : PySem.W.kitOne K (.ref C_BadWheel) (.ref C_NoPart) = some false
  f_BadWheel_NotSteady : PySem.W.kitOne K (.ref C_BadWheel) (.ref C_NotSteady) = some false
  f_BadWheel_NoMove : PySem.W.kitOne K (.ref C_BadWheel) (.ref C_NoMove) = some false
  f_BadWheel_BadMarks : PySem.W.kitOne K (.ref C_BadWheel) (.ref C_BadMarks) = some false
  f_BadWheel_NoWay : PySem.W.kitOne K (.ref C_BadWheel) (.ref C_NoWay) = some false
  f_BadWheel_OtherGroup : PySem.W.kitOne K (.ref C_BadWheel) (.ref C_OtherGroup) = some false
  f_BadWheel_OtherWheel : PySem.W.kitOne K (.ref C_BadWheel) (.ref C_OtherWheel) = some false
  f_BadWheel_TooGreat : PySem.W.kitOne K (.ref C_BadWheel) (.ref C_TooGreat) = some false
  f_BadWheel_NotKept : PySem.W.kitOne K (.ref C_BadWheel) (.ref C_NotKept) = some false
  f_BadWheel_BadSize : PySem.W.kitOne K (.ref C_BadWheel) (.ref C_BadSize) = some false
  f_BadWheel_Stranger : PySem.W.kitOne K (.ref C_BadWheel) (.ref C_Stranger) = some false
  f_BadWheel_NoUnit : PySem.W.kitOne K (.ref C_BadWheel) (.ref C_NoUnit) = some false
  f_BadWheel_NoBack : PySem.W.kitOne K (.ref C_BadWheel) (.ref C_NoBack) = some false
  f_BadWheel_NotTogether : PySem.W.kitOne K (.ref C_BadWheel) (.ref C_NotTogether) = some false
  t_MOST_SPOKES : Tok
  g_MOST_SPOKES : mg "MOST_SPOKES" = some (.int 60 t_MOST_SPOKES)
  z_ValueError : mg "ValueError" = none
  z_all : mg "all" = none
  z_bool : mg "bool" = none
  z_enumerate : mg "enumerate" = none
  z_int : mg "int" = none
  z_isinstance : mg "isinstance" = none
  z_len : mg "len" = none
  z_list : mg "list" = none
  z_range : mg "range" = none
  z_reversed : mg "reversed" = none
def tb (t : List (List Nat)) (i j : Nat) : Nat := (t.getD i []).getD j 0
structure Sq (n : Nat) (t : List (List Nat)) : Prop where
  len : t.length = n
  pos : 1 ≤ n
  le : n ≤ 23
  row : ∀ (i : Nat) (r : List Nat), t[i]? = some r → r.length = n
structure Gd (n : Nat) (t : List (List Nat)) : Prop extends Sq n t where
  lt : ∀ i j, i < n → j < n → tb t i j < n
structure GT (n : Nat) (t : List (List Nat)) (e : Nat) : Prop extends Gd n t where
  elt : e < n
  unl : ∀ i, i < n → tb t e i = i
  unr : ∀ i, i < n → tb t i e = i
  back : ∀ i, i < n → ∃ b, b < n ∧ tb t i b = e ∧ tb t b i = e
  assoc : ∀ i j k, i < n → j < n → k < n → tb t (tb t i j) k = tb t i (tb t j k)
def leaves (n : Nat) (t : List (List Nat)) (x : Nat) : Prop := ∀ o, o < n → tb t x o = o ∧ tb t o x = o
instance {n : Nat} {t : List (List Nat)} {x : Nat} : Decidable (leaves n t x) := inferInstanceAs (Decidable (∀ o, o < n → tb t x o = o ∧ tb t o x = o))
/-- the least thing that leads a back -/
def bkOf (n : Nat) (t : List (List Nat)) (e a : Nat) : Nat := ((List.range n).find? fun b => decide (tb t a b = e ∧ tb t b a = e)).getD 0
theorem GT.bk {n : Nat} {t : List (List Nat)} {e a : Nat} (g : GT n t e) (ha : a < n) : bkOf n t e a < n ∧ tb t a (bkOf n t e a) = e ∧ tb t (bkOf n t e a) a = e := by
  obtain ⟨b, hb, h⟩ := g.back a ha
  unfold bkOf
  cases q : (List.range n).find? (fun b => decide (tb t a b = e ∧ tb t b a = e)) with
  | none =>
    rw [List.find?_range_eq_none] at q
    have := q b hb
    simp at this
    exact this.elim (fun z => absurd h.1 z) fun z => absurd h.2 z
  | some c =>
    have h1 := List.find?_some q
    have h2 := List.mem_range.mp (List.mem_of_find?_eq_some q)
    simp only [decide_eq_true_eq] at h1
    exact ⟨h2, h1⟩
/-- a product from the left -/
def prd (t : List (List Nat)) (e : Nat) (l : List Nat) : Nat := l.foldl (tb t) e
section
variable {m : Nat} {ad : Nat → Nat → Nat} {f : Nat → Nat} {s e : Nat}
end

section
variable {a b c : Nat}
end
theorem sub_len : ∀ {l1 l2 : List Nat}, l1.Nodup → (∀ x ∈ l1, x ∈ l2) → l1.length ≤ l2.length
  | [], _, _, _ => Nat.zero_le _
  | a :: l1, l2, nd, h => by
    have ha : a ∈ l2 := h a List.mem_cons_self
    rw [List.nodup_cons] at nd
    have ih := sub_len (l1 := l1) (l2 := l2.erase a) nd.2 fun x hx => (List.mem_erase_of_ne (show x ≠ a from fun e => nd.1 (by rw [← e]; exact hx))).mpr (h x (List.mem_cons_of_mem _ hx))
    rw [List.length_erase_of_mem ha] at ih
    have : 0 < l2.length := List.length_pos_of_mem ha
    rw [List.length_cons]
    omega
theorem map_nodup {f : Nat → Nat} : ∀ {l : List Nat}, l.Nodup → (∀ x ∈ l, ∀ y ∈ l, f x = f y → x = y) → (l.map f).Nodup
  | [], _, _ => by simp
  | a :: l, nd, h => by
    rw [List.nodup_cons] at nd
    rw [List.map_cons, List.nodup_cons]
    refine ⟨fun z => ?_, map_nodup nd.2 fun x hx y hy => h x (List.mem_cons_of_mem _ hx) y (List.mem_cons_of_mem _ hy)⟩
    obtain ⟨b, hb, e⟩ := List.mem_map.mp z
    exact nd.1 (h b (List.mem_cons_of_mem _ hb) a List.mem_cons_self e ▸ hb)
/-- more places than things: two are alike -/
theorem php {n : Nat} {f : Nat → Nat} (h : ∀ i, i ≤ n → f i < n) : ∃ i j, i < j ∧ j ≤ n ∧ f i = f j := by
  by_cases q : ∃ i j, i < j ∧ j ≤ n ∧ f i = f j
  · exact q
  · exfalso
    have nd : ((List.range (n + 1)).map f).Nodup := map_nodup List.nodup_range fun x hx y hy e => by
      have hx' := List.mem_range.mp hx
      have hy' := List.mem_range.mp hy
      rcases Nat.lt_trichotomy x y with z | z | z
      · exact absurd ⟨x, y, z, by omega, e⟩ q
      · exact z
      · exact absurd ⟨y, x, z, by omega, e.symm⟩ q
    have := sub_len nd (l2 := List.range n) fun x hx => by
      obtain ⟨i, hi, rfl⟩ := List.mem_map.mp hx
      exact List.mem_range.mpr (h i (by have := List.mem_range.mp hi; omega))
    simp at this
    omega
section
variable {n : Nat} {t : List (List Nat)} {e : Nat}
theorem GT.bk_lt (g : GT n t e) {a : Nat} (ha : a < n) : bkOf n t e a < n := (g.bk ha).1
theorem GT.bk_r (g : GT n t e) {a : Nat} (ha : a < n) : tb t a (bkOf n t e a) = e := (g.bk ha).2.1
theorem GT.bk_l (g : GT n t e) {a : Nat} (ha : a < n) : tb t (bkOf n t e a) a = e := (g.bk ha).2.2
theorem GT.cancel_l (g : GT n t e) {x y z : Nat} (hx : x < n) (hy : y < n) (hz : z < n) (h : tb t x y = tb t x z) : y = z := by
  have hb := g.bk_lt hx
  have h1 : tb t (bkOf n t e x) (tb t x y) = tb t (bkOf n t e x) (tb t x z) := by rw [h]
  rw [← g.assoc _ _ _ hb hx hy, ← g.assoc _ _ _ hb hx hz, g.bk_l hx, g.unl y hy, g.unl z hz] at h1
  exact h1
theorem GT.bk_uni (g : GT n t e) {a b : Nat} (ha : a < n) (hb : b < n) (h : tb t a b = e) : b = bkOf n t e a :=
  g.cancel_l ha hb (g.bk_lt ha) (h.trans (g.bk_r ha).symm)
/-- a to k -/
def apow (t : List (List Nat)) (e a : Nat) : Nat → Nat
  | 0 => e
  | k + 1 => tb t (apow t e a k) a
variable {a : Nat}
theorem apow_lt (g : GT n t e) (ha : a < n) : ∀ k, apow t e a k < n
  | 0 => g.elt
  | k + 1 => g.lt _ _ (apow_lt g ha k) ha
theorem apow_one (g : GT n t e) (ha : a < n) : apow t e a 1 = a := g.unl a ha
theorem apow_add (g : GT n t e) (ha : a < n) (i : Nat) : ∀ j, apow t e a (i + j) = tb t (apow t e a i) (apow t e a j)
  | 0 => (g.unr _ (apow_lt g ha i)).symm
  | j + 1 => by
    show tb t (apow t e a (i + j)) a = tb t (apow t e a i) (tb t (apow t e a j) a)
    rw [apow_add g ha i j, g.assoc _ _ _ (apow_lt g ha i) (apow_lt g ha j) ha]
theorem apow_ex (g : GT n t e) (ha : a < n) : ∃ k, k < n ∧ apow t e a (k + 1) = e := by
  obtain ⟨i, j, hij, hj, q⟩ := php (f := apow t e a) (n := n) fun i _ => apow_lt g ha i
  refine ⟨j - i - 1, by omega, ?_⟩
  have e1 : j = i + (j - i - 1 + 1) := by omega
  rw [e1, apow_add g ha] at q
  refine (g.cancel_l (apow_lt g ha i) (apow_lt g ha _) g.elt ?_)
  rw [← q, g.unr _ (apow_lt g ha i)]
/-- the order -/
def ordOf (n : Nat) (t : List (List Nat)) (e a : Nat) : Nat := ((List.range n).find? fun k => decide (apow t e a (k + 1) = e)).getD 0 + 1
theorem ord_spec (g : GT n t e) (ha : a < n) : ordOf n t e a ≤ n ∧ apow t e a (ordOf n t e a) = e ∧ ∀ k, 1 ≤ k → k < ordOf n t e a → apow t e a k ≠ e := by
  obtain ⟨k, hk, h⟩ := apow_ex g ha
  unfold ordOf
  cases q : (List.range n).find? (fun k => decide (apow t e a (k + 1) = e)) with
  | none =>
    rw [List.find?_range_eq_none] at q
    have := q k hk
    simp at this
    exact absurd h this
  | some c =>
    rw [List.find?_range_eq_some] at q
    obtain ⟨h1, h2, h3⟩ := q
    have h2' : c < n := by simpa using h2
    refine ⟨by show c + 1 ≤ n; omega, by simpa using h1, fun k k1 k2 z => ?_⟩
    have k2' : k < c + 1 := k2
    have := h3 (k - 1) (by omega)
    rw [show k - 1 + 1 = k by omega, z] at this
    simp at this
theorem ord_pos : 1 ≤ ordOf n t e a := Nat.succ_le_succ (Nat.zero_le _)
end
theorem sorted_nodup {l : List Nat} (h : l.Pairwise (· < ·)) : l.Nodup := h.imp fun z => Nat.ne_of_lt z
theorem len_le_of_nodup {l : List Nat} {n : Nat} (nd : l.Nodup) (h : ∀ x ∈ l, x < n) : l.length ≤ n := by
  have := sub_len nd (l2 := List.range n) fun x hx => List.mem_range.mpr (h x hx)
  simpa using this
section
variable {n : Nat} {t : List (List Nat)} {e : Nat}
theorem prd_tb (g : GT n t e) {x : Nat} (hx : x < n) : ∀ (l : List Nat) {a : Nat}, a < n → (∀ y ∈ l, y < n) → prd t (tb t x a) l = tb t x (prd t a l)
  | [], _, _, _ => rfl
  | y :: l, a, ha, hl => by
    have hy := hl y List.mem_cons_self
    show prd t (tb t (tb t x a) y) l = tb t x (prd t (tb t a y) l)
    rw [g.assoc x a y hx ha hy]
    exact prd_tb g hx l (g.lt a y ha hy) fun z hz => hl z (List.mem_cons_of_mem _ hz)
theorem prd_from (g : GT n t e) {x : Nat} (hx : x < n) {l : List Nat} (hl : ∀ y ∈ l, y < n) : prd t x l = tb t x (prd t e l) := by
  rw [← prd_tb g hx l g.elt hl, g.unr x hx]
/-- the part that the things of S make, rising -/
structure Gen (n : Nat) (t : List (List Nat)) (e : Nat) (S P : List Nat) : Prop where
  srt : P.Pairwise (· < ·)
  lt : ∀ x ∈ P, x < n
  un : e ∈ P
  cl : ∀ x ∈ P, ∀ s ∈ S, tb t x s ∈ P
  wd : ∀ x ∈ P, ∃ l, (∀ y ∈ l, y ∈ S) ∧ prd t e l = x
/-- a part -/
structure IsPart (n : Nat) (t : List (List Nat)) (P : List Nat) : Prop where
  srt : P.Pairwise (· < ·)
  lt : ∀ x ∈ P, x < n
  ne : P ≠ []
  cl : ∀ x ∈ P, ∀ y ∈ P, tb t x y ∈ P
variable {S P : List Nat}
theorem Gen.walk (G : Gen n t e S P) : ∀ (l : List Nat) {x : Nat}, x ∈ P → (∀ y ∈ l, y ∈ S) → prd t x l ∈ P
  | [], _, hx, _ => hx
  | y :: l, x, hx, hl => G.walk l (G.cl x hx y (hl y List.mem_cons_self)) fun z hz => hl z (List.mem_cons_of_mem _ hz)
theorem Gen.part (G : Gen n t e S P) (g : GT n t e) (hS : ∀ s ∈ S, s < n) : IsPart n t P := by
  refine ⟨G.srt, G.lt, List.ne_nil_of_mem G.un, fun x hx y hy => ?_⟩
  obtain ⟨l, hl, rfl⟩ := G.wd y hy
  rw [← prd_from g (G.lt x hx) fun z hz => hS z (hl z hz)]
  exact G.walk l hx hl
theorem IsPart.pow (h : IsPart n t P) (g : GT n t e) {x : Nat} (hx : x ∈ P) : ∀ k, apow t e x (k + 1) ∈ P
  | 0 => by rw [apow_one g (h.lt x hx)]; exact hx
  | k + 1 => h.cl _ (h.pow g hx k) _ hx
theorem IsPart.un (h : IsPart n t P) (g : GT n t e) : e ∈ P := by
  obtain ⟨x, hx⟩ := List.exists_mem_of_ne_nil _ h.ne
  have o := ord_spec g (h.lt x hx)
  have := h.pow g hx (ordOf n t e x - 1)
  rw [show ordOf n t e x - 1 + 1 = ordOf n t e x by have := ord_pos (n := n) (t := t) (e := e) (a := x); omega, o.2.1] at this
  exact this
theorem IsPart.bk (h : IsPart n t P) (g : GT n t e) {x : Nat} (hx : x ∈ P) : bkOf n t e x ∈ P := by
  have hn := h.lt x hx
  have o := ord_spec g hn
  have op : 1 ≤ ordOf n t e x := ord_pos
  have q : tb t x (apow t e x (ordOf n t e x - 1)) = e := by
    have := apow_add g hn 1 (ordOf n t e x - 1)
    rw [show 1 + (ordOf n t e x - 1) = ordOf n t e x by omega, o.2.1, apow_one g hn] at this
    exact this.symm
  rw [← g.bk_uni hn (apow_lt g hn _) q]
  cases h1 : ordOf n t e x - 1 with
  | zero => exact h.un g
  | succ k => exact h.pow g hx k
theorem IsPart.len (h : IsPart n t P) : P.length ≤ n := len_le_of_nodup (sorted_nodup h.srt) h.lt
theorem Gen.len (G : Gen n t e S P) : P.length ≤ n := len_le_of_nodup (sorted_nodup G.srt) G.lt
theorem Gen.has (G : Gen n t e S P) (g : GT n t e) {s : Nat} (hs : s ∈ S) (hn : s < n) : s ∈ P := by
  have := G.cl e G.un s hs
  rw [g.unl s hn] at this
  exact this
/-- it is the least part with S -/
theorem Gen.least (G : Gen n t e S P) {R : List Nat} (he : e ∈ R) (cl : ∀ x ∈ R, ∀ s ∈ S, tb t x s ∈ R) : ∀ x ∈ P, x ∈ R := fun x hx => by
  obtain ⟨l, hl, rfl⟩ := G.wd x hx
  have key : ∀ (l : List Nat) {a : Nat}, a ∈ R → (∀ y ∈ l, y ∈ S) → prd t a l ∈ R := fun l => by
    induction l with
    | nil => intro a ha _; exact ha
    | cons y r ih => intro a ha hy; exact ih (cl a ha y (hy y List.mem_cons_self)) fun z hz => hy z (List.mem_cons_of_mem _ hz)
  exact key l he hl
/-- on the way: what is found so far, and what has been gone through -/
structure Grow (n : Nat) (t : List (List Nat)) (e : Nat) (S F : List Nat) (A : Nat) : Prop where
  nd : F.Nodup
  lt : ∀ x ∈ F, x < n
  un : e ∈ F
  le : A ≤ F.length
  cl : ∀ i x, i < A → F[i]? = some x → ∀ s ∈ S, tb t x s ∈ F
  wd : ∀ x ∈ F, ∃ l, (∀ y ∈ l, y ∈ S) ∧ prd t e l = x
theorem Grow.len {F : List Nat} {A : Nat} (G : Grow n t e S F A) : F.length ≤ n := len_le_of_nodup G.nd G.lt
end
section
variable {n : Nat} {t : List (List Nat)} {e : Nat} {R : List Nat}
structure SidesTo (n : Nat) (t : List (List Nat)) (e : Nat) (R : List Nat) (L : List (List Nat)) (i : Nat) : Prop where
  ne : ∀ s ∈ L, s ≠ []
  srt : ∀ s ∈ L, s.Pairwise (· < ·)
  lt : ∀ s ∈ L, ∀ x ∈ s, x < n
  len : ∀ s ∈ L, s.length = R.length
  full : ∀ s ∈ L, ∀ y, y < n → (y ∈ s ↔ tb t (bkOf n t e (s.getD 0 0)) y ∈ R)
  heads : (L.map fun s => s.getD 0 0).Pairwise (· < ·)
  hl : ∀ s ∈ L, s.getD 0 0 < i
  nd : L.flatten.Nodup
  cov : ∀ y, y < i → y ∈ L.flatten
theorem SidesTo.nil : SidesTo n t e R [] 0 :=
  ⟨by simp, by simp, by simp, by simp, by simp, by simp, by simp, by simp, fun y h => absurd h (by omega)⟩
end
section
variable {n : Nat} {t : List (List Nat)} {e : Nat} {S F : List Nat} {W : List (List Nat)}
end
section
variable {n : Nat} {t : List (List Nat)} {e : Nat} {R : List Nat}
end

section
variable {t : List (List Nat)} {R M : List Nat} {m : Nat}
end

section
/-- the sums of the numbers of a list by their places round a wheel of m spokes, the first number at place o -/
def Sg (m : Nat) : Nat → List Int → Nat → Int
  | _, [], _ => 0
  | o, x :: l, k => (if o % m = k then x else 0) + Sg m (o + 1) l k
theorem Sg_app (m : Nat) : ∀ (a b : List Int) (o k : Nat), Sg m o (a ++ b) k = Sg m o a k + Sg m (o + a.length) b k
  | [], b, o, k => by simp [Sg]
  | x :: a, b, o, k => by
    show (if o % m = k then x else 0) + Sg m (o + 1) (a ++ b) k = (if o % m = k then x else 0) + Sg m (o + 1) a k + Sg m (o + (a.length + 1)) b k
    rw [Sg_app m a b, show o + 1 + a.length = o + (a.length + 1) by omega, Int.add_assoc]
theorem Sg_zip (m : Nat) (t : Int) : ∀ (b c : List Int) (o k : Nat), b.length = c.length → Sg m o (List.zipWith (fun x y => x - t * y) b c) k = Sg m o b k - t * Sg m o c k
  | [], [], o, k, _ => by simp [Sg]
  | x :: b, y :: c, o, k, h => by
    show (if o % m = k then x - t * y else 0) + Sg m (o + 1) (List.zipWith (fun x y => x - t * y) b c) k = ((if o % m = k then x else 0) + Sg m (o + 1) b k) - t * ((if o % m = k then y else 0) + Sg m (o + 1) c k)
    rw [Sg_zip m t b c (o + 1) k (by simpa using h), Int.mul_add]
    split
    · omega
    · rw [Int.mul_zero]; omega
  | [], _ :: _, _, _, h => by simp at h
  | _ :: _, [], _, _, h => by simp at h
theorem Sg_rep (m : Nat) : ∀ (n o k : Nat), Sg m o (List.replicate n 0) k = 0
  | 0, _, _ => rfl
  | n + 1, o, k => by
    show (if o % m = k then 0 else 0) + Sg m (o + 1) (List.replicate n 0) k = 0
    rw [Sg_rep m n]
    split <;> rfl
theorem shift_mod {m o s k : Nat} (hm : 0 < m) (hk : k < m) : (o + s) % m = k ↔ o % m = (k + (m - s % m)) % m := by
  have hs := Nat.mod_lt s hm
  have ds := Nat.div_add_mod s m
  constructor
  · rintro rfl
    rw [Nat.mod_add_mod, show o + s + (m - s % m) = o + m * (s / m + 1) by rw [Nat.mul_add]; omega, Nat.add_mul_mod_self_left]
  · intro h
    have e : (o + s) % m = (o % m + s) % m := (Nat.mod_add_mod o m s).symm
    rw [e, h, Nat.mod_add_mod, show k + (m - s % m) + s = k + m * (s / m + 1) by rw [Nat.mul_add]; omega, Nat.add_mul_mod_self_left, Nat.mod_eq_of_lt hk]
theorem Sg_shift {m : Nat} (hm : 0 < m) (s : Nat) : ∀ (d : List Int) (o k : Nat), k < m → Sg m (o + s) d k = Sg m o d ((k + (m - s % m)) % m)
  | [], _, _, _ => rfl
  | x :: d, o, k, hk => by
    show (if (o + s) % m = k then x else 0) + Sg m (o + s + 1) d k = (if o % m = (k + (m - s % m)) % m then x else 0) + Sg m (o + 1) d ((k + (m - s % m)) % m)
    rw [show o + s + 1 = o + 1 + s by omega, Sg_shift hm s d (o + 1) k hk]
    congr 1
    by_cases h : (o + s) % m = k
    · rw [if_pos h, if_pos ((shift_mod hm hk).mp h)]
    · rw [if_neg h, if_neg fun z => h ((shift_mod hm hk).mpr z)]
/-- a sum less itself turned by q -/
def Dm (m q : Nat) (f : Nat → Int) (k : Nat) : Int := f k - f ((k + (m - q)) % m)
def Dq (m : Nat) (qs : List Nat) (f : Nat → Int) : Nat → Int := qs.foldl (fun f q => Dm m q f) f
theorem Dq_lin (m : Nat) (c : Int) (hm : 0 < m) : ∀ (qs : List Nat) (f g h : Nat → Int), (∀ k, k < m → h k = f k - c * g k) → ∀ k, k < m → Dq m qs h k = Dq m qs f k - c * Dq m qs g k
  | [], f, g, h, e, k, hk => e k hk
  | q :: qs, f, g, h, e, k, hk => by
    refine Dq_lin m c hm qs (Dm m q f) (Dm m q g) (Dm m q h) (fun k hk => ?_) k hk
    unfold Dm
    rw [e k hk, e _ (Nat.mod_lt _ hm), Int.mul_sub]
    omega
theorem Dq_rot (m r : Nat) (hm : 0 < m) : ∀ (qs : List Nat) (f g : Nat → Int), (∀ k, k < m → g k = f ((k + r) % m)) → ∀ k, k < m → Dq m qs g k = Dq m qs f ((k + r) % m)
  | [], f, g, e, k, hk => e k hk
  | q :: qs, f, g, e, k, hk => by
    refine Dq_rot m r hm qs (Dm m q f) (Dm m q g) (fun k hk => ?_) k hk
    unfold Dm
    rw [e k hk, e _ (Nat.mod_lt _ hm), Nat.mod_add_mod, Nat.mod_add_mod, show k + (m - q) + r = k + r + (m - q) by omega]
/-- nought round the wheel -/
def Nought (m : Nat) (qs : List Nat) (l : List Int) : Prop := ∀ k, k < m → Dq m qs (Sg m 0 l) k = 0
/-- one step of a division: the last number times the divider is taken away -/
def divStep (d l : List Int) : List Int :=
  l.dropLast.take (l.length - d.length) ++ List.zipWith (fun x c => x - l.getLastD 0 * c) (l.dropLast.drop (l.length - d.length)) d.dropLast
def divGo (d : List Int) : Nat → List Int → List Int → List Int × List Int
  | 0, l, tk => (tk.reverse, l)
  | n + 1, l, tk => divGo d n (divStep d l) (tk ++ [l.getLastD 0])
def divd (p d : List Int) : List Int × List Int := divGo d (p.length + 1 - d.length) p []
theorem getLastD_eq {l : List Int} (h : l ≠ []) : l.dropLast ++ [l.getLastD 0] = l := by
  have := List.dropLast_concat_getLast h
  rw [List.getLastD_eq_getLast?, List.getLast?_eq_getLast h]
  exact this
theorem divStep_len {d l : List Int} (hd : d ≠ []) (hl : d.length ≤ l.length) : (divStep d l).length = l.length - 1 := by
  have := List.length_pos_iff.mpr hd
  unfold divStep
  simp
  omega
theorem divStep_Sg {m : Nat} (hm : 0 < m) {d l : List Int} (hd : d.getLastD 0 = 1) (hn : d ≠ []) (hl : d.length ≤ l.length) {k : Nat} (hk : k < m) :
    Sg m 0 (divStep d l) k = Sg m 0 l k - l.getLastD 0 * Sg m (l.length - d.length) d k := by
  have dp := List.length_pos_iff.mpr hn
  have ln : l ≠ [] := fun z => by rw [z] at hl; simp at hl; exact hn hl
  have e1 : Sg m 0 l k = Sg m 0 l.dropLast k + Sg m (l.length - 1) [l.getLastD 0] k := by
    conv => lhs; rw [← getLastD_eq ln]
    rw [Sg_app]
    simp
  have e2 : Sg m (l.length - d.length) d k = Sg m (l.length - d.length) d.dropLast k + Sg m (l.length - 1) [1] k := by
    have z := Sg_app m d.dropLast [d.getLastD 0] (l.length - d.length) k
    rw [getLastD_eq hn, hd, List.length_dropLast, show l.length - d.length + (d.length - 1) = l.length - 1 by omega] at z
    exact z
  have e3 : Sg m 0 l.dropLast k = Sg m 0 (l.dropLast.take (l.length - d.length)) k + Sg m (l.length - d.length) (l.dropLast.drop (l.length - d.length)) k := by
    conv => lhs; rw [← List.take_append_drop (l.length - d.length) l.dropLast]
    rw [Sg_app]
    simp
    rw [show min (l.length - d.length) (l.length - 1) = l.length - d.length by omega]
  unfold divStep
  rw [Sg_app, Sg_zip _ _ _ _ _ _ (by simp; omega), e1, e2, e3]
  simp only [Sg, List.length_take, List.length_dropLast]
  rw [show min (l.length - d.length) (l.length - 1) = l.length - d.length by omega, Nat.zero_add, Int.mul_add, Int.mul_add]
  split <;> simp <;> omega
theorem divStep_D {m : Nat} (hm : 0 < m) {qs : List Nat} {d l : List Int} (hd : d.getLastD 0 = 1) (hn : d ≠ []) (hl : d.length ≤ l.length) (N : Nought m qs d) {k : Nat} (hk : k < m) :
    Dq m qs (Sg m 0 (divStep d l)) k = Dq m qs (Sg m 0 l) k := by
  have h1 := Dq_lin m (l.getLastD 0) hm qs (Sg m 0 l) (Sg m (l.length - d.length) d) (Sg m 0 (divStep d l)) (fun k hk => divStep_Sg hm hd hn hl hk) k hk
  have h2 := Dq_rot m (m - (l.length - d.length) % m) hm qs (Sg m 0 d) (Sg m (l.length - d.length) d) (fun k hk => by
    have := Sg_shift hm (l.length - d.length) d 0 k hk
    rw [Nat.zero_add] at this
    exact this) k hk
  rw [h1, h2, N _ (Nat.mod_lt _ hm)]
  simp
theorem divGo_D {m : Nat} (hm : 0 < m) {qs : List Nat} {d : List Int} (hd : d.getLastD 0 = 1) (hn : d ≠ []) (N : Nought m qs d) : ∀ (n : Nat) (l tk : List Int), l.length + 1 - d.length = n → ∀ k, k < m → Dq m qs (Sg m 0 (divGo d n l tk).2) k = Dq m qs (Sg m 0 l) k
  | 0, l, tk, _, k, hk => rfl
  | n + 1, l, tk, h, k, hk => by
    have hl : d.length ≤ l.length := by omega
    have e := divStep_len hn hl
    have dp := List.length_pos_iff.mpr hn
    show Dq m qs (Sg m 0 (divGo d n (divStep d l) _).2) k = _
    rw [divGo_D hm hd hn N n _ _ (by omega) k hk, divStep_D hm hd hn hl N hk]
theorem divd_D {m : Nat} (hm : 0 < m) {qs : List Nat} {p d : List Int} (hd : d.getLastD 0 = 1) (hn : d ≠ []) (N : Nought m qs d) {k : Nat} (hk : k < m) : Dq m qs (Sg m 0 (divd p d).2) k = Dq m qs (Sg m 0 p) k :=
  divGo_D hm hd hn N _ p [] rfl k hk
theorem divGo_len {d : List Int} (hn : d ≠ []) : ∀ (n : Nat) (l tk : List Int), l.length + 1 - d.length = n → d.length ≤ l.length + 1 → (divGo d n l tk).2.length = d.length - 1
  | 0, l, tk, h, h2 => by show l.length = _; omega
  | n + 1, l, tk, h, h2 => by
    have dp := List.length_pos_iff.mpr hn
    have e := divStep_len hn (show d.length ≤ l.length by omega)
    exact divGo_len hn n _ _ (by omega) (by omega)
theorem divd_len {p d : List Int} (hn : d ≠ []) (h : d.length ≤ p.length + 1) : (divd p d).2.length = d.length - 1 := divGo_len hn _ p [] rfl h
/-- the circles that the program finds on the way to m -/
def nextC (m : Nat) (fs : List (Nat × List Int)) : List Int := fs.foldl (fun l f => if m % f.1 = 0 then (divd l f.2).1 else l) ([-1] ++ List.replicate (m - 1) 0 ++ [1])
def circs (m : Nat) : Nat → List (Nat × List Int)
  | 0 => []
  | k + 1 => if m % (k + 1) = 0 then circs m k ++ [(k + 1, nextC (k + 1) (circs m k))] else circs m k
def circ (m : Nat) : List Int := nextC m (circs m (m - 1))
/-- the primes of m, as the laws find them -/
def strip (p : Nat) : Nat → Nat → Nat
  | 0, r => r
  | f + 1, r => if r % p = 0 then strip p f (r / p) else r
def primesGo (m : Nat) : Nat → List Nat × Nat
  | 0 => ([], m)
  | k + 1 => let (l, r) := primesGo m k
    (if r % (k + 2) = 0 then l ++ [k + 2] else l, strip (k + 2) 64 r)
def primesL (m : Nat) : List Nat := (primesGo m (m - 1)).1
def qsOf (m : Nat) : List Nat := (primesL m).map fun p => m / p
def degL (m : Nat) : Nat := ((List.range m).filter fun k => (primesL m).all fun p => (k + 1) % p ≠ 0).length
def smallL (l : List Int) : Bool := l.all fun c => decide (-1000 ≤ c) && decide (c ≤ 1000)
/-- what is asked of the circles of m, by reckoning -/
def wheelOk (m : Nat) : Bool :=
  decide ((circ m).length = degL m + 1) && decide ((circ m).getLastD 0 = 1) && smallL (circ m) && (circs m m).all (fun f => smallL f.2 && decide (f.2.getLastD 0 = 1)) && decide (circ m ≠ []) &&
  (List.range m).all (fun k => decide (Dq m (qsOf m) (Sg m 0 (circ m)) k = 0))
/-- the numbers from place st on, j of them, less t times the divider's -/
def subTo (t : Int) (d : List Int) (st j : Nat) (l : List Int) : List Int := l.mapIdx fun i x => if st ≤ i ∧ i < st + j then x - t * d.getD (i - st) 0 else x
theorem subTo_get {t : Int} {d l : List Int} {st j i : Nat} : (subTo t d st j l)[i]? = l[i]?.map fun x => if st ≤ i ∧ i < st + j then x - t * d.getD (i - st) 0 else x := by
  unfold subTo
  rw [List.getElem?_mapIdx]
theorem subTo_len {t : Int} {d l : List Int} {st j : Nat} : (subTo t d st j l).length = l.length := by
  unfold subTo
  rw [List.length_mapIdx]
theorem subTo_zero {t : Int} {d l : List Int} {st : Nat} : subTo t d st 0 l = l := by
  refine List.ext_getElem? fun i => ?_
  rw [subTo_get]
  cases l[i]? with
  | none => rfl
  | some x => rw [Option.map_some, if_neg (by omega)]
theorem subTo_at {t : Int} {d l : List Int} {st j : Nat} (h : st + j < l.length) : (subTo t d st j l)[st + j]? = some (l.getD (st + j) 0) := by
  rw [subTo_get, List.getElem?_eq_getElem h, Option.map_some, if_neg (by omega)]
  simp [List.getD, List.getElem?_eq_getElem h]
theorem subTo_set {t : Int} {d l : List Int} {st j : Nat} (h : st + j < l.length) : (subTo t d st j l).set (st + j) (l.getD (st + j) 0 - t * d.getD j 0) = subTo t d st (j + 1) l := by
  refine List.ext_getElem? fun i => ?_
  rw [List.getElem?_set, subTo_get, subTo_get, subTo_len]
  by_cases e : st + j = i
  · subst e
    rw [if_pos rfl, if_pos h, List.getElem?_eq_getElem h, Option.map_some, if_pos (by omega), show st + j - st = j by omega]
    simp [List.getD, List.getElem?_eq_getElem h]
  · rw [if_neg e]
    cases l[i]? with
    | none => rfl
    | some x =>
      rw [Option.map_some, Option.map_some]
      by_cases c : st ≤ i ∧ i < st + j
      · rw [if_pos c, if_pos (by omega)]
      · rw [if_neg c, if_neg (by omega)]
theorem subTo_step {d l : List Int} (hn : d ≠ []) (hl : d.length ≤ l.length) : subTo (l.getLastD 0) d (l.length - d.length) (d.length - 1) l.dropLast = divStep d l := by
  have dp := List.length_pos_iff.mpr hn
  refine List.ext_getElem? fun i => ?_
  rw [subTo_get]
  unfold divStep
  rcases Nat.lt_or_ge i (l.length - d.length) with z | z
  · rw [List.getElem?_append_left (by simp; omega), List.getElem?_take_of_lt z]
    cases l.dropLast[i]? with
    | none => rfl
    | some x => rw [Option.map_some, if_neg (by omega)]
  · rw [List.getElem?_append_right (by simp; omega), List.getElem?_zipWith, List.getElem?_drop]
    simp only [List.length_take, List.length_dropLast]
    rw [show min (l.length - d.length) (l.length - 1) = l.length - d.length by omega, show l.length - d.length + (i - (l.length - d.length)) = i by omega]
    rcases Nat.lt_or_ge i (l.length - 1) with y | y
    · have h1 : i < l.dropLast.length := by simp; exact y
      have h2 : i - (l.length - d.length) < d.dropLast.length := by simp; omega
      have h3 : i - (l.length - d.length) < d.length := by omega
      rw [List.getElem?_eq_getElem h1, List.getElem?_eq_getElem h2, Option.map_some, if_pos (by omega)]
      simp [List.getD, List.getElem?_eq_getElem h3, List.getElem_dropLast]
    · rw [List.getElem?_eq_none (by simp; omega)]
      rfl
theorem small_get {l : List Int} (h : smallL l = true) (j : Nat) : -1000 ≤ l.getD j 0 ∧ l.getD j 0 ≤ 1000 := by
  unfold smallL at h
  rw [List.all_eq_true] at h
  by_cases hj : j < l.length
  · have := h l[j] (List.getElem_mem hj)
    simp at this
    simp [List.getD, List.getElem?_eq_getElem hj]
    exact this
  · rw [List.getD, List.getElem?_eq_none (by omega)]
    exact ⟨by decide, by decide⟩
theorem divGo_fst (d : List Int) : ∀ (n : Nat) (l tk : List Int), (divGo d n l tk).1.length = tk.length + n
  | 0, l, tk => by show tk.reverse.length = _; simp
  | n + 1, l, tk => by
    show (divGo d n (divStep d l) (tk ++ [l.getLastD 0])).1.length = _
    rw [divGo_fst d n]
    simp
    omega
theorem divd_fst {l d : List Int} (hn : d ≠ []) : (divd l d).1.length ≤ l.length := by
  have := List.length_pos_iff.mpr hn
  unfold divd
  rw [divGo_fst]
  simp
  omega
def nextS (m : Nat) (fs : List (Nat × List Int)) (l : List Int) : List Int := fs.foldl (fun l f => if m % f.1 = 0 then (divd l f.2).1 else l) l
theorem nextS_snoc (m : Nat) (fs : List (Nat × List Int)) (f : Nat × List Int) (l : List Int) : nextS m (fs ++ [f]) l = if m % f.1 = 0 then (divd (nextS m fs l) f.2).1 else nextS m fs l := by
  unfold nextS
  rw [List.foldl_append]
  rfl
/-- a list laid round a wheel: the number at place k counts spoke st + sp times k -/
def layP (m : Nat) (sp st : Int) (k : Nat) : Nat := ((st + sp * (k : Int)) % (m : Int)).toNat
def layTo (m : Nat) (sp st : Int) (l : List Int) : List Int := l.zipIdx.foldl (fun tot x => tot.set (layP m sp st x.2) (tot.getD (layP m sp st x.2) 0 + x.1)) (List.replicate m 0)
theorem layP_lt {m : Nat} (hm : 0 < m) (sp st : Int) (k : Nat) : layP m sp st k < m := by
  unfold layP
  have h1 := Int.emod_nonneg (st + sp * (k : Int)) (show (m : Int) ≠ 0 by omega)
  have h2 := Int.emod_lt_of_pos (st + sp * (k : Int)) (show (0 : Int) < m by omega)
  omega
theorem layP_cast {m : Nat} (hm : 0 < m) (sp st : Int) (k : Nat) : ((layP m sp st k : Nat) : Int) = (st + sp * (k : Int)) % (m : Int) := by
  unfold layP
  have h1 := Int.emod_nonneg (st + sp * (k : Int)) (show (m : Int) ≠ 0 by omega)
  omega
theorem layTo_snoc (m : Nat) (sp st : Int) (l : List Int) (x : Int) : layTo m sp st (l ++ [x]) = (layTo m sp st l).set (layP m sp st l.length) ((layTo m sp st l).getD (layP m sp st l.length) 0 + x) := by
  unfold layTo
  rw [List.zipIdx_append, List.foldl_append]
  simp
theorem layTo_len (m : Nat) (sp st : Int) (l : List Int) : (layTo m sp st l).length = m := by
  unfold layTo
  generalize l.zipIdx = z
  have : ∀ (z : List (Int × Nat)) (tot : List Int), (z.foldl (fun tot x => tot.set (layP m sp st x.2) (tot.getD (layP m sp st x.2) 0 + x.1)) tot).length = tot.length := fun z => by
    induction z with
    | nil => intro tot; rfl
    | cons a r ih => intro tot; rw [List.foldl_cons, ih, List.length_set]
  rw [this, List.length_replicate]
theorem Sg_set (m : Nat) (x : Int) : ∀ (tot : List Int) (o p k : Nat), p < tot.length → Sg m o (tot.set p (tot.getD p 0 + x)) k = Sg m o tot k + (if (o + p) % m = k then x else 0)
  | [], _, _, _, h => by simp at h
  | y :: tot, o, 0, k, _ => by
    show (if o % m = k then y + x else 0) + Sg m (o + 1) tot k = (if o % m = k then y else 0) + Sg m (o + 1) tot k + (if (o + 0) % m = k then x else 0)
    by_cases c : o % m = k
    · rw [if_pos c, if_pos c, if_pos (by simpa using c)]; omega
    · rw [if_neg c, if_neg c, if_neg (by simpa using c)]; omega
  | y :: tot, o, p + 1, k, h => by
    show (if o % m = k then y else 0) + Sg m (o + 1) (tot.set p (tot.getD p 0 + x)) k = (if o % m = k then y else 0) + Sg m (o + 1) tot k + (if (o + (p + 1)) % m = k then x else 0)
    rw [Sg_set m x tot (o + 1) p k (by simpa using h), show o + 1 + p = o + (p + 1) by omega, Int.add_assoc]
theorem Sg_lay {m : Nat} (hm : 0 < m) {k : Nat} : ∀ (n : Nat) (l : List Int), l.length = n → Sg m 0 (layTo m 1 0 l) k = Sg m 0 l k
  | 0, l, h => by
    have : l = [] := List.eq_nil_of_length_eq_zero h
    subst this
    show Sg m 0 (List.replicate m 0) k = 0
    exact Sg_rep m m 0 k
  | n + 1, l, h => by
    have ln : l ≠ [] := fun z => by rw [z] at h; simp at h
    obtain ⟨l', x, rfl⟩ : ∃ l' x, l = l' ++ [x] := ⟨l.dropLast, l.getLast ln, (List.dropLast_concat_getLast ln).symm⟩
    have hl : l'.length = n := by simpa using h
    rw [layTo_snoc, Sg_set m x _ 0 _ k (by rw [layTo_len]; exact layP_lt hm _ _ _), Sg_lay hm n l' hl, Sg_app]
    congr 1
    show _ = (if (0 + l'.length) % m = k then x else 0) + 0
    have e : (0 + layP m 1 0 l'.length) % m = (0 + l'.length) % m := by
      have c := layP_cast hm 1 0 l'.length
      rw [Nat.zero_add, Nat.zero_add, Nat.mod_eq_of_lt (layP_lt hm _ _ _)]
      have : ((layP m 1 0 l'.length : Nat) : Int) = ((l'.length % m : Nat) : Int) := by rw [c]; simp
      exact Int.ofNat.inj this
    rw [e, Int.add_zero]
/-- the lowest form -/
def lowL (m : Nat) (l : List Int) : List Int := (divd (layTo m 1 0 l) (circ m)).2
structure WheelOk (m : Nat) : Prop where
  len : (circ m).length = degL m + 1
  last : (circ m).getLastD 0 = 1
  sm : smallL (circ m) = true
  ne : circ m ≠ []
  no : Nought m (qsOf m) (circ m)
theorem wheelOk_of {m : Nat} (h : wheelOk m = true) : WheelOk m := by
  unfold wheelOk at h
  simp only [Bool.and_eq_true, decide_eq_true_eq] at h
  obtain ⟨⟨⟨⟨⟨h1, h2⟩, h3⟩, _⟩, h5⟩, h6⟩ := h
  refine ⟨h1, h2, h3, h5, fun k hk => ?_⟩
  rw [List.all_eq_true] at h6
  simpa using h6 k (List.mem_range.mpr hk)
theorem lowL_D {m : Nat} (hm : 0 < m) (W : WheelOk m) (l : List Int) {k : Nat} (hk : k < m) : Dq m (qsOf m) (Sg m 0 (lowL m l)) k = Dq m (qsOf m) (Sg m 0 l) k := by
  unfold lowL
  rw [divd_D hm W.last W.ne W.no hk]
  have := Dq_rot m 0 hm (qsOf m) (Sg m 0 l) (Sg m 0 (layTo m 1 0 l)) (fun k hk => by rw [Nat.add_zero, Nat.mod_eq_of_lt hk]; exact Sg_lay hm l.length l rfl) k hk
  rw [Nat.add_zero, Nat.mod_eq_of_lt hk] at this
  exact this
theorem lowL_len {m : Nat} (W : WheelOk m) (hd : degL m ≤ m) (l : List Int) : (lowL m l).length = degL m := by
  unfold lowL
  rw [divd_len W.ne (by rw [layTo_len, W.len]; omega), W.len]
  rfl
end

def WG (m : Nat) : Prop := wheelOk m = true ∧ degL m ≤ m ∧ ∀ p ∈ primesL m, 1 ≤ m / p ∧ m / p ≤ m ∧ 0 < p ∧ p ≤ 1000
instance (m : Nat) : Decidable (WG m) := by unfold WG; infer_instance
theorem wg_1 : WG 1 := by decide +kernel
theorem wg_2 : WG 2 := by decide +kernel
theorem wg_3 : WG 3 := by decide +kernel
theorem wg_4 : WG 4 := by decide +kernel
theorem wg_5 : WG 5 := by decide +kernel
theorem wg_6 : WG 6 := by decide +kernel
theorem wg_7 : WG 7 := by decide +kernel
theorem wg_8 : WG 8 := by decide +kernel
theorem wg_9 : WG 9 := by decide +kernel
theorem wg_10 : WG 10 := by decide +kernel
theorem wg_11 : WG 11 := by decide +kernel
theorem wg_12 : WG 12 := by decide +kernel
theorem wg_13 : WG 13 := by decide +kernel
theorem wg_14 : WG 14 := by decide +kernel
theorem wg_15 : WG 15 := by decide +kernel
theorem wg_16 : WG 16 := by decide +kernel
theorem wg_17 : WG 17 := by decide +kernel
theorem wg_18 : WG 18 := by decide +kernel
theorem wg_19 : WG 19 := by decide +kernel
theorem wg_20 : WG 20 := by decide +kernel
theorem wg_21 : WG 21 := by decide +kernel
theorem wg_22 : WG 22 := by decide +kernel
theorem wg_23 : WG 23 := by decide +kernel
theorem wg_24 : WG 24 := by decide +kernel
theorem wg_25 : WG 25 := by decide +kernel
theorem wg_26 : WG 26 := by decide +kernel
theorem wg_27 : WG 27 := by decide +kernel
theorem wg_28 : WG 28 := by decide +kernel
theorem wg_29 : WG 29 := by decide +kernel
theorem wg_30 : WG 30 := by decide +kernel
theorem wg_31 : WG 31 := by decide +kernel
theorem wg_32 : WG 32 := by decide +kernel
theorem wg_33 : WG 33 := by decide +kernel
theorem wg_34 : WG 34 := by decide +kernel
theorem wg_35 : WG 35 := by decide +kernel
theorem wg_36 : WG 36 := by decide +kernel
theorem wg_37 : WG 37 := by decide +kernel
theorem wg_38 : WG 38 := by decide +kernel
theorem wg_39 : WG 39 := by decide +kernel
theorem wg_40 : WG 40 := by decide +kernel
theorem wg_41 : WG 41 := by decide +kernel
theorem wg_42 : WG 42 := by decide +kernel
theorem wg_43 : WG 43 := by decide +kernel
theorem wg_44 : WG 44 := by decide +kernel
theorem wg_45 : WG 45 := by decide +kernel
theorem wg_46 : WG 46 := by decide +kernel
theorem wg_47 : WG 47 := by decide +kernel
theorem wg_48 : WG 48 := by decide +kernel
theorem wg_49 : WG 49 := by decide +kernel
theorem wg_50 : WG 50 := by decide +kernel
theorem wg_51 : WG 51 := by decide +kernel
theorem wg_52 : WG 52 := by decide +kernel
theorem wg_53 : WG 53 := by decide +kernel
theorem wg_54 : WG 54 := by decide +kernel
theorem wg_55 : WG 55 := by decide +kernel
theorem wg_56 : WG 56 := by decide +kernel
theorem wg_57 : WG 57 := by decide +kernel
theorem wg_58 : WG 58 := by decide +kernel
theorem wg_59 : WG 59 := by decide +kernel
theorem wg_60 : WG 60 := by decide +kernel
theorem wheel_all : ∀ m, m < 61 → m = 0 ∨ (wheelOk m = true ∧ degL m ≤ m ∧ ∀ p ∈ primesL m, 1 ≤ m / p ∧ m / p ≤ m ∧ 0 < p ∧ p ≤ 1000)
  | 0, _ => .inl rfl
  | 1, _ => .inr wg_1
  | 2, _ => .inr wg_2
  | 3, _ => .inr wg_3
  | 4, _ => .inr wg_4
  | 5, _ => .inr wg_5
  | 6, _ => .inr wg_6
  | 7, _ => .inr wg_7
  | 8, _ => .inr wg_8
  | 9, _ => .inr wg_9
  | 10, _ => .inr wg_10
  | 11, _ => .inr wg_11
  | 12, _ => .inr wg_12
  | 13, _ => .inr wg_13
  | 14, _ => .inr wg_14
  | 15, _ => .inr wg_15
  | 16, _ => .inr wg_16
  | 17, _ => .inr wg_17
  | 18, _ => .inr wg_18
  | 19, _ => .inr wg_19
  | 20, _ => .inr wg_20
  | 21, _ => .inr wg_21
  | 22, _ => .inr wg_22
  | 23, _ => .inr wg_23
  | 24, _ => .inr wg_24
  | 25, _ => .inr wg_25
  | 26, _ => .inr wg_26
  | 27, _ => .inr wg_27
  | 28, _ => .inr wg_28
  | 29, _ => .inr wg_29
  | 30, _ => .inr wg_30
  | 31, _ => .inr wg_31
  | 32, _ => .inr wg_32
  | 33, _ => .inr wg_33
  | 34, _ => .inr wg_34
  | 35, _ => .inr wg_35
  | 36, _ => .inr wg_36
  | 37, _ => .inr wg_37
  | 38, _ => .inr wg_38
  | 39, _ => .inr wg_39
  | 40, _ => .inr wg_40
  | 41, _ => .inr wg_41
  | 42, _ => .inr wg_42
  | 43, _ => .inr wg_43
  | 44, _ => .inr wg_44
  | 45, _ => .inr wg_45
  | 46, _ => .inr wg_46
  | 47, _ => .inr wg_47
  | 48, _ => .inr wg_48
  | 49, _ => .inr wg_49
  | 50, _ => .inr wg_50
  | 51, _ => .inr wg_51
  | 52, _ => .inr wg_52
  | 53, _ => .inr wg_53
  | 54, _ => .inr wg_54
  | 55, _ => .inr wg_55
  | 56, _ => .inr wg_56
  | 57, _ => .inr wg_57
  | 58, _ => .inr wg_58
  | 59, _ => .inr wg_59
  | 60, _ => .inr wg_60
  | n + 61, h => absurd h (by omega)

section
theorem lay_take {m : Nat} (l : List Int) (h : l.length = m) : ∀ i, i ≤ m → layTo m 1 0 (l.take i) = l.take i ++ List.replicate (m - i) 0
  | 0, _ => by simp [layTo]
  | i + 1, hi => by
    have hil : i < l.length := by omega
    have et : l.take (i + 1) = l.take i ++ [l[i]] := by rw [List.take_add_one, List.getElem?_eq_getElem hil]; rfl
    have hl : (l.take i).length = i := by rw [List.length_take]; omega
    have pc := layP_cast (show 0 < m by omega) 1 0 i
    have pi : layP m 1 0 i = i := by
      have : ((layP m 1 0 i : Nat) : Int) = ((i % m : Nat) : Int) := by rw [pc]; simp
      have := Int.ofNat.inj this
      rw [this, Nat.mod_eq_of_lt (by omega)]
    rw [et, layTo_snoc, lay_take l h i (by omega), hl, pi]
    have e1 : (l.take i ++ List.replicate (m - i) (0 : Int)).getD i 0 = 0 := by
      rw [List.getD, List.getElem?_append_right (by omega), hl, List.getElem?_replicate]
      split <;> rfl
    rw [e1, Int.zero_add, List.set_append_right _ _ (by omega), hl, Nat.sub_self, show m - i = (m - (i + 1)) + 1 by omega, List.replicate_succ, List.set_cons_zero, List.append_assoc]
    rfl
theorem lay_id {m : Nat} {l : List Int} (h : l.length = m) : layTo m 1 0 l = l := by
  have := lay_take l h m (Nat.le_refl _)
  rw [List.take_of_length_le (by omega), Nat.sub_self] at this
  simpa using this
theorem low_lay (m : Nat) (sp st : Int) (l : List Int) : (divd (layTo m sp st l) (circ m)).2 = lowL m (layTo m sp st l) := by
  unfold lowL
  rw [lay_id (layTo_len m sp st l)]
end

section
end

section
def ext (m : Nat) (f : Nat → Int) : Int → Int := fun k => f (k % (m : Int)).toNat
end
section
def prOk (m : Nat) : Bool := ((primesL m).all fun p => decide (2 ≤ p) && decide (p ≤ m) && (m % p == 0)) && (List.range m).all fun d => !(m % (d + 1) == 0) || d == 0 || (primesL m).any fun p => (d + 1) % p == 0
theorem pr_all : ∀ m, m < 61 → m = 0 ∨ prOk m = true := by decide +kernel
structure Pr (m : Nat) : Prop where
  two : ∀ p ∈ primesL m, 2 ≤ p ∧ p ≤ m ∧ m % p = 0
  div : ∀ d, 2 ≤ d → d ≤ m → m % d = 0 → ∃ p ∈ primesL m, d % p = 0
theorem pr_of {m : Nat} (h1 : 1 ≤ m) (h2 : m ≤ 60) : Pr m := by
  have h := (pr_all m (by omega)).resolve_left (by omega)
  unfold prOk at h
  simp only [Bool.and_eq_true, List.all_eq_true, decide_eq_true_eq, beq_iff_eq] at h
  refine ⟨fun p hp => ⟨(h.1 p hp).1.1, (h.1 p hp).1.2, (h.1 p hp).2⟩, fun d d1 d2 dm => ?_⟩
  have z := h.2 (d - 1) (List.mem_range.mpr (by omega))
  rw [show d - 1 + 1 = d by omega] at z
  simp only [Bool.or_eq_true, Bool.not_eq_true', beq_eq_false_iff_ne, beq_iff_eq, List.any_eq_true] at z
  rcases z with (z | z) | z
  · exact absurd dm z
  · omega
  · exact z
end

section
variable {P : Program} {w : World} {K : PySem.W.Frag} {mg : Str → Option Value} {base : Heap}
def zsV (l : List Int) : List V := l.map V.int
theorem zs_of {H : Hp} : ∀ {l : List Int}, Paired (Rep.is K H) (zsV l) l
  | [] => .nil
  | x :: l => .cons rfl zs_of
theorem at_z {H : Hp} {p : Addr} {l : List Int} (h : H p = some (.lst (zsV l))) : At K H (.ref p) l := ⟨p, _, rfl, SqL.of h, zs_of⟩
theorem zs_eq {H : Hp} : ∀ {xs : List V} {l : List Int}, Paired (Rep.is K H) xs l → xs = zsV l
  | _, _, .nil => rfl
  | _, _, .cons h t => by
    have h' := h
    rw [zs_eq t]
    cases (show _ = V.int _ from h')
    rfl
theorem z_at {H : Hp} {v : V} {l : List Int} (h : At K H v l) : ∃ p, v = .ref p ∧ SqL K H p (zsV l) := by
  obtain ⟨p, xs, rfl, hS, hP⟩ := h
  rw [zs_eq hP] at hS
  exact ⟨p, rfl, hS⟩
theorem r_copyZ {H : Hp} {v : V} {Q : VK} {l : List Int} (h : At K H v l) (q : ∀ p, H p = none → Q (.ref p) (upd H p (.lst (zsV l)))) : rList K [v] H Q := by
  obtain ⟨p, rfl, hS⟩ := z_at h
  exact ⟨p, _, rfl, .inl hS, q⟩
theorem r_ixZ {H : Hp} {v : V} {Q : VK} {l : List Int} {a : Int} {n : Nat} {c : Int} (h : At K H v l) (e : a = (n : Int)) (hn : l[n]? = some c) (q : Q (.int c) H) : rIxL K v (.int a) H Q := r_ixI h e hn q
def sp_check_spokes : Sp := fun vs H Q _ => ∃ (m : Nat), vs = [.int (m : Int)] ∧ 1 ≤ m ∧ m ≤ 60 ∧ Q .non H
theorem ok_check_spokes (T : Txt K mg) : FnOk P w K mg base CX0 1 T.d_check_spokes.f T.d_check_spokes.fd ["many"] sp_check_spokes := by
  refine T.d_check_spokes.ok sc_check_spokes (fun vs H Q E h => ?_) (fun cdv A outer s H vs Q E hr h => ?_)
  · obtain ⟨m, rfl, _⟩ := h
    rfl
  obtain ⟨m, rfl, m1, m2, q⟩ := h
  refine ⟨_, (pss_one (ps_if (PW.pt (pw_or (pt_cmpR op_lt (pv 0) pe_int (nomark _)) (pw_or1 (pt_cmpR op_gt (pv 0) (pe_glob (v := .int 60) rfl T.g_MOST_SPOKES ⟨_, rfl⟩) (nomark _))))) (pss_one ps_never) pss_nil)), ?_⟩
  walk_at "rx"
  walk_at "ifs"
  walk_at "rx"
  refine rd_if (fun c => absurd c (by omega)) (fun _ => ?_)
  walk_at "rx"
  refine rd_if (fun c => absurd c (by omega)) (fun _ => ?_)
  walk_at "rx"
  exact q
def sp_divided (K : PySem.W.Frag) : Sp := fun vs H Q _ => ∃ (v u : V) (p d : List Int), vs = [v, u] ∧ At K H v p ∧ At K H u d ∧ d ≠ [] ∧ smallL d = true ∧ p.length ≤ 1000 ∧
  ∀ t a b H', Same H H' → H' t = some (.tup [.ref a, .ref b]) → H a = none → H b = none → a ≠ b → H' a = some (.lst (zsV (divd p d).1)) → H' b = some (.lst (zsV (divd p d).2)) → Q (.ref t) H'
theorem ok_divided (T : Txt K mg) : FnOk P w K mg base CX0 1 T.d_divided.f T.d_divided.fd ["polynomial", "divider"] (sp_divided K) := by
  refine T.d_divided.ok sc_divided (fun vs H Q E h => ?_) (fun cdv A outer s H vs Q E hr h => ?_)
  · obtain ⟨v, u, p, d, rfl, _⟩ := h
    rfl
  obtain ⟨v, u, p, d, rfl, hv, hu, dn, ds, pl, q⟩ := h
  have dp := List.length_pos_iff.mpr dn
  refine ⟨_, (pss_cons (ps_set (i := 2) sc_divided.nd rfl (Or.inl rfl) (pe_op op_sub (pe_callBF (call_lenK K rfl) rfl T.z_len PySem.boot_len (paF (pv 1) pa_nil)) pe_int))
      (pss_cons (ps_set (i := 3) sc_divided.nd rfl (Or.inl rfl) (pe_callTyF (call_listK K rfl) rfl T.z_list PyProof.Rows.boot_list (paF (pv 0) pa_nil)))
      (pss_cons (ps_set (i := 4) sc_divided.nd rfl (Or.inl rfl) (pe_lst pa_nil))
      (pss_cons (ps_while PassesOwn.never (pt_cmpR op_gt (pe_callBF (call_lenK K rfl) rfl T.z_len PySem.boot_len (paF (pv 3) pa_nil)) (pv 2) (nomark _)) (pss_cons (ps_set (i := 5) sc_divided.nd rfl (Or.inl rfl) (pe_bm0K K rfl PySem.F.plainAttrs_list PySem.F.slot_list_pop PySem.F.type_list_pop mt_pop (pv 3)))
      (pss_cons (ps_expr (pe_bmF K rfl PySem.F.plainAttrs_list PySem.F.slot_list_append PySem.F.type_list_append mt_append (pv 4) (paF (pv 5) pa_nil)))
      (pss_cons (ps_set (i := 6) sc_divided.nd rfl (Or.inl rfl) (pe_op op_sub (pe_callBF (call_lenK K rfl) rfl T.z_len PySem.boot_len (paF (pv 3) pa_nil)) (pv 2)))
      (pss_one (ps_for PassesOwn.never rfl (pi_range1F rfl T.z_range (paF (pv 2) pa_nil)) (pg_name (i := 7) sc_divided.nd rfl (Or.inl rfl)) (pss_one (ps_asg (pe_op op_sub (pe_ix (ix_listK K rfl) (pv 3) (pe_op op_add (pv 6) (pv 7)) (fun _ _ => rfl)) (pe_op op_mul (pv 5) (pe_ix (ix_listK K rfl) (pv 1) (pv 7) (fun _ _ => rfl)))) (pg_sub (pv 3) (pe_op op_add (pv 6) (pv 7)) set_list)))))))))
      (pss_one (ps_ret (pe_tup (paF (pe_listRev K rfl rfl rfl T.z_list rfl T.z_reversed (paF (pv 4) pa_nil)) (paF (pv 3) pa_nil))))))))), ?_⟩
  walk_at "rx"
  refine r_copyZ hv fun a fa => ?_
  walk_at "rx"
  refine r_lst ?_
  walk_at "rx"
  refine ⟨small (by show 0 ≤ 1000; decide), fun b hb => ?_⟩
  have ab : a ≠ b := fun z => by rw [← z, upd_same] at hb; cases hb
  have fb : H b = none := by rw [upd_ne ab.symm] at hb; exact hb
  have e1 : ((d.length : Int) - ((1 : Nat) : Int)) = ((d.length - 1 : Nat) : Int) := by omega
  rw [e1]
  walk_at "rx"
  refine rd_while (fun m σ' H' => Same H H' ∧ ∃ (L tk : List Int) (x y z : Option V), m = L.length ∧ H' a = some (.lst (zsV L)) ∧ H' b = some (.lst (zsV tk)) ∧ divGo d (L.length + 1 - d.length) L tk = divd p d ∧ L.length + tk.length ≤ p.length ∧
      σ' = [some v, some u, some (.int ((d.length - 1 : Nat) : Int)), some (.ref a), some (.ref b), x, y, z]) p.length
    ⟨fun c o z => by rw [upd_ne (ne_of_none z fb), upd_ne (ne_of_none z fa)]; exact z, p, [], none, none, none, rfl, by rw [upd_ne ab]; exact upd_same, upd_same, rfl, by simp, rfl⟩ ?_
  rintro m σ' H2 ⟨s2, L, tk, x, y, z, rfl, ha, hb2, hgo, hle, rfl⟩
  have aL : At K H2 (.ref a) L := at_z ha
  walk_at "rx"
  refine rd_if (fun c => ?_) (fun c => ?_)
  · have hl : d.length ≤ L.length := by omega
    have ln : L ≠ [] := fun z => by rw [z] at hl; simp at hl; exact dn hl
    refine ⟨fun σ3 H3 => Same H H3 ∧ ∃ (x y z : Option V), H3 a = some (.lst (zsV (divStep d L))) ∧ H3 b = some (.lst (zsV (tk ++ [L.getLastD 0]))) ∧ σ3 = [some v, some u, some (.int ((d.length - 1 : Nat) : Int)), some (.ref a), some (.ref b), x, y, z], fun σ3 H3 zz => ?_, ?_⟩
    · obtain ⟨z1, x3, y3, z3, z4, z5, z6⟩ := zz
      have e := divStep_len dn hl
      refine ⟨L.length - 1, by omega, z1, divStep d L, _, x3, y3, z3, e.symm, z4, z5, ?_, ?_, z6⟩
      · rw [← hgo, e, show L.length + 1 - d.length = (L.length - 1 + 1 - d.length) + 1 by omega]
        rfl
      · rw [e, List.length_append]
        show L.length - 1 + (tk.length + 1) ≤ _
        omega
    have lp : 0 < L.length := List.length_pos_iff.mpr ln
    walk_at "rx"
    refine ⟨.inl ⟨rfl, _, SqL.of ha⟩, ?_⟩
    refine ⟨a, zsV L, .int (L.getLastD 0), rfl, rfl, ha, ?_, ?_⟩
    · unfold zsV
      rw [List.length_map, List.getElem?_map, List.getLastD_eq_getLast?, List.getLast?_eq_getElem?]
      rw [List.getElem?_eq_getElem (by omega)]
      rfl
    have ed : (zsV L).dropLast = zsV L.dropLast := by unfold zsV; rw [List.map_dropLast]
    rw [ed]
    walk_at "rx"
    have hb3 : (upd H2 a (.lst (zsV L.dropLast))) b = some (.lst (zsV tk)) := by rw [upd_ne ab.symm]; exact hb2
    refine ⟨.inl ⟨rfl, _, SqL.of hb3⟩, ?_⟩
    walk_at "rx"
    refine ⟨b, zsV tk, _, rfl, rfl, hb3, Nat.lt_of_le_of_lt (show (zsV tk).length ≤ 1000 by unfold zsV; rw [List.length_map]; omega) (by rw [sizeLine_eq]; decide), ?_⟩
    have ha4 : (upd (upd H2 a (.lst (zsV L.dropLast))) b (.lst (zsV tk ++ [.int (L.getLastD 0)]))) a = some (.lst (zsV L.dropLast)) := by rw [upd_ne ab]; exact upd_same
    have hb4 : (upd (upd H2 a (.lst (zsV L.dropLast))) b (.lst (zsV tk ++ [.int (L.getLastD 0)]))) b = some (.lst (zsV (tk ++ [L.getLastD 0]))) := by
      rw [upd_same]; unfold zsV; rw [List.map_append]; rfl
    have s4 : Same H (upd (upd H2 a (.lst (zsV L.dropLast))) b (.lst (zsV tk ++ [.int (L.getLastD 0)]))) := fun c o z => by
      rw [upd_ne (ne_of_none z fb), upd_ne (ne_of_none z fa)]; exact s2 _ _ z
    generalize upd (upd H2 a (.lst (zsV L.dropLast))) b (.lst (zsV tk ++ [.int (L.getLastD 0)])) = H4 at ha4 hb4 s4
    have aL4 : At K H4 (.ref a) L.dropLast := at_z ha4
    walk_at "rx"
    have e2 : ((L.dropLast.length : Int) - ((d.length - 1 : Nat) : Int)) = ((L.length - d.length : Nat) : Int) := by rw [List.length_dropLast]; omega
    rw [e2]
    walk_at "rx"
    refine rd_range (n := d.length - 1) rfl (by omega) (fun j σ3 H3 => Same H H3 ∧ ∃ x, H3 a = some (.lst (zsV (subTo (L.getLastD 0) d (L.length - d.length) j L.dropLast))) ∧ H3 b = some (.lst (zsV (tk ++ [L.getLastD 0]))) ∧ σ3 = [some v, some u, some (.int ((d.length - 1 : Nat) : Int)), some (.ref a), some (.ref b), some (.int (L.getLastD 0)), some (.int ((L.length - d.length : Nat) : Int)), x])
      ⟨s4, _, by rw [subTo_zero]; exact ha4, hb4, rfl⟩ ?_ ?_
    · rintro j σ3 H5 hj ⟨s5, x5, ha5, hb5, rfl⟩
      have aL5 := at_z (K := K) ha5
      have aD5 := Rep.mono s5 hu
      have hjl : L.length - d.length + j < L.dropLast.length := by rw [List.length_dropLast]; omega
      have hdj : d[j]? = some (d.getD j 0) := by simp [List.getD, List.getElem?_eq_getElem (show j < d.length by omega)]
      have sm := small_get ds j
      walk_at "rx"
      refine r_ixZ aL5 rfl (subTo_at hjl) ?_
      walk_at "rx"
      refine r_ixZ aD5 rfl hdj ?_
      refine r_rI (.inr ⟨by omega, by omega⟩) ?_
      walk_at "rx"
      refine r_setL ha5 rfl (by unfold zsV; rw [List.length_map, subTo_len]; exact hjl) ?_
      have ha6 : (upd H5 a (.lst ((zsV (subTo (L.getLastD 0) d (L.length - d.length) j L.dropLast)).set (L.length - d.length + j) (.int (L.dropLast.getD (L.length - d.length + j) 0 - L.getLastD 0 * d.getD j 0))))) a = some (.lst (zsV (subTo (L.getLastD 0) d (L.length - d.length) (j + 1) L.dropLast))) := by
        rw [upd_same, ← subTo_set hjl]
        unfold zsV
        rw [List.map_set]
      exact ⟨fun c o z => by rw [upd_ne (ne_of_none z fa)]; exact s5 _ _ z, _, ha6, by rw [upd_ne ab.symm]; exact hb5, rfl⟩
    · rintro σ3 H5 ⟨s5, x5, ha5, hb5, rfl⟩
      rw [subTo_step dn hl] at ha5
      exact ⟨s5, _, _, _, ha5, hb5, rfl⟩
  · have e0 : L.length + 1 - d.length = 0 := by omega
    rw [e0] at hgo
    have g1 : tk.reverse = (divd p d).1 := congrArg Prod.fst hgo
    have g2 : L = (divd p d).2 := congrArg Prod.snd hgo
    walk_at "rx"
    refine r_tup ?_
    walk_at "rx"
    refine r_listRev ?_
    walk_at "rx"
    refine ⟨b, _, rfl, SqL.of hb2, fun c hc => ?_⟩
    have er : (zsV tk).reverse = zsV (divd p d).1 := by rw [← g1]; unfold zsV; rw [List.map_reverse]
    rw [er]
    walk_at "rx"
    refine ⟨small (by show 2 ≤ 1000; decide), fun t ht => ?_⟩
    have ca : c ≠ a := fun z => by rw [z, ha] at hc; cases hc
    have tc : c ≠ t := fun z => by rw [← z, upd_same] at ht; cases ht
    have ta : a ≠ t := fun z => by rw [← z, upd_ne ca.symm, ha] at ht; cases ht
    refine q t c a _ (fun c' o z => ?_) upd_same (s2.free hc) fa ca ?_ ?_
    · have h1 : c' ≠ c := ne_of_none (s2 _ _ z) hc
      have h2 : c' ≠ t := fun e => by rw [← e, upd_ne h1, s2 _ _ z] at ht; cases ht
      rw [upd_ne h2, upd_ne h1]; exact s2 _ _ z
    · rw [upd_ne tc]; exact upd_same
    · rw [upd_ne ta, upd_ne ca.symm, ← g2]; exact ha
structure CF (H : Hp) (f : Addr) (fs : List (Nat × List Int)) (ps : List Addr) : Prop where
  top : H f = some (.dK (zipK (fs.map (·.1)) ps))
  len : ps.length = fs.length
  nd : (fs.map (·.1)).Nodup
  row : ∀ (i : Nat) (p : Addr) (x : Nat × List Int), ps[i]? = some p → fs[i]? = some x → H p = some (.lst (zsV x.2))
theorem zipK_key {F : List Nat} {ps : List Addr} {i : Nat} {x : Key × V} (h : (zipK F ps)[i]? = some x) : ∃ k p, F[i]? = some k ∧ ps[i]? = some p ∧ x = (nk k, .ref p) := by
  unfold zipK at h
  rw [List.getElem?_map] at h
  obtain ⟨y, hy, rfl⟩ := Option.map_eq_some_iff.mp h
  obtain ⟨h1, h2⟩ := List.getElem?_zip_eq_some.mp hy
  exact ⟨y.1, y.2, h1, h2, rfl⟩
def sp_next_circle (K : PySem.W.Frag) : Sp := fun vs H Q _ => ∃ (f : Addr) (m : Nat) (fs : List (Nat × List Int)) (ps : List Addr), vs = [.int (m : Int), .ref f] ∧ CF H f fs ps ∧ 1 ≤ m ∧ m ≤ 60 ∧ (∀ x ∈ fs, x.2 ≠ [] ∧ smallL x.2 = true ∧ 1 ≤ x.1) ∧
  ∀ a H', H a = none → Same H H' → H' a = some (.lst (zsV (nextC m fs))) → Q (.ref a) H'
theorem rep_z (k : Nat) (a : Int) : (List.replicate k [V.int a]).flatten = zsV (List.replicate k a) := by
  unfold zsV
  induction k with
  | zero => rfl
  | succ k ih => rw [List.replicate_succ, List.flatten_cons, ih, List.replicate_succ]; rfl
theorem ok_next_circle (T : Txt K mg) : FnOk P w K mg base CX0 2 T.d_next_circle.f T.d_next_circle.fd ["many", "found"] (sp_next_circle K) := by
  refine T.d_next_circle.ok sc_next_circle (fun vs H Q E h => ?_) (fun cdv A outer s H vs Q E hr h => ?_)
  · obtain ⟨f, m, fs, ps, rfl, _⟩ := h
    rfl
  obtain ⟨f, m, fs, ps, rfl, cf, m1, m2, hx, q⟩ := h
  refine ⟨_, (pss_cons (ps_set (i := 2) sc_next_circle.nd rfl (Or.inl rfl) (pe_op op_cat (pe_op op_cat (pe_lst (paF (pe_un un_neg pe_int) pa_nil)) (pe_op op_rep (pe_lst (paF pe_int pa_nil)) (pe_op op_sub (pv 0) pe_int))) (pe_lst (paF pe_int pa_nil))))
      (pss_cons (ps_hold P w 1 rfl rfl (ps_for PassesOwn.never rfl (pi_dict P w rfl rfl (pv 1)) (pg_name (i := 3) sc_next_circle.nd rfl (Or.inl rfl)) (pss_one (ps_if (pt_cmpR op_eq (pe_op op_mod (pv 0) (pv 3)) pe_int (nomark _)) (pss_one (ps_set (i := 2) sc_next_circle.nd rfl (Or.inl rfl) (pe_ix (ix_tupK K rfl) (pe_dfF T.d_divided (ok_divided T) (hr.mono (by decide)) rfl (paF (pv 2) (paF (pe_dgetE P w rfl rfl (pv 1) (pv 3) (fun _ _ => rfl)) pa_nil))) pe_int (fun _ _ => rfl)))) pss_nil))))
      (pss_one (ps_free P w 1 rfl rfl (ps_ret (pv 2)))))), ?_⟩
  walk_at "rx"
  refine r_lst ?_
  walk_at "rx"
  refine ⟨small (by show 1 ≤ 1000; decide), fun p1 hp1 => ?_⟩
  walk_at "rx"
  refine r_lst ?_
  walk_at "rx"
  refine ⟨small (by show 1 ≤ 1000; decide), fun p2 hp2 => ?_⟩
  walk_at "rx"
  refine ⟨p2, _, _, rfl, rfl, upd_same, by omega, by omega, ?_, fun p3 hp3 => ?_⟩
  · rw [sizeLine_eq]
    show 1 * _ ≤ _
    omega
  rw [show ((m : Int) - ((1 : Nat) : Int)).toNat = m - 1 by omega, rep_z]
  have n21 : p2 ≠ p1 := fun z => by rw [z, upd_same] at hp2; cases hp2
  have n31 : p3 ≠ p1 := fun z => by rw [z, upd_ne n21.symm, upd_same] at hp3; cases hp3
  have h3 : (upd (upd (upd H p1 (.lst [.int (-((1 : Nat) : Int))])) p2 (.lst [.int ((0 : Nat) : Int)])) p3 (.lst (zsV (List.replicate (m - 1) ((0 : Nat) : Int))))) p1 = some (.lst (zsV [-1])) := by
    rw [upd_ne n31.symm, upd_ne n21.symm, upd_same]
    rfl
  have h33 : (upd (upd (upd H p1 (.lst [.int (-((1 : Nat) : Int))])) p2 (.lst [.int ((0 : Nat) : Int)])) p3 (.lst (zsV (List.replicate (m - 1) ((0 : Nat) : Int))))) p3 = some (.lst (zsV (List.replicate (m - 1) 0))) := upd_same
  have s3 : Same H (upd (upd (upd H p1 (.lst [.int (-((1 : Nat) : Int))])) p2 (.lst [.int ((0 : Nat) : Int)])) p3 (.lst (zsV (List.replicate (m - 1) ((0 : Nat) : Int))))) := (same_new hp1 _).trans ((same_new hp2 _).trans (same_new hp3 _))
  generalize upd (upd (upd H p1 (.lst [.int (-((1 : Nat) : Int))])) p2 (.lst [.int ((0 : Nat) : Int)])) p3 (.lst (zsV (List.replicate (m - 1) ((0 : Nat) : Int)))) = H3 at h3 h33 s3
  refine ⟨p1, p3, _, _, rfl, rfl, h3, h33, ?_, fun p4 hp4 => ?_⟩
  · unfold zsV
    rw [sizeLine_eq]
    simp
    omega
  have h4 : (upd H3 p4 (.lst (zsV [-1] ++ zsV (List.replicate (m - 1) 0)))) p4 = some (.lst (zsV ([-1] ++ List.replicate (m - 1) 0))) := by rw [upd_same]; unfold zsV; rw [List.map_append]
  have s4 := s3.trans (same_new hp4 (.lst (zsV [-1] ++ zsV (List.replicate (m - 1) 0))))
  generalize upd H3 p4 (.lst (zsV [-1] ++ zsV (List.replicate (m - 1) 0))) = H4 at h4 s4
  walk_at "rx"
  refine r_lst ?_
  walk_at "rx"
  refine ⟨small (by show 1 ≤ 1000; decide), fun p5 hp5 => ?_⟩
  have n54 : p4 ≠ p5 := fun z => by rw [← z, h4] at hp5; cases hp5
  refine ⟨p4, p5, _, _, rfl, rfl, by rw [upd_ne n54]; exact h4, upd_same, ?_, fun a ha => ?_⟩
  · unfold zsV
    rw [sizeLine_eq]
    simp
    omega
  have h6 : (upd (upd H4 p5 (.lst [.int ((1 : Nat) : Int)])) a (.lst (zsV ([-1] ++ List.replicate (m - 1) 0) ++ [.int ((1 : Nat) : Int)]))) a = some (.lst (zsV ([-1] ++ List.replicate (m - 1) 0 ++ [1]))) := by
    have e : zsV ([-1] ++ List.replicate (m - 1) 0 ++ [1]) = zsV ([-1] ++ List.replicate (m - 1) 0) ++ [.int ((1 : Nat) : Int)] := List.map_append
    rw [upd_same, e]
  have s6 := s4.trans ((same_new hp5 (.lst [.int ((1 : Nat) : Int)])).trans (same_new ha (.lst (zsV ([-1] ++ List.replicate (m - 1) 0) ++ [.int ((1 : Nat) : Int)]))))
  have fa : H a = none := (s4.trans (same_new hp5 (.lst [.int ((1 : Nat) : Int)]))).free ha
  generalize upd (upd H4 p5 (.lst [.int ((1 : Nat) : Int)])) a (.lst (zsV ([-1] ++ List.replicate (m - 1) 0) ++ [.int ((1 : Nat) : Int)])) = H6 at h6 s6
  walk_at "rx"
  have fa' : a ≠ f := fun z => by rw [z, cf.top] at fa; cases fa
  refine ⟨f, _, rfl, s6 _ _ cf.top, fun ep => ?_⟩
  have hf7 : (upd H6 f (DE P w f (zipK (fs.map (·.1)) ps) ep)) f = some (DE P w f (zipK (fs.map (·.1)) ps) ep) := upd_same
  have k7 : ∀ c o, c ≠ f → H c = some o → (upd H6 f (DE P w f (zipK (fs.map (·.1)) ps) ep)) c = some o := fun c o hc z => by rw [upd_ne hc]; exact s6 _ _ z
  have h7 : (upd H6 f (DE P w f (zipK (fs.map (·.1)) ps) ep)) a = some (.lst (zsV ([-1] ++ List.replicate (m - 1) 0 ++ [1]))) := by rw [upd_ne fa']; exact h6
  generalize upd H6 f (DE P w f (zipK (fs.map (·.1)) ps) ep) = H7 at hf7 k7 h7
  walk_at "rx"
  refine r_iDict ?_
  walk_at "rx"
  have zl : (zipK (fs.map (·.1)) ps).length = fs.length := by unfold zipK; rw [List.length_map, List.length_zip, List.length_map, cf.len]; omega
  refine rd_dict hf7 (fun i σ' H' => H' f = some (DE P w f (zipK (fs.map (·.1)) ps) ep) ∧ (∀ c o, c ≠ f → H c = some o → H' c = some o) ∧ ∃ (a : Addr) (x : Option V), H a = none ∧ H' a = some (.lst (zsV (nextS m (fs.take i) ([-1] ++ List.replicate (m - 1) 0 ++ [1])))) ∧ (nextS m (fs.take i) ([-1] ++ List.replicate (m - 1) 0 ++ [1])).length ≤ 100 ∧ σ' = [some (.int (m : Int)), some (.ref f), some (.ref a), x])
    ⟨hf7, k7, a, _, fa, h7, by simp [nextS]; omega, rfl⟩ (fun i σ' H' z => z.1) ?_ ?_
  · rintro i x σ' H8 hxi ⟨hf8, k8, a8, y8, fa8, ha8, hl8, rfl⟩
    obtain ⟨k, p, hk, hp, rfl⟩ := zipK_key hxi
    rw [List.getElem?_map] at hk
    obtain ⟨fx, hfx, rfl⟩ := Option.map_eq_some_iff.mp hk
    obtain ⟨c1, c2, c3⟩ := hx fx (List.mem_of_getElem? hfx)
    have hrow := cf.row i p fx hp hfx
    have pf : p ≠ f := fun z => by rw [z, cf.top] at hrow; cases hrow
    have hp8 := k8 p _ pf hrow
    have et : fs.take (i + 1) = fs.take i ++ [fx] := by rw [List.take_add_one, hfx]; rfl
    show gName 3 (.int (fx.1 : Int)) _ _ _
    walk_at "rx"
    walk_at "ifs"
    walk_at "rx"
    have hst := nextS_snoc m (fs.take i) fx ([-1] ++ List.replicate (m - 1) 0 ++ [1])
    refine rd_if (fun c => ?_) (fun c => ?_)
    · rw [if_pos c] at hst
      walk_at "rx"
      refine r_tDGetE ?_
      walk_at "rx"
      refine r_dgetE hf8 (zipK_get cf.nd (by rw [List.getElem?_map, hfx]; rfl) hp) ?_
      walk_at "rx"
      refine ⟨_, _, _, _, rfl, at_z ha8, at_z hp8, c1, c2, by omega, fun t qa qb H9 s9 ht fqa fqb _ hqa _ => ?_⟩
      walk_at "rx"
      refine r_ixP ht (i := 0) rfl ?_
      walk_at "rx"
      have fqa' : H qa = none := by
        cases z : H qa with
        | none => rfl
        | some o =>
          by_cases e : qa = f
          · rw [e, hf8] at fqa; cases fqa
          · rw [k8 qa o e z] at fqa; cases fqa
      refine ⟨s9 _ _ hf8, fun c o hc z => s9 _ _ (k8 c o hc z), qa, _, fqa', by rw [et, hst]; exact hqa, by rw [et, hst]; exact Nat.le_trans (divd_fst c1) hl8, rfl⟩
    · rw [if_neg c] at hst
      walk_at "rx"
      exact ⟨hf8, k8, a8, _, fa8, by rw [et, hst]; exact ha8, by rw [et, hst]; exact hl8, rfl⟩
  · rintro σ' H8 ⟨hf8, k8, a8, y8, fa8, ha8, hl8, rfl⟩
    rw [zl, List.take_length] at ha8
    walk_at "rx"
    have n8 : a8 ≠ f := fun z => by rw [z, cf.top] at fa8; cases fa8
    refine ⟨f, _, ep, rfl, hf8, ?_⟩
    walk_at "rx"
    refine q a8 _ fa8 (fun c o z => ?_) (by rw [upd_ne n8]; exact ha8)
    by_cases e : c = f
    · rw [e] at z ⊢
      rw [upd_same, ← z, cf.top]
    · rw [upd_ne e]; exact k8 c o e z
theorem circs_mem {m : Nat} : ∀ {k : Nat} {x : Nat × List Int}, x ∈ circs m k → 1 ≤ x.1 ∧ x.1 ≤ k
  | 0, x, h => by simp [circs] at h
  | k + 1, x, h => by
    unfold circs at h
    split at h
    · rcases List.mem_append.mp h with z | z
      · have := circs_mem z; omega
      · rw [List.mem_singleton.mp z]; exact ⟨by omega, Nat.le_refl _⟩
    · have := circs_mem h; omega
theorem circs_sub {m : Nat} : ∀ {k j : Nat} {x : Nat × List Int}, k ≤ j → x ∈ circs m k → x ∈ circs m j
  | k, 0, x, h, z => by
    have : k = 0 := by omega
    rw [this] at z; exact z
  | k, j + 1, x, h, z => by
    rcases Nat.lt_or_ge k (j + 1) with y | y
    · have := circs_sub (show k ≤ j by omega) z
      unfold circs
      split
      · exact List.mem_append_left _ this
      · exact this
    · have : k = j + 1 := by omega
      rw [← this]; exact z
def sp_circle (K : PySem.W.Frag) : Sp := fun vs H Q _ => ∃ (m : Nat), vs = [.int (m : Int)] ∧ 1 ≤ m ∧ m ≤ 60 ∧ wheelOk m = true ∧ ∀ a H', H a = none → Same H H' → H' a = some (.lst (zsV (circ m))) → Q (.ref a) H'
theorem wheel_small {m : Nat} (h : wheelOk m = true) : ∀ x ∈ circs m m, x.2 ≠ [] ∧ smallL x.2 = true := fun x hx => by
  unfold wheelOk at h
  simp only [Bool.and_eq_true] at h
  have := h.1.1.2
  rw [List.all_eq_true] at this
  have z := this x hx
  simp only [Bool.and_eq_true, decide_eq_true_eq] at z
  refine ⟨fun e => ?_, z.1⟩
  rw [e] at z
  exact absurd z.2 (by decide)
theorem ok_circle (T : Txt K mg) : FnOk P w K mg base CX0 3 T.d_circle.f T.d_circle.fd ["many"] (sp_circle K) := by
  refine T.d_circle.ok sc_circle (fun vs H Q E h => ?_) (fun cdv A outer s H vs Q E hr h => ?_)
  · obtain ⟨m, rfl, _⟩ := h
    rfl
  obtain ⟨m, rfl, m1, m2, ok, q⟩ := h
  refine ⟨_, (pss_cons (ps_expr (pe_dfF T.d_check_spokes (ok_check_spokes T) (hr.mono (by decide)) rfl (paF (pv 0) pa_nil)))
      (pss_cons (ps_set (i := 1) sc_circle.nd rfl (Or.inl rfl) pe_dnewK)
      (pss_cons (ps_for PassesOwn.never rfl (pi_range2F rfl T.z_range (paF pe_int (paF (pe_op op_add (pv 0) pe_int) pa_nil))) (pg_name (i := 2) sc_circle.nd rfl (Or.inl rfl)) (pss_one (ps_if (pt_cmpR op_eq (pe_op op_mod (pv 0) (pv 2)) pe_int (nomark _)) (pss_one (ps_dput (hu_of hr) (pv 1) (pv 2) (pe_dfF T.d_next_circle (ok_next_circle T) (hr.mono (by decide)) rfl (paF (pv 2) (paF (pv 1) pa_nil))) rfl)) pss_nil)))
      (pss_one (ps_ret (pe_dget (hu_of hr) (pv 1) (pv 0) (fun _ _ => rfl))))))), ?_⟩
  walk_at "rx"
  refine ⟨m, rfl, m1, m2, ?_⟩
  walk_at "rx"
  refine r_dnew fun f hf => ?_
  walk_at "rx"
  refine r_iRng2 ?_
  walk_at "rx"
  have f0 : CF (upd H f (.dK [])) f [] [] := ⟨upd_same, rfl, by simp, fun i p x e => by simp at e⟩
  refine rd_range2 (lo := 1) (n := m) rfl (by omega) (by omega) (fun i σ' H' => Same H H' ∧ ∃ (ps : List Addr) (x : Option V), CF H' f (circs m i) ps ∧ (∀ p ∈ ps, H p = none) ∧ σ' = [some (.int (m : Int)), some (.ref f), x]) ⟨same_new hf _, [], _, f0, by simp, rfl⟩ ?_ ?_
  · rintro i σ' H2 hi ⟨s2, ps, x, cf, fps, rfl⟩
    walk_at "rx"
    walk_at "ifs"
    walk_at "rx"
    have e1 : 1 + i = i + 1 := by omega
    rw [e1]
    have cl : (circs m i).length ≤ i := by
      have : ∀ k, (circs m k).length ≤ k := fun k => by
        induction k with
        | zero => exact Nat.le_refl _
        | succ k ih =>
          unfold circs
          split
          · rw [List.length_append]; show _ + 1 ≤ _; omega
          · omega
      exact this i
    refine rd_if (fun c => ?_) (fun c => ?_)
    · have ec : circs m (i + 1) = circs m i ++ [(i + 1, nextC (i + 1) (circs m i))] := by
        show (if m % (i + 1) = 0 then _ else _) = _
        rw [if_pos c]
      walk_at "rx"
      refine r_sDPut ?_
      walk_at "rx"
      refine ⟨f, i + 1, circs m i, ps, rfl, cf, by omega, by omega, fun x hx => ?_, fun a H3 fa s3 ha => ?_⟩
      · have h1 := wheel_small ok x (circs_sub (by omega) hx)
        exact ⟨h1.1, h1.2, (circs_mem hx).1⟩
      walk_at "rx"
      have kn : i + 1 ∉ (circs m i).map (·.1) := fun z => by
        obtain ⟨x, hx, e⟩ := List.mem_map.mp z
        have := circs_mem hx
        omega
      refine r_dput (s3 _ _ cf.top) (Nat.le_trans zipK_len (by rw [List.length_map]; omega)) ?_
      rw [zipK_snoc (by rw [List.length_map, cf.len]) kn]
      have af : a ≠ f := fun z => by rw [z, cf.top] at fa; cases fa
      refine ⟨fun c o z => ?_, ps ++ [a], _, ⟨?_, ?_, ?_, fun j p x e1 e2 => ?_⟩, fun p hp => ?_, rfl⟩
      · rw [upd_ne (ne_of_none z hf)]; exact s3 _ _ (s2 _ _ z)
      · rw [upd_same, ec, List.map_append]; rfl
      · rw [ec, List.length_append, List.length_append, cf.len]; rfl
      · rw [ec, List.map_append]
        exact nd_snoc cf.nd kn
      · rw [ec] at e2
        have hl := cf.len
        rcases Nat.lt_or_ge j ps.length with z | z
        · rw [List.getElem?_append_left z] at e1
          rw [List.getElem?_append_left (by omega)] at e2
          have r := cf.row j p x e1 e2
          have pf : p ≠ f := fun c => by rw [c, cf.top] at r; cases r
          rw [upd_ne pf]; exact s3 _ _ r
        · rw [List.getElem?_append_right z] at e1
          rw [List.getElem?_append_right (by omega)] at e2
          have j0 : j - ps.length = 0 := by
            rcases Nat.eq_zero_or_pos (j - ps.length) with c | c
            · exact c
            · rw [List.getElem?_eq_none (by simp; omega)] at e1; cases e1
          rw [j0] at e1
          rw [show j - (circs m i).length = 0 by omega] at e2
          cases e1
          cases e2
          rw [upd_ne af]
          exact ha
      · rcases List.mem_append.mp hp with z | z
        · exact fps p z
        · rw [List.mem_singleton.mp z]; exact s2.free fa
    · have ec : circs m (i + 1) = circs m i := by
        show (if m % (i + 1) = 0 then _ else _) = _
        rw [if_neg c]
      walk_at "rx"
      exact ⟨s2, ps, _, by rw [ec]; exact cf, fps, rfl⟩
  · rintro σ' H2 ⟨s2, ps, x, cf, fps, rfl⟩
    have ec : circs m m = circs m (m - 1) ++ [(m, circ m)] := by
      obtain ⟨k, rfl⟩ : ∃ k, m = k + 1 := ⟨m - 1, by omega⟩
      show (if (k + 1) % (k + 1) = 0 then _ else _) = _
      rw [if_pos (Nat.mod_self _)]
      rfl
    have hl : (circs m m)[(circs m (m - 1)).length]? = some (m, circ m) := by rw [ec, List.getElem?_append_right (Nat.le_refl _)]; simp
    have hlt : (circs m (m - 1)).length < ps.length := by rw [cf.len, ec, List.length_append]; exact Nat.lt_succ_self _
    walk_at "rx"
    refine r_tDGet ?_
    walk_at "rx"
    refine r_dget cf.top (zipK_get cf.nd (j := (circs m (m - 1)).length) (by rw [List.getElem?_map, hl]; rfl) (List.getElem?_eq_getElem hlt)) ?_
    exact q _ _ (fps _ (List.getElem_mem hlt)) s2 (cf.row _ _ _ (List.getElem?_eq_getElem hlt) hl)
def wfs (r : V) (m z : Int) : List (Str × V) := [("rim", r), ("spokes", .int m), ("size", .int z)]
def WhAt (C : Addr) (H : Hp) (g : Addr) (m : Nat) : Prop := ∃ dx r, H g = some (.ins C dx (wfs (.ref r) m ((circ m).length - 1 : Nat))) ∧ H r = some (.lst (zsV (circ m)))
theorem WhAt.mono {C : Addr} {H H' : Hp} {g m : Nat} (s : Same H H') (h : WhAt C H g m) : WhAt C H' g m := by
  obtain ⟨dx, r, h1, h2⟩ := h
  exact ⟨dx, r, s _ _ h1, s _ _ h2⟩
def sp_Wheel (C : Addr) : Sp := fun vs H Q _ => ∃ (p dx : Addr) (m : Nat), vs = [.ref p, .int (m : Int)] ∧ H p = some (.ins C dx []) ∧ 1 ≤ m ∧ m ≤ 60 ∧ wheelOk m = true ∧
  ∀ r H', H r = none → H' p = some (.ins C dx (wfs (.ref r) m ((circ m).length - 1 : Nat))) → H' r = some (.lst (zsV (circ m))) → (∀ a o, H a = some o → a ≠ p → H' a = some o) → Q .non H'
theorem ok_Wheel (T : Txt K mg) : FnOk P w K mg base CX0 4 T.i_Wheel T.j_Wheel ["self", "many"] (sp_Wheel T.C_Wheel) := by
  refine T.f_Wheel.ok sc_Wheel_init (fun vs H Q E h => ?_) (fun cdv A outer s H vs Q E hr h => ?_)
  · obtain ⟨p, dx, m, rfl, _⟩ := h
    rfl
  obtain ⟨p, dx, m, rfl, hp, m1, m2, ok, q⟩ := h
  have W := wheelOk_of ok
  refine ⟨_, (pss_cons (ps_fldK K rfl (pv 0) (pe_dfF T.d_circle (ok_circle T) (hr.mono (by decide)) rfl (paF (pv 1) pa_nil)) rfl)
      (pss_cons (ps_fldK K rfl (pv 0) (pv 1) rfl)
      (pss_one (ps_fldK K rfl (pv 0) (pe_op op_sub (pe_callBF (call_lenK K rfl) rfl T.z_len PySem.boot_len (paF (pe_fldK K rfl (pv 0) rfl) pa_nil)) pe_int) rfl)))), ?_⟩
  walk_at "rx"
  refine ⟨m, rfl, m1, m2, ok, fun r H1 fr s1 hr1 => ?_⟩
  have rp : r ≠ p := fun z => by rw [z, hp] at fr; cases fr
  walk_at "rx"
  refine ⟨p, T.C_Wheel, dx, _, rfl, s1 _ _ hp, T.k_Wheel, T.n_Wheel_rim, (by show 0 < 1000; decide), ?_⟩
  walk_at "rx"
  refine ⟨p, T.C_Wheel, dx, _, rfl, upd_same, T.k_Wheel, T.n_Wheel_spokes, (by show 1 < 1000; decide), ?_⟩
  walk_at "rx"
  refine ⟨p, T.C_Wheel, dx, _, _, rfl, upd_same, T.k_Wheel, T.n_Wheel_rim, rfl, ?_⟩
  walk_at "rx"
  refine r_len (l := circ m) (at_z (by rw [upd_ne rp, upd_ne rp]; exact hr1)) ?_
  walk_at "rx"
  refine ⟨p, T.C_Wheel, dx, _, rfl, upd_same, T.k_Wheel, T.n_Wheel_size, (by show 2 < 1000; decide), ?_⟩
  have e : (((circ m).length : Int) - ((1 : Nat) : Int)) = (((circ m).length - 1 : Nat) : Int) := by rw [W.len]; omega
  rw [e]
  refine q r _ fr upd_same ?_ fun a o ha hne => ?_
  · rw [upd_ne rp, upd_ne rp, upd_ne rp]; exact hr1
  · rw [upd_ne hne, upd_ne hne, upd_ne hne]; exact s1 _ _ ha
def sp_Wheel_laid (C : Addr) (K : PySem.W.Frag) : Sp := fun vs H Q _ => ∃ (g : Addr) (v : V) (sp st : Int) (m : Nat) (l : List Int), vs = [.ref g, v, .int sp, .int st] ∧ WhAt C H g m ∧ 1 ≤ m ∧ m ≤ 60 ∧ WheelOk m ∧ At K H v l ∧ l.length ≤ 1000 ∧
  ∀ b H', H b = none → Same H H' → H' b = some (.lst (zsV (divd (layTo m sp st l) (circ m)).2)) → Q (.ref b) H'
theorem ok_Wheel_laid (T : Txt K mg) : FnOk P w K mg base CX0 2 T.q_Wheel_laid T.r_Wheel_laid ["self", "counts", "step", "start"] (sp_Wheel_laid T.C_Wheel K) := by
  refine T.f_Wheel_laid.ok sc_Wheel_laid (fun vs H Q E h => ?_) (fun cdv A outer s H vs Q E hr h => ?_)
  · obtain ⟨g, v, sp, st, m, l, rfl, _⟩ := h
    rfl
  obtain ⟨g, v, sp, st, m, l, rfl, hW, m1, m2, W, hv, hl, q⟩ := h
  obtain ⟨dx, r, hg, hr'⟩ := id hW
  refine ⟨_, (pss_cons (ps_set (i := 4) sc_Wheel_laid.nd rfl (Or.inl rfl) (pe_op op_rep (pe_lst (paF pe_int pa_nil)) (pe_fldK K rfl (pv 0) rfl)))
      (pss_cons (ps_for PassesOwn.never rfl (pi_enumF K rfl rfl T.z_enumerate (paF (pv 1) pa_nil)) (pg_tup rfl (pgs_cons (pg_name (i := 5) sc_Wheel_laid.nd rfl (Or.inl rfl)) (pgs_cons (pg_name (i := 6) sc_Wheel_laid.nd rfl (Or.inl rfl)) pgs_nil))) (pss_cons (ps_set (i := 7) sc_Wheel_laid.nd rfl (Or.inl rfl) (pe_op op_mod (pe_op op_add (pv 3) (pe_op op_mul (pv 2) (pv 5))) (pe_fldK K rfl (pv 0) rfl)))
      (pss_one (ps_asg (pe_op op_add (pe_ix (ix_listK K rfl) (pv 4) (pv 7) (fun _ _ => rfl)) (pv 6)) (pg_sub (pv 4) (pv 7) set_list)))))
      (pss_one (ps_ret (pe_ix (ix_tupK K rfl) (pe_dfF T.d_divided (ok_divided T) (hr.mono (by decide)) rfl (paF (pv 4) (paF (pe_fldK K rfl (pv 0) rfl) pa_nil))) pe_int (fun _ _ => rfl)))))), ?_⟩
  walk_at "rx"
  refine r_lst ?_
  walk_at "rx"
  refine ⟨small (by show 1 ≤ 1000; decide), fun p1 hp1 => ?_⟩
  have s1 := same_new hp1 (.lst [.int ((0 : Nat) : Int)])
  walk_at "rx"
  refine ⟨g, T.C_Wheel, dx, _, _, rfl, s1 _ _ hg, T.k_Wheel, T.n_Wheel_spokes, rfl, ?_⟩
  refine ⟨p1, _, _, rfl, rfl, upd_same, by omega, by omega, ?_, fun a ha => ?_⟩
  · rw [sizeLine_eq]
    show 1 * _ ≤ _
    omega
  rw [show ((m : Nat) : Int).toNat = m by omega, rep_z]
  have fa : H a = none := s1.free ha
  have s2 := s1.trans (same_new ha (.lst (zsV (List.replicate m ((0 : Nat) : Int)))))
  have h2 : (upd (upd H p1 (.lst [.int ((0 : Nat) : Int)])) a (.lst (zsV (List.replicate m ((0 : Nat) : Int))))) a = some (.lst (zsV (layTo m sp st []))) := upd_same
  generalize upd (upd H p1 (.lst [.int ((0 : Nat) : Int)])) a (.lst (zsV (List.replicate m ((0 : Nat) : Int)))) = H2 at s2 h2
  walk_at "rx"
  refine rd_enum (H₀ := H) hv (fun i σ' H' => Same H H' ∧ ∃ (x y z : Option V), H' a = some (.lst (zsV (layTo m sp st (l.take i)))) ∧ σ' = [some (.ref g), some v, some (.int sp), some (.int st), some (.ref a), x, y, z]) ⟨s2, _, _, _, h2, rfl⟩ (fun i σ' H' z => z.1) ?_ ?_
  · rintro i c w' σ' H3 H4 p hc hw ⟨s3, x, y, z, h3, rfl⟩ hp hH4 s4
    cases (show w' = V.int c from hw)
    have h4 := s4 _ _ h3
    have s04 := s3.trans s4
    have hil : i < l.length := (List.getElem?_eq_some_iff.mp hc).1
    have pl := layP_lt (show 0 < m by omega) sp st i
    have hll := layTo_len m sp st (l.take i)
    walk_at "rx"
    refine r_rI (.inr ⟨by omega, by omega⟩) ?_
    walk_at "rx"
    refine ⟨g, T.C_Wheel, dx, _, _, rfl, s04 _ _ hg, T.k_Wheel, T.n_Wheel_spokes, rfl, ?_⟩
    refine r_modI (by omega) ?_
    rw [← layP_cast (show 0 < m by omega)]
    walk_at "rx"
    refine r_ixZ (at_z h4) rfl (show (layTo m sp st (l.take i))[layP m sp st i]? = some ((layTo m sp st (l.take i)).getD (layP m sp st i) 0) by
      rw [List.getD, List.getElem?_eq_getElem (by omega)]; rfl) ?_
    walk_at "rx"
    refine r_setL h4 rfl (by unfold zsV; rw [List.length_map, hll]; exact pl) ?_
    have et : l.take (i + 1) = l.take i ++ [c] := by rw [List.take_add_one, hc]; rfl
    have hlen : (l.take i).length = i := by rw [List.length_take]; omega
    refine ⟨fun b o zz => by rw [upd_ne (ne_of_none zz fa)]; exact s04 _ _ zz, _, _, _, ?_, rfl⟩
    rw [upd_same, et, layTo_snoc, hlen]
    unfold zsV
    rw [List.map_set]
  · rintro σ' H3 ⟨s3, x, y, z, h3, rfl⟩
    rw [List.take_length] at h3
    walk_at "rx"
    refine ⟨g, T.C_Wheel, dx, _, _, rfl, s3 _ _ hg, T.k_Wheel, T.n_Wheel_rim, rfl, ?_⟩
    walk_at "rx"
    refine ⟨_, _, _, _, rfl, at_z h3, at_z (s3 _ _ hr'), W.ne, W.sm, by rw [layTo_len]; omega, fun t qa qb H4 s4 ht _ fqb _ _ hqb => ?_⟩
    walk_at "rx"
    refine r_ixP ht (i := 1) rfl ?_
    exact q qb H4 (s3.free fqb) (s3.trans s4) hqb
end

section
variable {P : Program} {w : World} {K : PySem.W.Frag} {mg : Str → Option Value} {base : Heap}
def sp_law_whole (K : PySem.W.Frag) : Sp := fun vs H Q _ => ∃ i : Int, vs = [.int i] ∧ Q (.bl true) H
theorem ok_law_whole (T : Txt K mg) : FnOk P w K mg base CX0 1 T.d_law_whole.f T.d_law_whole.fd ["_law_found"] (sp_law_whole K) := by
  refine T.d_law_whole.ok sc_law_whole (fun vs H Q E h => ?_) (fun cdv A outer s H vs Q E hr h => ?_)
  · obtain ⟨i, rfl, _⟩ := h
    rfl
  obtain ⟨i, rfl, q⟩ := h
  refine ⟨_, (pss_one (ps_ret (pe_and (pe_callBF (call_isinstK K rfl) rfl T.z_isinstance PyProof.Rows.boot_isinstance (paF (pv 0) (paF (pe_bltn (v := .ty "int") rfl T.z_int PyProof.Rows.boot_int rfl) pa_nil))) (pe_one (pe_not (pe_callBF (call_isinstK K rfl) rfl T.z_isinstance PyProof.Rows.boot_isinstance (paF (pv 0) (paF (pe_bltn (v := .ty "bool") rfl T.z_bool PyProof.Rows.boot_bool rfl) pa_nil)))))))), ?_⟩
  walk_at "rx"
  refine r_inst (b := true) (.int i) rfl ?_
  walk_at "rx"
  refine r_inst (b := false) (.int i) rfl ?_
  walk_at "rx"
  exact q
def sp_law_at (K : PySem.W.Frag) : Sp := fun vs H Q _ => ∃ (v : V) (ns : List Int) (k : Nat), vs = [v, .int (k : Int)] ∧ At K H v ns ∧ ∀ z : Int, Q (.int z) H
theorem ok_law_at (T : Txt K mg) : FnOk P w K mg base CX0 1 T.d_law_at.f T.d_law_at.fd ["_law_script", "_law_k"] (sp_law_at K) := by
  refine T.d_law_at.ok sc_law_at (fun vs H Q E h => ?_) (fun cdv A outer s H vs Q E hr h => ?_)
  · obtain ⟨v, ns, k, rfl, _⟩ := h
    rfl
  obtain ⟨v, ns, k, rfl, hv, q⟩ := h
  refine ⟨_, (pss_cons (ps_if (pt_cmpR op_lt (pv 1) (pe_callBF (call_lenK K rfl) rfl T.z_len PySem.boot_len (paF (pv 0) pa_nil)) (nomark _)) (pss_one (ps_ret (pe_ix (ix_listK K rfl) (pv 0) (pv 1) (fun _ _ => rfl)))) pss_nil)
      (pss_one (ps_ret pe_int))), ?_⟩
  walk_at "rx"
  walk_at "ifs"
  walk_at "rx"
  refine rd_if (fun c => ?_) (fun c => ?_)
  · walk_at "rx"
    refine r_ixI hv rfl (List.getElem?_eq_getElem c) ?_
    exact q _
  · walk_at "rx"
    exact q _
def sp_law_spokes : Sp := fun vs H Q _ => ∃ (c : Int), vs = [.int c] ∧ ∀ m : Nat, 1 ≤ m → m ≤ 60 → Q (.int (m : Int)) H
theorem ok_law_spokes (T : Txt K mg) : FnOk P w K mg base CX0 1 T.d_law_spokes.f T.d_law_spokes.fd ["_law_cell"] sp_law_spokes := by
  refine T.d_law_spokes.ok sc_law_spokes (fun vs H Q E h => ?_) (fun cdv A outer s H vs Q E hr h => ?_)
  · obtain ⟨c, rfl, _⟩ := h
    rfl
  obtain ⟨c, rfl, q⟩ := h
  refine ⟨_, (pss_cons (ps_if (pt_cmpR op_eq (pe_op op_mod (pv 0) pe_int) pe_int (nomark _)) (pss_one (ps_ret (pe_op op_add pe_int (pe_op op_mod (pe_op op_fdiv (pv 0) pe_int) pe_int)))) pss_nil)
      (pss_one (ps_ret (pe_op op_add pe_int (pe_op op_mod (pe_op op_fdiv (pv 0) pe_int) pe_int))))), ?_⟩
  walk_at "rx"
  walk_at "ifs"
  walk_at "rx"
  refine r_modI (by decide) ?_
  walk_at "rx"
  refine rd_if (fun z => ?_) (fun z => ?_)
  · walk_at "rx"
    refine r_divI (by decide) (by decide) ?_
    walk_at "rx"
    refine r_modI (by decide) ?_
    walk_at "rx"
    have e : (((1 : Nat) : Int) + c / ((4 : Nat) : Int) % ((60 : Nat) : Int)) = ((1 + (c / 4 % 60).toNat : Nat) : Int) := by omega
    rw [e]
    exact q _ (by omega) (by omega)
  · walk_at "rx"
    refine r_divI (by decide) (by decide) ?_
    walk_at "rx"
    refine r_modI (by decide) ?_
    walk_at "rx"
    have e : (((1 : Nat) : Int) + c / ((4 : Nat) : Int) % ((16 : Nat) : Int)) = ((1 + (c / 4 % 16).toNat : Nat) : Int) := by omega
    rw [e]
    exact q _ (by omega) (by omega)
theorem strip_no {p f r : Nat} (h : ¬ r % p = 0) : strip p f r = r := by
  cases f with
  | zero => rfl
  | succ f => show (if r % p = 0 then _ else _) = _; rw [if_neg h]
theorem strip_go {p f r : Nat} (h : r % p = 0) (hf : 1 ≤ f) : strip p f r = strip p (f - 1) (r / p) := by
  obtain ⟨g, rfl⟩ : ∃ g, f = g + 1 := ⟨f - 1, by omega⟩
  show (if r % p = 0 then _ else _) = _
  rw [if_pos h]
  rfl
def sp_law_primes (K : PySem.W.Frag) : Sp := fun vs H Q _ => ∃ (m : Nat), vs = [.int (m : Int)] ∧ 1 ≤ m ∧ m ≤ 60 ∧ ∀ d H', H d = none → Same H H' → Gr K H' d (primesL m) → Q (.ref d) H'
theorem ok_law_primes (T : Txt K mg) : FnOk P w K mg base CX0 1 T.d_law_primes.f T.d_law_primes.fd ["_law_many"] (sp_law_primes K) := by
  refine T.d_law_primes.ok sc_law_primes (fun vs H Q E h => ?_) (fun cdv A outer s H vs Q E hr h => ?_)
  · obtain ⟨m, rfl, _⟩ := h
    rfl
  obtain ⟨m, rfl, m1, m2, q⟩ := h
  refine ⟨_, (pss_cons (ps_set (i := 1) sc_law_primes.nd rfl (Or.inl rfl) (pe_lst pa_nil))
      (pss_cons (ps_set (i := 2) sc_law_primes.nd rfl (Or.inl rfl) (pv 0))
      (pss_cons (ps_for PassesOwn.never rfl (pi_range2F rfl T.z_range (paF pe_int (paF (pe_op op_add (pv 0) pe_int) pa_nil))) (pg_name (i := 3) sc_law_primes.nd rfl (Or.inl rfl)) (pss_cons (ps_if (pt_cmpR op_eq (pe_op op_mod (pv 2) (pv 3)) pe_int (nomark _)) (pss_one (ps_expr (pe_bmF K rfl PySem.F.plainAttrs_list PySem.F.slot_list_append PySem.F.type_list_append mt_append (pv 1) (paF (pv 3) pa_nil)))) pss_nil)
      (pss_one (ps_while PassesOwn.never (pt_cmpR op_eq (pe_op op_mod (pv 2) (pv 3)) pe_int (nomark _)) (pss_one (ps_set (i := 2) sc_law_primes.nd rfl (Or.inl rfl) (pe_op op_fdiv (pv 2) (pv 3))))))))
      (pss_one (ps_ret (pv 1)))))), ?_⟩
  walk_at "rx"
  refine mk_lstG (K := K) (l := ([] : List Nat)) mk_nil (by decide) fun d H1 fd s1 g1 => ?_
  walk_at "rx"
  refine r_iRng2 ?_
  walk_at "rx"
  have pl : ∀ k, (primesGo m k).1.length ≤ k := fun k => by
    induction k with
    | zero => exact Nat.le_refl _
    | succ k ih =>
      show (if (primesGo m k).2 % (k + 2) = 0 then (primesGo m k).1 ++ [k + 2] else (primesGo m k).1).length ≤ _
      split
      · rw [List.length_append]; show _ + 1 ≤ _; omega
      · omega
  refine rd_range2 (lo := 2) (n := m - 1) rfl (by omega) (by omega) (fun i σ' H' => Same H H' ∧ ∃ (x : Option V), Gr K H' d (primesGo m i).1 ∧ 1 ≤ (primesGo m i).2 ∧ (primesGo m i).2 ≤ 60 ∧ σ' = [some (.int (m : Int)), some (.ref d), some (.int ((primesGo m i).2 : Int)), x]) ⟨s1, _, g1, m1, m2, rfl⟩ ?_ ?_
  · rintro i σ' H2 hi ⟨s2, x, g2, r1, r2, rfl⟩
    have hpl := pl i
    have e0 : primesGo m (i + 1) = (if (primesGo m i).2 % (i + 2) = 0 then (primesGo m i).1 ++ [i + 2] else (primesGo m i).1, strip (i + 2) 64 (primesGo m i).2) := rfl
    rw [show 2 + i = i + 2 by omega]
    generalize hr0 : (primesGo m i).2 = r at r1 r2 e0
    generalize hl0 : (primesGo m i).1 = l at g2 e0 hpl
    walk_at "rx"
    refine r_ifJ (fun σ3 H3 => Same H H3 ∧ Gr K H3 d (primesGo m (i + 1)).1 ∧ σ3 = [some (.int (m : Int)), some (.ref d), some (.int (r : Int)), some (.int ((i + 2 : Nat) : Int))]) (fun N hN => ?_) ?_
    · walk_at "rx"
      refine rd_if (fun c => ?_) (fun c => ?_)
      · walk_at "rx"
        refine ⟨g2.ty, ?_⟩
        walk_at "rx"
        refine r_append (b := i + 2) g2 (by omega) rfl fun H3 g3 k3 _ => hN _ _ ⟨Same.but fd s2 k3, ?_, rfl⟩
        rw [e0, if_pos c]
        exact g3
      · walk_at "rx"
        refine hN _ _ ⟨s2, ?_, rfl⟩
        rw [e0, if_neg c]
        exact g2
    · rintro σ3 H3 ⟨s3, g3, rfl⟩
      have p64 : r < 2 ^ 64 := by
        have : (2 : Nat) ^ 64 = 18446744073709551616 := by decide
        omega
      walk_at "rx"
      refine rd_while (fun mm σ4 H4 => Same H H4 ∧ Gr K H4 d (primesGo m (i + 1)).1 ∧ ∃ (f cur : Nat), mm = cur ∧ 1 ≤ cur ∧ cur ≤ 60 ∧ cur < 2 ^ f ∧ strip (i + 2) f cur = strip (i + 2) 64 r ∧ σ4 = [some (.int (m : Int)), some (.ref d), some (.int (cur : Int)), some (.int ((i + 2 : Nat) : Int))]) r ⟨s3, g3, 64, r, rfl, r1, r2, p64, rfl, rfl⟩ ?_
      rintro mm σ4 H4 ⟨s4, g4, f, cur, emm, c1, c2, c3, c4, rfl⟩
      walk_at "rx"
      refine rd_if (fun c => ?_) (fun c => ?_)
      · have f1 : 1 ≤ f := by
          rcases Nat.eq_zero_or_pos f with z | z
          · rw [z] at c3; simp at c3; omega
          · exact z
        have hd1 : cur / (i + 2) < cur := Nat.div_lt_self (by omega) (by omega)
        have hle : i + 2 ≤ cur := Nat.le_of_dvd (by omega) (Nat.dvd_of_mod_eq_zero c)
        have hd2 : 1 ≤ cur / (i + 2) := Nat.div_pos hle (by omega)
        refine ⟨fun σ5 H5 => Same H H5 ∧ Gr K H5 d (primesGo m (i + 1)).1 ∧ σ5 = [some (.int (m : Int)), some (.ref d), some (.int ((cur / (i + 2) : Nat) : Int)), some (.int ((i + 2 : Nat) : Int))], fun σ5 H5 z => ?_, ?_⟩
        · obtain ⟨z1, z2, z3⟩ := z
          refine ⟨cur / (i + 2), by omega, z1, z2, f - 1, cur / (i + 2), rfl, hd2, by omega, ?_, by rw [← c4, strip_go c f1], z3⟩
          have e2 : 2 ^ f = 2 * 2 ^ (f - 1) := by
            obtain ⟨g, rfl⟩ : ∃ g, f = g + 1 := ⟨f - 1, by omega⟩
            rw [Nat.pow_succ]
            simp
            omega
          have : cur / (i + 2) ≤ cur / 2 := Nat.div_le_div_left (by omega) (by decide)
          omega
        · walk_at "rx"
          exact ⟨s4, g4, rfl⟩
      · rw [strip_no c] at c4
        refine ⟨s4, some (.int ((i + 2 : Nat) : Int)), g4, ?_, ?_, ?_⟩
        · rw [e0]; show 1 ≤ strip (i + 2) 64 r; rw [← c4]; exact c1
        · rw [e0]; show strip (i + 2) 64 r ≤ 60; rw [← c4]; exact c2
        · rw [e0]; show _ = [_, _, some (V.int ((strip (i + 2) 64 r : Nat) : Int)), _]; rw [← c4]
  · rintro σ' H2 ⟨s2, x, g2, _, _, rfl⟩
    walk_at "rx"
    exact q d H2 fd s2 g2
theorem r_ixNeg {H : Hp} {v : V} {Q : VK} {l : List Int} {a : Int} {c : Int} (h : At K H v l) {j : Nat} (e : a = (j : Int) ∨ a = (j : Int) - (l.length : Int)) (hj : l[j]? = some c) (q : Q (.int c) H) : rIxL K v (.int a) H Q := by
  obtain ⟨p, rfl, hS⟩ := z_at h
  have hjl : j < l.length := (List.getElem?_eq_some_iff.mp hj).1
  refine ⟨p, zsV l, a, .int c, rfl, rfl, hS, ?_, q⟩
  have hz : (zsV l)[j]? = some (.int c) := by unfold zsV; rw [List.getElem?_map, hj]; rfl
  have hl : (zsV l).length = l.length := by unfold zsV; rw [List.length_map]
  rcases e with rfl | rfl
  · exact atI_nat hz
  · unfold atI ixN
    rw [hl, if_neg (by omega), if_pos (by omega)]
    have : ((j : Int) - (l.length : Int) + (l.length : Int)).toNat = j := by omega
    rw [this]
    exact hz
def rowF (m : Nat) (f : Nat → Int) : List Int := (List.range m).map f
theorem rowF_len {m : Nat} {f : Nat → Int} : (rowF m f).length = m := by unfold rowF; simp
theorem rowF_get {m : Nat} {f : Nat → Int} {k : Nat} (h : k < m) : (rowF m f)[k]? = some (f k) := by unfold rowF; simp [h]
theorem rowF_set {m : Nat} {f g : Nat → Int} {p : Nat} {x : Int} (h : ∀ k, k < m → g k = if k = p then x else f k) : (rowF m f).set p x = rowF m g := by
  refine List.ext_getElem? fun i => ?_
  rw [List.getElem?_set, rowF_len]
  by_cases hi : i < m
  · rw [rowF_get hi, rowF_get hi, h i hi]
    by_cases e : p = i
    · rw [if_pos e, if_pos e.symm, if_pos (by omega)]
    · rw [if_neg e, if_neg fun z => e z.symm]
  · have h1 : (rowF m f)[i]? = none := List.getElem?_eq_none (by rw [rowF_len]; omega)
    have h2 : (rowF m g)[i]? = none := List.getElem?_eq_none (by rw [rowF_len]; omega)
    rw [h1, h2]
    split
    · rw [if_neg (by omega)]
    · rfl
def sp_law_nought (K : PySem.W.Frag) : Sp := fun vs H Q _ => ∃ (v : V) (l : List Int) (m : Nat), vs = [v, .int (m : Int)] ∧ At K H v l ∧ l.length ≤ 1000 ∧ 1 ≤ m ∧ m ≤ 60 ∧ (∀ p ∈ primesL m, 1 ≤ m / p ∧ m / p ≤ m ∧ 0 < p ∧ p ≤ 1000) ∧ Nought m (qsOf m) l ∧ ∀ H', Same H H' → Q (.bl true) H'
theorem ok_law_nought (T : Txt K mg) : FnOk P w K mg base CX0 2 T.d_law_nought.f T.d_law_nought.fd ["_law_counts", "_law_many"] (sp_law_nought K) := by
  refine T.d_law_nought.ok sc_law_nought (fun vs H Q E h => ?_) (fun cdv A outer s H vs Q E hr h => ?_)
  · obtain ⟨v, l, m, rfl, _⟩ := h
    rfl
  obtain ⟨v, l, m, rfl, hv, hl, m1, m2, hpr, no, q⟩ := h
  refine ⟨_, (pss_cons (ps_set (i := 2) sc_law_nought.nd rfl (Or.inr rfl) (pe_op op_rep (pe_lst (paF pe_int pa_nil)) (pv 1)))
      (pss_cons (ps_for PassesOwn.never rfl (pi_range1F rfl T.z_range (paF (pe_callBF (call_lenK K rfl) rfl T.z_len PySem.boot_len (paF (pv 0) pa_nil)) pa_nil)) (pg_name (i := 3) sc_law_nought.nd rfl (Or.inl rfl)) (pss_one (ps_asg (pe_op op_add (pe_ix (ix_listK K rfl) (pv 2) (pe_op op_mod (pv 3) (pv 1)) (fun _ _ => rfl)) (pe_ix (ix_listK K rfl) (pv 0) (pv 3) (fun _ _ => rfl))) (pg_sub (pv 2) (pe_op op_mod (pv 3) (pv 1)) set_list))))
      (pss_cons (ps_for PassesOwn.never rfl (pi_listK K rfl (pe_dfF T.d_law_primes (ok_law_primes T) (hr.mono (by decide)) rfl (paF (pv 1) pa_nil))) (pg_name (i := 4) sc_law_nought.nd rfl (Or.inr rfl)) (pss_one (ps_set (i := 2) sc_law_nought.nd rfl (Or.inr rfl) (pe_comp rfl cs_law_nought_0 (pi_range1F rfl T.z_range (paF (pv 1) pa_nil)) (fun _ _ _ _ => ⟨(pg_name (i := 0) cs_law_nought_0.nd rfl (Or.inl rfl)), pif_nil, (pe_op op_sub (pe_ix (ix_listK K rfl) (pv 3) (pv 0) (fun _ _ => rfl)) (pe_ix (ix_listK K rfl) (pv 3) (pe_op op_sub (pv 0) (pe_op op_fdiv (pv 1) (pv 2))) (fun _ _ => rfl)))⟩)))))
      (pss_one (ps_ret (pe_callBF (call_allK K rfl rfl) rfl T.z_all PyProof.Rows.boot_all (paF (pe_comp rfl cs_law_nought_1 (pi_listK K rfl (pv 2)) (fun _ _ _ _ => ⟨(pg_name (i := 0) cs_law_nought_1.nd rfl (Or.inl rfl)), pif_nil, (pe_cmpR op_eq (pv 0) pe_int (nomark _))⟩)) pa_nil))))))), ?_⟩
  walk_at "rx"
  refine r_lst ?_
  walk_at "rx"
  refine ⟨small (by show 1 ≤ 1000; decide), fun p1 hp1 => ?_⟩
  walk_at "rx"
  refine ⟨p1, _, _, rfl, rfl, upd_same, by omega, by omega, ?_, fun a ha => ?_⟩
  · rw [sizeLine_eq]
    show 1 * _ ≤ _
    omega
  rw [show ((m : Nat) : Int).toNat = m by omega, rep_z]
  have fa : H a = none := (same_new hp1 _).free ha
  have s2 := (same_new hp1 (.lst [.int ((0 : Nat) : Int)])).trans (same_new ha (.lst (zsV (List.replicate m ((0 : Nat) : Int)))))
  have h2 : (upd (upd H p1 (.lst [.int ((0 : Nat) : Int)])) a (.lst (zsV (List.replicate m ((0 : Nat) : Int))))) a = some (.lst (zsV (rowF m (Sg m 0 (l.take 0))))) := by
    rw [upd_same]
    congr 3
    refine List.ext_getElem? fun i => ?_
    by_cases hi : i < m
    · rw [rowF_get hi]; simp [hi, Sg]
    · rw [List.getElem?_eq_none (by simp; omega), List.getElem?_eq_none (by rw [rowF_len]; omega)]
  generalize upd (upd H p1 (.lst [.int ((0 : Nat) : Int)])) a (.lst (zsV (List.replicate m ((0 : Nat) : Int)))) = H2 at s2 h2
  have hv2 := Rep.mono s2 hv
  walk_at "rx"
  refine rd_range (n := l.length) rfl (by omega) (fun i σ' H' => Same H H' ∧ ∃ (x y : Option V), H' a = some (.lst (zsV (rowF m (Sg m 0 (l.take i))))) ∧ σ' = [some v, some (.int (m : Int)), some (.ref a), x, y]) ⟨s2, _, _, h2, rfl⟩ ?_ ?_
  · rintro i σ' H3 hi ⟨s3, x, y, h3, rfl⟩
    have hv3 := Rep.mono s3 hv
    have hm := Nat.mod_lt i (show 0 < m by omega)
    walk_at "rx"
    refine r_ixZ (at_z h3) rfl (rowF_get hm) ?_
    walk_at "rx"
    refine r_ixZ hv3 rfl (List.getElem?_eq_getElem hi) ?_
    walk_at "rx"
    refine r_setL h3 rfl (by unfold zsV; rw [List.length_map, rowF_len]; exact hm) ?_
    refine ⟨fun b o zz => by rw [upd_ne (ne_of_none zz fa)]; exact s3 _ _ zz, _, _, ?_, rfl⟩
    rw [upd_same]
    congr 2
    have e1 : (zsV (rowF m (Sg m 0 (l.take i)))).set (i % m) (.int (Sg m 0 (l.take i) (i % m) + l[i])) = zsV ((rowF m (Sg m 0 (l.take i))).set (i % m) (Sg m 0 (l.take i) (i % m) + l[i])) := by unfold zsV; rw [List.map_set]
    rw [e1, rowF_set (g := Sg m 0 (l.take (i + 1))) fun k hk => ?_]
    rw [List.take_add_one, List.getElem?_eq_getElem hi]
    show Sg m 0 (l.take i ++ [l[i]]) k = _
    rw [Sg_app]
    have el : 0 + (l.take i).length = i := by rw [List.length_take]; omega
    rw [el]
    show Sg m 0 (l.take i) k + ((if i % m = k then l[i] else 0) + 0) = _
    by_cases e : k = i % m
    · rw [if_pos e.symm, if_pos e, e, Int.add_zero]
    · rw [if_neg fun z => e z.symm, if_neg e]; omega
  · rintro σ' H3 ⟨s3, x, y, h3, rfl⟩
    rw [List.take_length] at h3
    walk_at "rx"
    refine ⟨m, rfl, m1, m2, fun d H4 fd s4 g4 => ?_⟩
    have s04 := s3.trans s4
    have aP := g4.at
    refine rd_listF (H₀ := H4) aP (fun i σ' H' => Same H4 H' ∧ ∃ (a : Addr) (x y : Option V), H' a = some (.lst (zsV (rowF m (Dq m ((qsOf m).take i) (Sg m 0 l))))) ∧ σ' = [some v, some (.int (m : Int)), some (.ref a), x, y]) ⟨Same.refl _, a, _, _, s4 _ _ h3, rfl⟩ (fun i σ' H' z => z.1) ?_ ?_
    · rintro i p w' σ' H5 hp hw ⟨s5, a5, x5, y5, h5, rfl⟩
      cases (show w' = V.int (p : Int) from hw)
      obtain ⟨p1, p2, p3, p4⟩ := hpr p (List.mem_of_getElem? hp)
      have eq1 : (qsOf m).take (i + 1) = (qsOf m).take i ++ [m / p] := by
        unfold qsOf
        rw [List.take_add_one, List.getElem?_map, hp]
        rfl
      have eD : Dq m ((qsOf m).take (i + 1)) (Sg m 0 l) = Dm m (m / p) (Dq m ((qsOf m).take i) (Sg m 0 l)) := by
        rw [eq1]
        unfold Dq
        rw [List.foldl_append]
        rfl
      walk_at "rx"
      refine rd_crangeR (n := m) rfl (by omega) (fun d i' σ' H' ys => Same H5 H' ∧ ∃ x : Option V, ys = zsV (rowF i' (Dm m (m / p) (Dq m ((qsOf m).take i) (Sg m 0 l)))) ∧ σ' = [x, some (.int (m : Int)), some (.int (p : Int)), some (.ref a5)]) (fun d i' σ' H' ys hi' z => by obtain ⟨_, x, e, _⟩ := z; rw [e]; unfold zsV; rw [List.length_map, rowF_len]; exact Nat.le_refl _) (fun d hd => ⟨same_new hd _, _, rfl, rfl⟩) ?_ ?_
      · rintro d5 k σ6 H6 ys R R0 hd5 hk ⟨s6, x6, rfl, rfl⟩ hys hR hR0
        have h6 := s6 _ _ h5
        walk_at "rx"
        refine r_ixZ (at_z h6) rfl (rowF_get hk) ?_
        walk_at "rx"
        refine r_ixNeg (at_z h6) (j := (k + (m - m / p)) % m) ?_ (rowF_get (Nat.mod_lt _ (by omega))) ?_
        · rw [rowF_len]
          rcases Nat.lt_or_ge k (m / p) with z | z
          · right
            rw [Nat.mod_eq_of_lt (by omega)]
            omega
          · left
            rw [show k + (m - m / p) = (k - m / p) + m by omega, Nat.add_mod_right, Nat.mod_eq_of_lt (by omega)]
            omega
        walk_at "rx"
        refine hR _ _ _ hys ⟨fun b o zz => by rw [upd_ne (ne_of_none zz hd5)]; exact s6 _ _ zz, _, ?_, rfl⟩
        unfold zsV rowF
        rw [List.range_succ, List.map_append, List.map_append]
        rfl
      rintro d6 σ6 H6 ys fd6 hd6 ⟨s6, x6, rfl, rfl⟩
      walk_at "rx"
      exact ⟨s5.trans s6, d6, _, _, by rw [eD]; exact hd6, rfl⟩
    · rintro σ' H5 ⟨s5, a5, x5, y5, h5, rfl⟩
      have el : (qsOf m).take (primesL m).length = qsOf m := List.take_of_length_le (by unfold qsOf; rw [List.length_map]; exact Nat.le_refl _)
      rw [el] at h5
      walk_at "rx"
      refine rd_clist (β := Bool) (at_z (K := K) h5) (by rw [rowF_len]; omega) (fun i => List.replicate i true) (fun σ' => ∃ y, σ' = [y]) rfl (fun i hi => by simp) ⟨_, rfl⟩ ?_ ?_
      · rintro i c w' σ6 H6 d' R' R0 hc hs hw ⟨y, rfl⟩ hR' hR0 hd'
        cases (show w' = V.int c from hw)
        have hi : i < m := by
          have := (List.getElem?_eq_some_iff.mp hc).1
          rw [rowF_len] at this
          exact this
        rw [rowF_get hi] at hc
        have c0 : c = 0 := by rw [← Option.some.inj hc]; exact no i hi
        subst c0
        walk_at "rx"
        exact hR' _ _ true _ ⟨_, rfl⟩ (Same.refl _) rfl List.replicate_succ'
      intro d6 H6 s6 h6
      walk_at "rx"
      refine r_allL h6 ?_
      rw [show (List.replicate (rowF m (Dq m (qsOf m) (Sg m 0 l))).length true).all id = true by simp]
      exact q _ ((s04.trans s5).trans s6)
theorem filter_len_succ (f : Nat → Bool) (i : Nat) : ((List.range (i + 1)).filter f).length = ((List.range i).filter f).length + (if f i = true then 1 else 0) := by
  rw [List.range_succ, List.filter_append, List.length_append]
  by_cases h : f i = true
  · simp [h]
  · simp [h]
def sp_law_degree (K : PySem.W.Frag) : Sp := fun vs H Q _ => ∃ (m : Nat), vs = [.int (m : Int)] ∧ 1 ≤ m ∧ m ≤ 60 ∧ (∀ p ∈ primesL m, 0 < p) ∧ ∀ H', Same H H' → Q (.int (degL m : Int)) H'
theorem ok_law_degree (T : Txt K mg) : FnOk P w K mg base CX0 2 T.d_law_degree.f T.d_law_degree.fd ["_law_many"] (sp_law_degree K) := by
  refine T.d_law_degree.ok sc_law_degree (fun vs H Q E h => ?_) (fun cdv A outer s H vs Q E hr h => ?_)
  · obtain ⟨m, rfl, _⟩ := h
    rfl
  obtain ⟨m, rfl, m1, m2, hpr, q⟩ := h
  refine ⟨_, (pss_cons (ps_set (i := 1) sc_law_degree.nd rfl (Or.inr rfl) (pe_dfF T.d_law_primes (ok_law_primes T) (hr.mono (by decide)) rfl (paF (pv 0) pa_nil)))
      (pss_one (ps_ret (pe_callBF (call_lenK K rfl) rfl T.z_len PySem.boot_len (paF (pe_compC rfl cs_law_degree_0 (pi_range2F rfl T.z_range (paF pe_int (paF (pe_op op_add (pv 0) pe_int) pa_nil))) (fun _ _ _ _ => ⟨(pg_name (i := 0) cs_law_degree_0.nd rfl (Or.inr rfl)), (pif_one (pt_val (pe_callBF (call_allK K rfl rfl) rfl T.z_all PyProof.Rows.boot_all (paF (pe_comp rfl cs_law_degree_1 (pi_listK K rfl (pv 1)) (fun _ _ _ _ => ⟨(pg_name (i := 0) cs_law_degree_1.nd rfl (Or.inl rfl)), pif_nil, (pe_cmpR op_ne (pe_op op_mod (pv 1) (pv 0)) pe_int (nomark _))⟩)) pa_nil)))), (pv 0)⟩)) pa_nil))))), ?_⟩
  walk_at "rx"
  refine ⟨m, rfl, m1, m2, fun d H1 fd s1 g1 => ?_⟩
  have aP := g1.at
  have pl : (primesL m).length ≤ 60 := by
    have : ∀ k, (primesGo m k).1.length ≤ k := fun k => by
      induction k with
      | zero => exact Nat.le_refl _
      | succ k ih =>
        show (if (primesGo m k).2 % (k + 2) = 0 then (primesGo m k).1 ++ [k + 2] else (primesGo m k).1).length ≤ _
        split
        · rw [List.length_append]; show _ + 1 ≤ _; omega
        · omega
    have := this (m - 1)
    show (primesGo m (m - 1)).1.length ≤ 60
    omega
  walk_at "rx"
  refine r_iRng2 ?_
  walk_at "rx"
  refine rd_crange2R (lo := 1) (n := m) rfl (by omega) (by omega) (fun d' i σ' H' ys => Same H1 H' ∧ ∃ x : Option V, ys.length = ((List.range i).filter fun k => (primesL m).all fun p => (k + 1) % p ≠ 0).length ∧ σ' = [x, some (.ref d)])
    (fun d' i σ' H' ys hi z => by obtain ⟨_, x, e, _⟩ := z; rw [e]; exact Nat.le_trans (List.length_filter_le _ _) (by simp)) (fun d' hd' => ⟨same_new hd' _, _, rfl, rfl⟩) ?_ ?_
  · rintro d' i σ' H2 ys R R0 hd' hi ⟨s2, x, hys, rfl⟩ hy2 hR hR0
    have aP2 := Rep.mono s2 aP
    rw [show 1 + i = i + 1 by omega]
    walk_at "rx"
    refine rd_clist (β := Bool) aP2 (by omega) (fun j => ((primesL m).map fun p => !decide ((i + 1) % p = 0)).take j) (fun σ' => ∃ y, σ' = [y, some (.int ((i + 1 : Nat) : Int))]) rfl (fun j hj => by rw [List.length_take]; omega) ⟨_, rfl⟩ ?_ ?_
    · rintro j c w' σ3 H3 d3 R' R0' hc hs hw ⟨y, rfl⟩ hR' hR0' hd3
      cases (show w' = V.int (c : Int) from hw)
      have c1 := hpr c (List.mem_of_getElem? hc)
      walk_at "rx"
      refine hR' _ _ (!decide ((i + 1) % c = 0)) _ ⟨_, rfl⟩ (Same.refl _) rfl ?_
      rw [List.take_add_one, List.getElem?_map, hc]
      rfl
    intro d3 H3 s3 h3
    have h3' : At K H3 (.ref d3) ((primesL m).map fun p => !decide ((i + 1) % p = 0)) := by
      have z : At K H3 (.ref d3) (((primesL m).map fun p => !decide ((i + 1) % p = 0)).take (primesL m).length) := h3
      rw [List.take_of_length_le (by simp)] at z
      exact z
    walk_at "rx"
    refine r_allL h3' ?_
    have ea : ((primesL m).map fun p => !decide ((i + 1) % p = 0)).all id = (primesL m).all fun p => (i + 1) % p ≠ 0 := by
      rw [List.all_map]
      congr 1
      funext p
      simp
    rw [ea]
    have fl := filter_len_succ (fun k => (primesL m).all fun p => (k + 1) % p ≠ 0) i
    walk_at "rx"
    cases hb : (primesL m).all fun p => (i + 1) % p ≠ 0 with
    | true =>
      rw [if_pos hb] at fl
      refine iteT ?_
      walk_at "rx"
      refine hR _ _ _ (s3 _ _ hy2) ⟨fun b o zz => by rw [upd_ne (ne_of_none zz hd')]; exact s3 _ _ (s2 _ _ zz), _, ?_, rfl⟩
      rw [List.length_append, hys, fl]
      rfl
    | false =>
      rw [if_neg (by rw [hb]; exact Bool.false_ne_true)] at fl
      refine iteF ?_
      refine hR0 _ _ (s3 _ _ hy2) ⟨s2.trans s3, _, ?_, rfl⟩
      rw [hys, fl]
      rfl
  rintro d2 σ2 H2 ys fd2 hd2 ⟨s2, x, hys, rfl⟩
  walk_at "rx"
  refine ⟨d2, ys, rfl, .inl (SqL.of hd2), ?_⟩
  have : ((ys.length : Nat) : Int) = (degL m : Int) := by rw [hys]; rfl
  rw [this]
  exact q _ (s1.trans s2)
def sp_law_number (K : PySem.W.Frag) : Sp := fun vs H Q _ => ∃ (v : V) (ns : List Int) (k : Nat), vs = [v, .int (k : Int)] ∧ At K H v ns ∧ ns.length ≤ 1000 ∧ k ≤ 100000 ∧ ∀ z : Int, z.natAbs < 2 ^ 250 → Q (.int z) H
theorem ok_law_number (T : Txt K mg) : FnOk P w K mg base CX0 1 T.d_law_number.f T.d_law_number.fd ["_law_script", "_law_at_here"] (sp_law_number K) := by
  refine T.d_law_number.ok sc_law_number (fun vs H Q E h => ?_) (fun cdv A outer s H vs Q E hr h => ?_)
  · obtain ⟨v, ns, k, rfl, _⟩ := h
    rfl
  obtain ⟨v, ns, k, rfl, hv, hl, hk, q⟩ := h
  refine ⟨_, (pss_cons (ps_if (pt_cmpR op_eq (pe_callBF (call_lenK K rfl) rfl T.z_len PySem.boot_len (paF (pv 0) pa_nil)) pe_int (nomark _)) (pss_one (ps_ret pe_int)) pss_nil)
      (pss_cons (ps_set (i := 2) sc_law_number.nd rfl (Or.inl rfl) (pe_ix (ix_listK K rfl) (pv 0) (pe_op op_mod (pv 1) (pe_callBF (call_lenK K rfl) rfl T.z_len PySem.boot_len (paF (pv 0) pa_nil))) (fun _ _ => rfl)))
      (pss_cons (ps_set (i := 3) sc_law_number.nd rfl (Or.inl rfl) (pe_op op_mod (pe_op op_mul (pe_op op_fdiv (pv 2) pe_int) (pe_op op_add pe_int (pe_op op_mul (pv 1) (pv 1)))) (pe_op op_pow pe_int pe_int)))
      (pss_cons (ps_if (pt_cmpR op_eq (pe_op op_mod (pe_op op_add (pv 2) (pv 1)) pe_int) pe_int (nomark _)) (pss_one (ps_set (i := 3) sc_law_number.nd rfl (Or.inl rfl) (pe_op op_mod (pv 3) pe_int))) pss_nil)
      (pss_cons (ps_if (pt_cmpR op_eq (pe_op op_mod (pe_op op_add (pv 2) (pv 1)) pe_int) pe_int (nomark _)) (pss_one (ps_set (i := 3) sc_law_number.nd rfl (Or.inl rfl) pe_int)) pss_nil)
      (pss_cons (ps_if (pt_cmpR op_eq (pe_op op_mod (pv 2) pe_int) pe_int (nomark _)) (pss_one (ps_ret (pe_op op_sub pe_int (pv 3)))) pss_nil)
      (pss_one (ps_ret (pv 3))))))))), ?_⟩
  walk_at "rx"
  walk_at "ifs"
  walk_at "rx"
  refine rd_if (fun c => ?_) (fun c => ?_)
  · walk_at "rx"
    exact q _ (by decide)
  · walk_at "rx"
    have hm := Nat.mod_lt k (show 0 < ns.length by omega)
    refine r_ixI hv rfl (List.getElem?_eq_getElem hm) ?_
    walk_at "rx"
    have hkk : k * k ≤ 100000 * 100000 := Nat.mul_le_mul hk hk
    generalize ns[k % ns.length] = c0
    refine r_divI (by decide) (by decide) ?_
    walk_at "rx"
    refine r_rI (.inr ⟨by omega, by omega⟩) ?_
    walk_at "rx"
    refine r_rI ⟨by decide, by decide, by decide⟩ ?_
    refine r_modI (by decide) ?_
    walk_at "rx"
    have hz0 : 0 ≤ c0 / ((2 : Nat) : Int) * (((1 + k * k : Nat)) : Int) % ((10 : Nat) : Int) ^ ((60 : Nat) : Int).toNat ∧ c0 / ((2 : Nat) : Int) * (((1 + k * k : Nat)) : Int) % ((10 : Nat) : Int) ^ ((60 : Nat) : Int).toNat < 10 ^ 60 :=
      ⟨Int.emod_nonneg _ (by decide), Int.emod_lt_of_pos _ (by decide)⟩
    revert hz0
    generalize c0 / ((2 : Nat) : Int) * (((1 + k * k : Nat)) : Int) % ((10 : Nat) : Int) ^ ((60 : Nat) : Int).toNat = z0
    intro hz0
    refine r_ifJ (fun σ' H' => H' = H ∧ ∃ z : Int, (0 ≤ z ∧ z < 10 ^ 60) ∧ σ' = [some v, some (.int (k : Int)), some (.int c0), some (.int z)]) (fun N hN => ?_) ?_
    · walk_at "rx"
      refine r_modI (by decide) ?_
      walk_at "rx"
      refine rd_if (fun _ => ?_) (fun _ => ?_)
      · walk_at "rx"
        refine r_modI (by decide) ?_
        walk_at "rx"
        exact hN _ _ ⟨rfl, _, ⟨Int.emod_nonneg _ (by decide), by omega⟩, rfl⟩
      · walk_at "rx"
        exact hN _ _ ⟨rfl, z0, hz0, rfl⟩
    rintro σ' H' ⟨rfl, z1, hz1, rfl⟩
    walk_at "rx"
    refine r_ifJ (fun σ' H'' => H'' = H' ∧ ∃ z : Int, (0 ≤ z ∧ z < 10 ^ 60) ∧ σ' = [some v, some (.int (k : Int)), some (.int c0), some (.int z)]) (fun N hN => ?_) ?_
    · walk_at "rx"
      refine r_modI (by decide) ?_
      walk_at "rx"
      refine rd_if (fun _ => ?_) (fun _ => ?_)
      · walk_at "rx"
        exact hN _ _ ⟨rfl, ((0 : Nat) : Int), by decide, rfl⟩
      · walk_at "rx"
        exact hN _ _ ⟨rfl, z1, hz1, rfl⟩
    rintro σ' H'' ⟨rfl, z2, hz2, rfl⟩
    walk_at "rx"
    walk_at "ifs"
    walk_at "rx"
    refine r_modI (by decide) ?_
    walk_at "rx"
    refine rd_if (fun _ => ?_) (fun _ => ?_)
    · walk_at "rx"
      exact q _ (by omega)
    · walk_at "rx"
      exact q _ (by omega)
end

section
variable {P : Program} {w : World} {K : PySem.W.Frag} {mg : Str → Option Value} {base : Heap}
theorem subTo_all {d l : List Int} (h : d.length ≤ l.length) : subTo 1 d 0 d.length l = List.zipWith (fun x y => x - 1 * y) (l.take d.length) d ++ l.drop d.length := by
  refine List.ext_getElem? fun i => ?_
  rw [subTo_get]
  rcases Nat.lt_or_ge i d.length with z | z
  · rw [List.getElem?_append_left (by simp; omega), List.getElem?_zipWith, List.getElem?_take_of_lt z, List.getElem?_eq_getElem (show i < l.length by omega), List.getElem?_eq_getElem z, Option.map_some, if_pos (by omega)]
    simp [List.getD, List.getElem?_eq_getElem z]
  · rw [List.getElem?_append_right (by simp; omega), List.getElem?_drop]
    simp only [List.length_zipWith, List.length_take]
    rw [show d.length + (i - min (min d.length l.length) d.length) = i by omega]
    cases l[i]? with
    | none => rfl
    | some x => rw [Option.map_some, if_neg (by omega)]
theorem rest_nought {m : Nat} (hm : 0 < m) (W : WheelOk m) (l : List Int) (hd : (lowL m l).length ≤ m) : Nought m (qsOf m) (subTo 1 (lowL m l) 0 (lowL m l).length (l ++ List.replicate m 0)) := by
  intro k hk
  have e := Dq_lin m 1 hm (qsOf m) (Sg m 0 l) (Sg m 0 (lowL m l)) (Sg m 0 (subTo 1 (lowL m l) 0 (lowL m l).length (l ++ List.replicate m 0))) (fun k hk => ?_) k hk
  · rw [e, lowL_D hm W l hk]
    omega
  · have hle : (lowL m l).length ≤ (l ++ List.replicate m (0 : Int)).length := by simp; omega
    rw [subTo_all hle, Sg_app, Sg_zip _ _ _ _ _ _ (by simp; omega)]
    have e1 : Sg m 0 l k = Sg m 0 ((l ++ List.replicate m 0).take (lowL m l).length) k + Sg m (0 + ((l ++ List.replicate m (0 : Int)).take (lowL m l).length).length) ((l ++ List.replicate m 0).drop (lowL m l).length) k := by
      rw [← Sg_app, List.take_append_drop, Sg_app, Sg_rep]
      omega
    rw [e1]
    have e2 : (List.zipWith (fun x y => x - 1 * y) ((l ++ List.replicate m 0).take (lowL m l).length) (lowL m l)).length = ((l ++ List.replicate m (0 : Int)).take (lowL m l).length).length := by simp
    rw [e2]
    omega
def sp_law_is (K : PySem.W.Frag) : Sp := fun vs H Q _ => ∃ (p : Addr) (u : V) (l : List Int) (m : Nat), vs = [.ref p, u, .int (m : Int)] ∧ H p = some (.lst (zsV (lowL m l))) ∧ At K H u l ∧ l.length ≤ 900 ∧ 1 ≤ m ∧ m ≤ 60 ∧ WheelOk m ∧ degL m ≤ m ∧ (∀ p ∈ primesL m, 1 ≤ m / p ∧ m / p ≤ m ∧ 0 < p ∧ p ≤ 1000) ∧ ∀ H', Same H H' → Q (.bl true) H'
theorem ok_law_is (T : Txt K mg) : FnOk P w K mg base CX0 3 T.d_law_is.f T.d_law_is.fd ["_law_found", "_law_counts", "_law_many"] (sp_law_is K) := by
  refine T.d_law_is.ok sc_law_is (fun vs H Q E h => ?_) (fun cdv A outer s H vs Q E hr h => ?_)
  · obtain ⟨p, u, l, m, rfl, _⟩ := h
    rfl
  obtain ⟨p, u, l, m, rfl, hp, hu, hl, m1, m2, W, dm, hpr, q⟩ := h
  have ll := lowL_len W dm l
  have aF : At K H (.ref p) (lowL m l) := at_z hp
  refine ⟨_, (pss_cons (ps_if (PW.pt (pw_or (pt_not (pt_val (pe_callBF (call_isinstK K rfl) rfl T.z_isinstance PyProof.Rows.boot_isinstance (paF (pv 0) (paF (pe_bltn (v := .ty "list") rfl T.z_list PyProof.Rows.boot_list rfl) pa_nil))))) (pw_or1 (pt_cmpR op_ne (pe_callBF (call_lenK K rfl) rfl T.z_len PySem.boot_len (paF (pv 0) pa_nil)) (pe_dfF T.d_law_degree (ok_law_degree T) (hr.mono (by decide)) rfl (paF (pv 2) pa_nil)) (nomark _))))) (pss_one (ps_ret pe_bl)) pss_nil)
      (pss_cons (ps_set (i := 3) sc_law_is.nd rfl (Or.inl rfl) (pe_op op_cat (pe_callTyF (call_listK K rfl) rfl T.z_list PyProof.Rows.boot_list (paF (pv 1) pa_nil)) (pe_op op_rep (pe_lst (paF pe_int pa_nil)) (pv 2))))
      (pss_cons (ps_for PassesOwn.never rfl (pi_range1F rfl T.z_range (paF (pe_callBF (call_lenK K rfl) rfl T.z_len PySem.boot_len (paF (pv 0) pa_nil)) pa_nil)) (pg_name (i := 4) sc_law_is.nd rfl (Or.inl rfl)) (pss_cons (ps_if (pt_not (pt_val (pe_dfF T.d_law_whole (ok_law_whole T) (hr.mono (by decide)) rfl (paF (pe_ix (ix_listK K rfl) (pv 0) (pv 4) (fun _ _ => rfl)) pa_nil)))) (pss_one (ps_ret pe_bl)) pss_nil)
      (pss_one (ps_asg (pe_op op_sub (pe_ix (ix_listK K rfl) (pv 3) (pv 4) (fun _ _ => rfl)) (pe_ix (ix_listK K rfl) (pv 0) (pv 4) (fun _ _ => rfl))) (pg_sub (pv 3) (pv 4) set_list)))))
      (pss_one (ps_ret (pe_dfF T.d_law_nought (ok_law_nought T) (hr.mono (by decide)) rfl (paF (pv 3) (paF (pv 2) pa_nil)))))))), ?_⟩
  walk_at "rx"
  walk_at "ifs"
  walk_at "rx"
  refine r_inst (b := true) (.lst hp) rfl ?_
  walk_at "rx"
  refine iteF ?_
  walk_at "rx"
  refine ⟨m, rfl, m1, m2, fun p hp => (hpr p hp).2.2.1, fun H1 s1 => ?_⟩
  walk_at "rx"
  rw [ll]
  refine rd_ifn (fun c => absurd rfl c) (fun _ => ?_)
  walk_at "rx"
  refine r_copyZ (Rep.mono s1 hu) fun a fa => ?_
  walk_at "rx"
  refine r_lst ?_
  walk_at "rx"
  refine ⟨small (by show 1 ≤ 1000; decide), fun b hb => ?_⟩
  walk_at "rx"
  refine ⟨b, _, _, rfl, rfl, upd_same, by omega, by omega, ?_, fun c hc => ?_⟩
  · rw [sizeLine_eq]
    show 1 * _ ≤ _
    omega
  rw [show ((m : Nat) : Int).toNat = m by omega, rep_z]
  have ab : a ≠ b := fun z => by rw [← z, upd_same] at hb; cases hb
  have ac : a ≠ c := fun z => by rw [← z, upd_ne ab, upd_same] at hc; cases hc
  have s2 := s1.trans ((same_new fa (.lst (zsV l))).trans ((same_new hb (.lst [.int ((0 : Nat) : Int)])).trans (same_new hc (.lst (zsV (List.replicate m ((0 : Nat) : Int)))))))
  have h2 : (upd (upd (upd H1 a (.lst (zsV l))) b (.lst [.int ((0 : Nat) : Int)])) c (.lst (zsV (List.replicate m ((0 : Nat) : Int))))) a = some (.lst (zsV l)) := by rw [upd_ne ac, upd_ne ab]; exact upd_same
  have h3 : (upd (upd (upd H1 a (.lst (zsV l))) b (.lst [.int ((0 : Nat) : Int)])) c (.lst (zsV (List.replicate m ((0 : Nat) : Int))))) c = some (.lst (zsV (List.replicate m 0))) := upd_same
  generalize upd (upd (upd H1 a (.lst (zsV l))) b (.lst [.int ((0 : Nat) : Int)])) c (.lst (zsV (List.replicate m ((0 : Nat) : Int)))) = H2 at s2 h2 h3
  refine ⟨a, c, _, _, rfl, rfl, h2, h3, ?_, fun d hd => ?_⟩
  · unfold zsV
    rw [sizeLine_eq]
    simp
    omega
  have ec : zsV l ++ zsV (List.replicate m 0) = zsV (l ++ List.replicate m 0) := by unfold zsV; rw [List.map_append]
  rw [ec]
  have fd : H d = none := s2.free hd
  have s3 := s2.trans (same_new hd (.lst (zsV (l ++ List.replicate m 0))))
  have h4 : (upd H2 d (.lst (zsV (l ++ List.replicate m 0)))) d = some (.lst (zsV (subTo 1 (lowL m l) 0 0 (l ++ List.replicate m 0)))) := by rw [upd_same, subTo_zero]
  generalize upd H2 d (.lst (zsV (l ++ List.replicate m 0))) = H3 at s3 h4
  have aF3 := Rep.mono s3 aF
  walk_at "rx"
  refine rd_range (n := (lowL m l).length) rfl (by omega) (fun j σ' H' => Same H H' ∧ ∃ x : Option V, H' d = some (.lst (zsV (subTo 1 (lowL m l) 0 j (l ++ List.replicate m 0)))) ∧ σ' = [some (.ref p), some u, some (.int (m : Int)), some (.ref d), x]) ⟨s3, _, h4, rfl⟩ ?_ ?_
  · rintro j σ' H5 hj ⟨s5, x, h5, rfl⟩
    have aF5 := Rep.mono s5 aF
    have hjl : 0 + j < (l ++ List.replicate m (0 : Int)).length := by simp; omega
    have hge : (lowL m l)[j]? = some ((lowL m l).getD j 0) := by simp [List.getD, List.getElem?_eq_getElem hj]
    walk_at "rx"
    walk_at "ifs"
    walk_at "rx"
    refine r_ixZ aF5 rfl hge ?_
    walk_at "rx"
    refine ⟨_, rfl, ?_⟩
    walk_at "rx"
    refine iteF ?_
    walk_at "rx"
    refine r_ixZ (at_z h5) (n := 0 + j) (by omega) (subTo_at hjl) ?_
    walk_at "rx"
    refine r_ixZ aF5 rfl hge ?_
    walk_at "rx"
    refine r_setL h5 (j := 0 + j) (by omega) (by unfold zsV; rw [List.length_map, subTo_len]; exact hjl) ?_
    refine ⟨fun b' o zz => by rw [upd_ne (ne_of_none zz fd)]; exact s5 _ _ zz, _, ?_, rfl⟩
    rw [upd_same, ← subTo_set hjl, Int.one_mul]
    unfold zsV
    rw [List.map_set]
  · rintro σ' H5 ⟨s5, x, h5, rfl⟩
    walk_at "rx"
    refine ⟨_, _, m, rfl, at_z h5, by rw [subTo_len]; simp; omega, m1, m2, hpr, rest_nought (by omega) W l (by omega), fun H6 s6 => q _ (s5.trans s6)⟩
end

section
variable {P : Program} {w : World} {K : PySem.W.Frag} {mg : Str → Option Value} {base : Heap}
def BadM (m : Int) : Prop := m < 1 ∨ 60 < m
def spR_check_spokes (C : Addr) : Sp := fun vs H _ E => ∃ (m : Int), vs = [.int m] ∧ BadM m ∧ E (.ref C) none H
theorem okR_check_spokes (T : Txt K mg) : FnOk P w K mg base (CXR P w) 1 T.d_check_spokes.f T.d_check_spokes.fd ["many"] (spR_check_spokes T.C_BadWheel) := by
  refine T.d_check_spokes.fn.okR sc_check_spokes (fun vs H Q E h => ?_) (fun cdv A outer s H vs Q E hr h => ?_)
  · obtain ⟨m, rfl, _⟩ := h
    rfl
  obtain ⟨m, rfl, hm, q⟩ := h
  refine ⟨_, (pss_one (ps_if (PW.pt (pw_or (pt_cmpR op_lt (pv 0) pe_int (nomark _)) (pw_or1 (pt_cmpR op_gt (pv 0) (pe_glob (v := .int 60) rfl T.g_MOST_SPOKES ⟨_, rfl⟩) (nomark _))))) (pss_one (ps_raiseF letsR rfl rfl T.x_BadWheel rfl T.c_BadWheel (paF pe_str pa_nil))) pss_nil)), ?_⟩
  walk_at "rx"
  walk_at "ifs"
  walk_at "rx"
  refine rd_if (fun c => ?_) (fun c => ?_)
  · walk_at "rx"
    refine r_raise ?_
    walk_at "rx"
    exact ⟨small (by show 1 ≤ 1000; decide), q⟩
  · walk_at "rx"
    refine rd_if (fun c => ?_) (fun c2 => ?_)
    · walk_at "rx"
      refine r_raise ?_
      walk_at "rx"
      exact ⟨small (by show 1 ≤ 1000; decide), q⟩
    · exfalso
      rcases hm with z | z <;> omega
theorem okR_circle (T : Txt K mg) : FnOk P w K mg base (CXR P w) 2 T.d_circle.f T.d_circle.fd ["many"] (spR_check_spokes T.C_BadWheel) := by
  refine T.d_circle.fn.okR sc_circle (fun vs H Q E h => ?_) (fun cdv A outer s H vs Q E hr h => ?_)
  · obtain ⟨m, rfl, _⟩ := h
    rfl
  obtain ⟨m, rfl, hm, q⟩ := h
  refine ⟨_, (pss_cons (ps_expr (pe_dfR T.d_check_spokes (okR_check_spokes T) (hr.mono (by decide)) rfl passR (paF (pv 0) pa_nil))) pss_never), ?_⟩
  walk_at "rx"
  exact ⟨m, rfl, hm, q⟩
def spR_Wheel (C : Addr) : Sp := fun vs H _ E => ∃ (x : V) (m : Int), vs = [x, .int m] ∧ BadM m ∧ E (.ref C) none H
theorem okR_Wheel (T : Txt K mg) : FnOk P w K mg base (CXR P w) 3 T.i_Wheel T.j_Wheel ["self", "many"] (spR_Wheel T.C_BadWheel) := by
  refine T.f_Wheel.okR sc_Wheel_init (fun vs H Q E h => ?_) (fun cdv A outer s H vs Q E hr h => ?_)
  · obtain ⟨x, m, rfl, _⟩ := h
    rfl
  obtain ⟨x, m, rfl, hm, q⟩ := h
  refine ⟨_, (pss_cons (ps_fldK K rfl (pv 0) (pe_dfR T.d_circle (okR_circle T) (hr.mono (by decide)) rfl passR (paF (pv 1) pa_nil)) rfl) pss_never), ?_⟩
  walk_at "rx"
  exact ⟨m, rfl, hm, q⟩
end

section
variable {P : Program} {w : World} {K : PySem.W.Frag} {mg : Str → Option Value} {base : Heap}
def NoCom (m : Nat) (j : Int) : Prop := ∀ d : Nat, 2 ≤ d → d ≤ m → m % d = 0 → j % (d : Int) ≠ 0
def sp_Wheel_moved (C : Addr) (K : PySem.W.Frag) : Sp := fun vs H Q _ => ∃ (g : Addr) (v : V) (j : Int) (m : Nat) (l : List Int), vs = [.ref g, v, .int j] ∧ WhAt C H g m ∧ 1 ≤ m ∧ m ≤ 60 ∧ WheelOk m ∧ At K H v l ∧ l.length ≤ 1000 ∧ NoCom m j ∧
  ∀ b H', H b = none → Same H H' → H' b = some (.lst (zsV (lowL m (layTo m j 0 l)))) → Q (.ref b) H'
theorem ok_Wheel_moved (T : Txt K mg) : FnOk P w K mg base CX0 3 T.q_Wheel_moved T.r_Wheel_moved ["self", "one", "j"] (sp_Wheel_moved T.C_Wheel K) := by
  refine T.f_Wheel_moved.ok sc_Wheel_moved (fun vs H Q E h => ?_) (fun cdv A outer s H vs Q E hr h => ?_)
  · obtain ⟨g, v, j, m, l, rfl, _⟩ := h
    rfl
  obtain ⟨g, v, j, m, l, rfl, hW, m1, m2, W, hv, hl, nc, q⟩ := h
  obtain ⟨dx, r, hg, hr'⟩ := id hW
  refine ⟨_, (pss_cons (ps_for PassesOwn.never rfl (pi_range2F rfl T.z_range (paF pe_int (paF (pe_op op_add (pe_fldK K rfl (pv 0) rfl) pe_int) pa_nil))) (pg_name (i := 3) sc_Wheel_moved.nd rfl (Or.inl rfl)) (pss_one (ps_if (PW.pt (pw_and (pt_cmpR op_eq (pe_op op_mod (pe_fldK K rfl (pv 0) rfl) (pv 3)) pe_int (nomark _)) (pw_and1 (pt_cmpR op_eq (pe_op op_mod (pv 2) (pv 3)) pe_int (nomark _))))) (pss_one ps_never) pss_nil)))
      (pss_one (ps_ret (pe_methF (pv 0) T.k_Wheel T.e_Wheel_laid (ok_Wheel_laid T) (hr.mono (by decide)) T.b_Wheel_laid (paF (pv 1) (paF (pv 2) (paF pe_int pa_nil))))))), ?_⟩
  walk_at "rx"
  refine r_iRng2 ?_
  walk_at "rx"
  refine ⟨g, T.C_Wheel, dx, _, _, rfl, hg, T.k_Wheel, T.n_Wheel_spokes, rfl, ?_⟩
  walk_at "rx"
  refine rd_range2 (lo := 2) (n := m - 1) rfl (by omega) (by omega) (fun i σ' H' => H' = H ∧ ∃ x : Option V, σ' = [some (.ref g), some v, some (.int j), x]) ⟨rfl, _, rfl⟩ ?_ ?_
  · rintro i σ' H2 hi ⟨rfl, x, rfl⟩
    walk_at "rx"
    walk_at "ifs"
    walk_at "rx"
    refine ⟨g, T.C_Wheel, dx, _, _, rfl, hg, T.k_Wheel, T.n_Wheel_spokes, rfl, ?_⟩
    walk_at "rx"
    refine rd_if (fun c => ?_) (fun c => ?_)
    · walk_at "rx"
      refine r_modI (by omega) ?_
      walk_at "rx"
      refine rd_if (fun c2 => absurd c2 (nc (2 + i) (by omega) (by omega) c)) (fun _ => ?_)
      walk_at "rx"
      exact ⟨rfl, _, rfl⟩
    · walk_at "rx"
      exact ⟨rfl, _, rfl⟩
  · rintro σ' H2 ⟨rfl, x, rfl⟩
    walk_at "rx"
    refine r_meth ?_
    walk_at "rx"
    refine ⟨g, dx, _, rfl, hg, rfl, ?_⟩
    walk_at "rx"
    refine ⟨g, v, j, 0, m, l, rfl, hW, m1, m2, W, hv, hl, fun b H' fb s2 hb => ?_⟩
    rw [low_lay] at hb
    exact q b H' fb s2 hb
def spR_Wheel_moved (C D : Addr) : Sp := fun vs H _ E => ∃ (g : Addr) (v : V) (j : Int) (m : Nat), vs = [.ref g, v, .int j] ∧ WhAt C H g m ∧ 1 ≤ m ∧ m ≤ 60 ∧ ¬ NoCom m j ∧ E (.ref D) none H
theorem okR_Wheel_moved (T : Txt K mg) : FnOk P w K mg base (CXR P w) 3 T.q_Wheel_moved T.r_Wheel_moved ["self", "one", "j"] (spR_Wheel_moved T.C_Wheel T.C_NoMove) := by
  refine T.f_Wheel_moved.okX sc_Wheel_moved (fun vs H Q E h => ?_) (fun cdv A outer s H vs Q E hr h => ?_)
  · obtain ⟨g, v, j, m, rfl, _⟩ := h
    rfl
  obtain ⟨g, v, j, m, rfl, hW, m1, m2, nc, q⟩ := h
  obtain ⟨dx, r, hg, hr'⟩ := id hW
  refine ⟨_, fun okc => (pss_cons (ps_for (passesXR okc.unwish rfl rfl rfl) rfl (pi_range2F rfl T.z_range (paF pe_int (paF (pe_op op_add (pe_fldK K rfl (pv 0) rfl) pe_int) pa_nil))) (pg_name (i := 3) sc_Wheel_moved.nd rfl (Or.inl rfl)) (pss_one (ps_if (PW.pt (pw_and (pt_cmpR op_eq (pe_op op_mod (pe_fldK K rfl (pv 0) rfl) (pv 3)) pe_int (nomark _)) (pw_and1 (pt_cmpR op_eq (pe_op op_mod (pv 2) (pv 3)) pe_int (nomark _))))) (pss_one (ps_raiseF letsX rfl rfl T.x_NoMove rfl T.c_NoMove (paF pe_str pa_nil))) pss_nil))) pss_never), ?_⟩
  walk_at "rx"
  refine r_iRng2 ?_
  walk_at "rx"
  refine ⟨g, T.C_Wheel, dx, _, _, rfl, hg, T.k_Wheel, T.n_Wheel_spokes, rfl, ?_⟩
  walk_at "rx"
  refine rd_range2 (lo := 2) (n := m - 1) rfl (by omega) (by omega) (fun i σ' H' => H' = H ∧ (∀ d : Nat, 2 ≤ d → d < 2 + i → m % d = 0 → j % (d : Int) ≠ 0) ∧ ∃ x : Option V, σ' = [some (.ref g), some v, some (.int j), x]) ⟨rfl, fun d h1 h2 => absurd h2 (by omega), _, rfl⟩ ?_ ?_
  · rintro i σ' H2 hi ⟨rfl, hn, x, rfl⟩
    walk_at "rx"
    walk_at "ifs"
    walk_at "rx"
    refine ⟨g, T.C_Wheel, dx, _, _, rfl, hg, T.k_Wheel, T.n_Wheel_spokes, rfl, ?_⟩
    walk_at "rx"
    refine rd_if (fun c => ?_) (fun c => ?_)
    · walk_at "rx"
      refine r_modI (by omega) ?_
      walk_at "rx"
      refine rd_if (fun c2 => ?_) (fun c2 => ?_)
      · walk_at "rx"
        refine r_raise ?_
        walk_at "rx"
        exact ⟨small (by show 1 ≤ 1000; decide), q⟩
      · walk_at "rx"
        refine ⟨rfl, fun d h1 h2 h3 => ?_, _, rfl⟩
        by_cases z : d = 2 + i
        · rw [z]; exact c2
        · exact hn d h1 (by omega) h3
    · walk_at "rx"
      refine ⟨rfl, fun d h1 h2 h3 => ?_, _, rfl⟩
      by_cases z : d = 2 + i
      · rw [z] at h3; exact absurd h3 c
      · exact hn d h1 (by omega) h3
  · rintro σ' H2 ⟨rfl, hn, x, rfl⟩
    exact absurd (fun d h1 h2 h3 => hn d h1 (by omega) h3) nc
theorem okB_Wheel_moved (T : Txt K mg) : FnOk P w K mg base (CXR P w) 3 T.q_Wheel_moved T.r_Wheel_moved ["self", "one", "j"] (fun vs H Q E => sp_Wheel_moved T.C_Wheel K vs H Q E ∨ spR_Wheel_moved T.C_Wheel T.C_NoMove vs H Q E) := (ok_Wheel_moved T).both (okR_Wheel_moved T)
def sp_Wheel_wider (C : Addr) (K : PySem.W.Frag) : Sp := fun vs H Q _ => ∃ (g : Addr) (v : V) (b m : Nat) (l : List Int), vs = [.ref g, v, .int (b : Int)] ∧ WhAt C H g m ∧ 1 ≤ m ∧ 1 ≤ b ∧ b ≤ 60 ∧ m * b ≤ 60 ∧ At K H v l ∧ l.length ≤ 1000 ∧
  ∀ r H', H r = none → Same H H' → H' r = some (.lst (zsV (lowL (m * b) (layTo (m * b) b 0 l)))) → Q (.ref r) H'
theorem ok_Wheel_wider (T : Txt K mg) : FnOk P w K mg base CX0 6 T.q_Wheel_wider T.r_Wheel_wider ["self", "one", "many"] (sp_Wheel_wider T.C_Wheel K) := by
  refine T.f_Wheel_wider.ok sc_Wheel_wider (fun vs H Q E h => ?_) (fun cdv A outer s H vs Q E hr h => ?_)
  · obtain ⟨g, v, b, m, l, rfl, _⟩ := h
    rfl
  obtain ⟨g, v, b, m, l, rfl, hW, m1, b1, b4, mb, hv, hl, q⟩ := h
  obtain ⟨dx, r, hg, hr'⟩ := id hW
  have mb1 : 1 ≤ m * b := Nat.mul_pos (by omega) (by omega)
  have m60 : m ≤ 60 := Nat.le_trans (Nat.le_mul_of_pos_right m (by omega)) mb
  have okm := (wheel_all (m * b) (by omega)).resolve_left (by omega)
  have W := wheelOk_of okm.1
  refine ⟨_, (pss_one (ps_ret (pe_methF (pe_makeF T.m_Wheel (ok_Wheel T) (hr.mono (by decide)) rfl T.c_Wheel T.b_Wheel .nil pass0 (paF (pe_op op_mul (pe_fldK K rfl (pv 0) rfl) (pv 2)) pa_nil)) T.k_Wheel T.e_Wheel_laid (ok_Wheel_laid T) (hr.mono (by decide)) T.b_Wheel_laid (paF (pv 1) (paF (pv 2) (paF pe_int pa_nil)))))), ?_⟩
  walk_at "rx"
  refine r_meth ?_
  walk_at "rx"
  refine ⟨g, T.C_Wheel, dx, _, _, rfl, hg, T.k_Wheel, T.n_Wheel_spokes, rfl, ?_⟩
  walk_at "rx"
  intro x1 dx1 hx1 hdx1 hne1
  refine ⟨x1, dx1, m * b, rfl, upd_same, mb1, mb, okm.1, fun r1 H1 fr1 hg1 hr1 k1 => ⟨rfl, ?_⟩⟩
  have s1 : Same H H1 := fun c o z => k1 c o (by rw [upd_ne (ne_of_none z hx1), upd_ne (ne_of_none z hdx1)]; exact z) (ne_of_none z hx1)
  refine ⟨x1, dx1, _, rfl, hg1, rfl, ?_⟩
  walk_at "rx"
  refine ⟨x1, v, (b : Int), 0, m * b, l, rfl, ⟨dx1, r1, hg1, hr1⟩, mb1, mb, W, Rep.mono s1 hv, hl, fun r2 H' fr2 s2 hr2 => ?_⟩
  rw [low_lay] at hr2
  exact q r2 H' (s1.free fr2) (s1.trans s2) hr2
def spR_Wheel_wider (C D : Addr) : Sp := fun vs H _ E => ∃ (g : Addr) (v : V) (b : Int) (m : Nat), vs = [.ref g, v, .int b] ∧ WhAt C H g m ∧ m ≤ 60 ∧ BadM ((m : Int) * b) ∧ ∀ H', Same H H' → E (.ref D) none H'
theorem okR_Wheel_wider (T : Txt K mg) : FnOk P w K mg base (CXR P w) 6 T.q_Wheel_wider T.r_Wheel_wider ["self", "one", "many"] (spR_Wheel_wider T.C_Wheel T.C_BadWheel) := by
  refine T.f_Wheel_wider.okR sc_Wheel_wider (fun vs H Q E h => ?_) (fun cdv A outer s H vs Q E hr h => ?_)
  · obtain ⟨g, v, b, m, rfl, _⟩ := h
    rfl
  obtain ⟨g, v, b, m, rfl, hW, m60, mb, q⟩ := h
  obtain ⟨dx, r, hg, hr'⟩ := id hW
  refine ⟨_, (pss_one (ps_ret (pe_methF (pe_makeF T.m_Wheel (okR_Wheel T) (hr.mono (by decide)) rfl T.c_Wheel T.b_Wheel .nil passR (paF (pe_op op_mul (pe_fldK K rfl (pv 0) rfl) (pv 2)) pa_nil)) T.k_Wheel T.e_Wheel_laid (ok_Wheel_laid T) (hr.mono (by decide)) T.b_Wheel_laid (paF (pv 1) (paF (pv 2) (paF pe_int pa_nil)))))), ?_⟩
  walk_at "rx"
  refine r_meth ?_
  walk_at "rx"
  refine ⟨g, T.C_Wheel, dx, _, _, rfl, hg, T.k_Wheel, T.n_Wheel_spokes, rfl, ?_⟩
  walk_at "rx"
  refine r_rI (.inl ⟨by omega, by omega⟩) ?_
  walk_at "rx"
  intro x1 dx1 hx1 hdx1 hne1
  exact ⟨_, _, rfl, mb, q _ fun c o z => by rw [upd_ne (ne_of_none z hx1), upd_ne (ne_of_none z hdx1)]; exact z⟩
theorem okB_Wheel_wider (T : Txt K mg) : FnOk P w K mg base (CXR P w) 6 T.q_Wheel_wider T.r_Wheel_wider ["self", "one", "many"] (fun vs H Q E => sp_Wheel_wider T.C_Wheel K vs H Q E ∨ spR_Wheel_wider T.C_Wheel T.C_BadWheel vs H Q E) := (ok_Wheel_wider T).both (okR_Wheel_wider T)
end

section
variable {P : Program} {w : World} {K : PySem.W.Frag} {mg : Str → Option Value} {base : Heap}
instance : RepEq Bool where
  depth := 0
  inj := fun _ h h' => by cases h; cases h'; rfl
  eq := fun {X pins σ H s A x y u v a b} _ hx hy ru rv _ => by
    cases hx; cases hy
    have q := eqAt_V (A := A) (s := s) ru rv rfl rfl
    have e : eqV (.bl a) (.bl b) = decide (a = b) := by cases a <;> cases b <;> rfl
    rw [e] at q; exact q
theorem bs_of {H : Hp} : ∀ {l : List Bool}, Paired (Rep.is K H) (l.map V.bl) l
  | [] => .nil
  | x :: l => .cons rfl bs_of
theorem at_b {H : Hp} {p : Addr} {l : List Bool} (h : H p = some (.lst (l.map V.bl))) : At K H (.ref p) l := ⟨p, _, rfl, SqL.of h, bs_of⟩
theorem primes_le {m : Nat} (h : m ≤ 60) : (primesL m).length ≤ 60 := (show ∀ m, m < 61 → (primesL m).length ≤ 60 by decide +kernel) m (by omega)
theorem r_tup2 {σ : St} {H : Hp} {Q : St → Hp → Prop} {i j : Nat} {a : Addr} {x y : V} (h : H a = some (.tup [x, y])) (q : Q ((σ.set i (some x)).set j (some y)) H) : gTup K 2 (gCons (gName i) (gCons (gName j) gNil)) (.ref a) σ H Q :=
  ⟨a, _, rfl, SqT.of h, rfl, _, _, rfl, _, _, rfl, rfl, q⟩
theorem noCom_iff {m : Nat} (m1 : 1 ≤ m) (m2 : m ≤ 60) {j : Int} : NoCom m j ↔ ∀ p ∈ primesL m, j % (p : Int) ≠ 0 := by
  have Pm := pr_of m1 m2
  constructor
  · intro h p hp
    obtain ⟨p2, pm, mp⟩ := Pm.two p hp
    exact h p p2 pm mp
  · intro h d d2 dm md z
    obtain ⟨p, hp, dp⟩ := Pm.div d d2 dm md
    refine h p hp ?_
    have dv : (p : Int) ∣ (d : Int) := Int.natCast_dvd_natCast.mpr (Nat.dvd_of_mod_eq_zero dp)
    exact Int.emod_eq_zero_of_dvd (Int.dvd_trans dv (Int.dvd_of_emod_eq_zero z))
def sp_law_put (K : PySem.W.Frag) : Sp := fun vs H Q _ => ∃ (v : V) (sp : Int) (m : Nat) (l : List Int), vs = [v, .int sp, .int (m : Int)] ∧ At K H v l ∧ l.length ≤ 1000 ∧ 1 ≤ m ∧ m ≤ 60 ∧
  ∀ b H', H b = none → Same H H' → H' b = some (.lst (zsV (layTo m sp 0 l))) → Q (.ref b) H'
theorem ok_law_put (T : Txt K mg) : FnOk P w K mg base CX0 1 T.d_law_put.f T.d_law_put.fd ["_law_one", "_law_step_here", "_law_many"] (sp_law_put K) := by
  refine T.d_law_put.ok sc_law_put (fun vs H Q E h => ?_) (fun cdv A outer s H vs Q E hr h => ?_)
  · obtain ⟨v, sp, m, l, rfl, _⟩ := h
    rfl
  obtain ⟨v, sp, m, l, rfl, hv, hl, m1, m2, q⟩ := h
  refine ⟨_, (pss_cons (ps_set (i := 3) sc_law_put.nd rfl (Or.inl rfl) (pe_op op_rep (pe_lst (paF pe_int pa_nil)) (pv 2)))
      (pss_cons (ps_for PassesOwn.never rfl (pi_range1F rfl T.z_range (paF (pe_callBF (call_lenK K rfl) rfl T.z_len PySem.boot_len (paF (pv 0) pa_nil)) pa_nil)) (pg_name (i := 4) sc_law_put.nd rfl (Or.inl rfl)) (pss_cons (ps_set (i := 5) sc_law_put.nd rfl (Or.inl rfl) (pe_op op_mod (pe_op op_mul (pv 4) (pv 1)) (pv 2)))
      (pss_one (ps_asg (pe_op op_add (pe_ix (ix_listK K rfl) (pv 3) (pv 5) (fun _ _ => rfl)) (pe_ix (ix_listK K rfl) (pv 0) (pv 4) (fun _ _ => rfl))) (pg_sub (pv 3) (pv 5) set_list)))))
      (pss_one (ps_ret (pv 3))))), ?_⟩
  walk_at "rx"
  refine r_lst ?_
  walk_at "rx"
  refine ⟨small (by show 1 ≤ 1000; decide), fun p1 hp1 => ?_⟩
  have s1 := same_new hp1 (.lst [.int ((0 : Nat) : Int)])
  walk_at "rx"
  refine ⟨p1, _, _, rfl, rfl, upd_same, by omega, by omega, ?_, fun a ha => ?_⟩
  · rw [sizeLine_eq]
    show 1 * _ ≤ _
    omega
  rw [show ((m : Nat) : Int).toNat = m by omega, rep_z]
  have fa : H a = none := s1.free ha
  have s2 := s1.trans (same_new ha (.lst (zsV (List.replicate m ((0 : Nat) : Int)))))
  have h2 : (upd (upd H p1 (.lst [.int ((0 : Nat) : Int)])) a (.lst (zsV (List.replicate m ((0 : Nat) : Int))))) a = some (.lst (zsV (layTo m sp 0 []))) := upd_same
  generalize upd (upd H p1 (.lst [.int ((0 : Nat) : Int)])) a (.lst (zsV (List.replicate m ((0 : Nat) : Int)))) = H2 at s2 h2
  have hv2 := Rep.mono s2 hv
  walk_at "rx"
  refine rd_range (n := l.length) rfl (by omega) (fun i σ' H' => Same H H' ∧ ∃ (x y : Option V), H' a = some (.lst (zsV (layTo m sp 0 (l.take i)))) ∧ σ' = [some v, some (.int sp), some (.int (m : Int)), some (.ref a), x, y]) ⟨s2, _, _, h2, rfl⟩ ?_ ?_
  · rintro i σ' H3 hi ⟨s3, x, y, h3, rfl⟩
    have hv3 := Rep.mono s3 hv
    have pl := layP_lt (show 0 < m by omega) sp 0 i
    have hll := layTo_len m sp 0 (l.take i)
    walk_at "rx"
    refine r_rI (.inl ⟨by omega, by omega⟩) ?_
    walk_at "rx"
    refine r_modI (by omega) ?_
    rw [show (i : Int) * sp = 0 + sp * (i : Int) by rw [Int.mul_comm, Int.zero_add], ← layP_cast (show 0 < m by omega)]
    walk_at "rx"
    refine r_ixZ (at_z h3) rfl (show (layTo m sp 0 (l.take i))[layP m sp 0 i]? = some ((layTo m sp 0 (l.take i)).getD (layP m sp 0 i) 0) by
      rw [List.getD, List.getElem?_eq_getElem (by omega)]; rfl) ?_
    walk_at "rx"
    refine r_ixZ hv3 rfl (List.getElem?_eq_getElem hi) ?_
    walk_at "rx"
    refine r_setL h3 rfl (by unfold zsV; rw [List.length_map, hll]; exact pl) ?_
    have et : l.take (i + 1) = l.take i ++ [l[i]] := by rw [List.take_add_one, List.getElem?_eq_getElem hi]; rfl
    have hlen : (l.take i).length = i := by rw [List.length_take]; omega
    refine ⟨fun b o zz => by rw [upd_ne (ne_of_none zz fa)]; exact s3 _ _ zz, _, _, ?_, rfl⟩
    rw [upd_same, et, layTo_snoc, hlen]
    unfold zsV
    rw [List.map_set]
  · rintro σ' H3 ⟨s3, x, y, h3, rfl⟩
    rw [List.take_length] at h3
    walk_at "rx"
    exact q a H3 fa s3 h3

theorem pcons {α β : Type} {F : α → β → Prop} {a : α} {b : β} {as : List α} {bs : List β} (h : Paired F (a :: as) (b :: bs)) : F a b ∧ Paired F as bs := by
  cases h with
  | cons r t => exact ⟨r, t⟩
def kO (K : PySem.W.Frag) (C D : Addr) (b : Bool) : Prop := PySem.W.kitOne K (.ref C) (.ref D) = some b
def sp_law_flags (Ds : List Addr) (K : PySem.W.Frag) : Sp := fun vs H Q _ => ∃ (x C : Addr) (bs : List Bool), vs = [.ref x] ∧ H x = some (excO x C) ∧ ExcCls K C ∧ Paired (kO K C) Ds bs ∧ ∀ d H', H d = none → Same H H' → H' d = some (.lst (bs.map V.bl)) → Q (.ref d) H'
theorem ok_law_flags (T : Txt K mg) : FnOk P w K mg base CX0 1 T.d_law_flags.f T.d_law_flags.fd ["_law_met"] (sp_law_flags [T.C_NoPart, T.C_NotSteady, T.C_BadWheel, T.C_NoMove, T.C_BadMarks, T.C_NoWay, T.C_OtherGroup, T.C_OtherWheel, T.C_TooGreat, T.C_NotKept, T.C_BadSize, T.C_Stranger, T.C_NoUnit, T.C_NoBack, T.C_NotTogether] K) := by
  refine T.d_law_flags.ok sc_law_flags (fun vs H Q E h => ?_) (fun cdv A outer s H vs Q E hr h => ?_)
  · obtain ⟨x, C, bs, rfl, _⟩ := h
    rfl
  obtain ⟨x, C, bs, rfl, hx, hc, hp, q⟩ := h
  obtain ⟨b1, b2, b3, b4, b5, b6, b7, b8, b9, b10, b11, b12, b13, b14, b15, rfl⟩ : ∃ b1 b2 b3 b4 b5 b6 b7 b8 b9 b10 b11 b12 b13 b14 b15, bs = [b1, b2, b3, b4, b5, b6, b7, b8, b9, b10, b11, b12, b13, b14, b15] := by
    have e := Paired.length hp
    match bs, e with
    | [b1, b2, b3, b4, b5, b6, b7, b8, b9, b10, b11, b12, b13, b14, b15], _ => exact ⟨_, _, _, _, _, _, _, _, _, _, _, _, _, _, _, rfl⟩
  obtain ⟨h1, hp⟩ := pcons hp
  obtain ⟨h2, hp⟩ := pcons hp
  obtain ⟨h3, hp⟩ := pcons hp
  obtain ⟨h4, hp⟩ := pcons hp
  obtain ⟨h5, hp⟩ := pcons hp
  obtain ⟨h6, hp⟩ := pcons hp
  obtain ⟨h7, hp⟩ := pcons hp
  obtain ⟨h8, hp⟩ := pcons hp
  obtain ⟨h9, hp⟩ := pcons hp
  obtain ⟨h10, hp⟩ := pcons hp
  obtain ⟨h11, hp⟩ := pcons hp
  obtain ⟨h12, hp⟩ := pcons hp
  obtain ⟨h13, hp⟩ := pcons hp
  obtain ⟨h14, hp⟩ := pcons hp
  obtain ⟨h15, hp⟩ := pcons hp
  refine ⟨_, (pss_cons (ps_set (i := 1) sc_law_flags.nd rfl (Or.inl rfl) (pe_lst (paF (pe_callBF (call_isinstX K rfl) rfl T.z_isinstance PyProof.Rows.boot_isinstance (paF (pv 0) (paF (pe_glob (v := .ref T.C_NoPart) rfl T.c_NoPart rfl) pa_nil))) (paF (pe_callBF (call_isinstX K rfl) rfl T.z_isinstance PyProof.Rows.boot_isinstance (paF (pv 0) (paF (pe_glob (v := .ref T.C_NotSteady) rfl T.c_NotSteady rfl) pa_nil))) (paF (pe_callBF (call_isinstX K rfl) rfl T.z_isinstance PyProof.Rows.boot_isinstance (paF (pv 0) (paF (pe_glob (v := .ref T.C_BadWheel) rfl T.c_BadWheel rfl) pa_nil))) pa_nil)))))
      (pss_cons (ps_set (i := 1) sc_law_flags.nd rfl (Or.inl rfl) (pe_op op_cat (pv 1) (pe_lst (paF (pe_callBF (call_isinstX K rfl) rfl T.z_isinstance PyProof.Rows.boot_isinstance (paF (pv 0) (paF (pe_glob (v := .ref T.C_NoMove) rfl T.c_NoMove rfl) pa_nil))) (paF (pe_callBF (call_isinstX K rfl) rfl T.z_isinstance PyProof.Rows.boot_isinstance (paF (pv 0) (paF (pe_glob (v := .ref T.C_BadMarks) rfl T.c_BadMarks rfl) pa_nil))) (paF (pe_callBF (call_isinstX K rfl) rfl T.z_isinstance PyProof.Rows.boot_isinstance (paF (pv 0) (paF (pe_glob (v := .ref T.C_NoWay) rfl T.c_NoWay rfl) pa_nil))) pa_nil))))))
      (pss_cons (ps_set (i := 1) sc_law_flags.nd rfl (Or.inl rfl) (pe_op op_cat (pv 1) (pe_lst (paF (pe_callBF (call_isinstX K rfl) rfl T.z_isinstance PyProof.Rows.boot_isinstance (paF (pv 0) (paF (pe_glob (v := .ref T.C_OtherGroup) rfl T.c_OtherGroup rfl) pa_nil))) (paF (pe_callBF (call_isinstX K rfl) rfl T.z_isinstance PyProof.Rows.boot_isinstance (paF (pv 0) (paF (pe_glob (v := .ref T.C_OtherWheel) rfl T.c_OtherWheel rfl) pa_nil))) (paF (pe_callBF (call_isinstX K rfl) rfl T.z_isinstance PyProof.Rows.boot_isinstance (paF (pv 0) (paF (pe_glob (v := .ref T.C_TooGreat) rfl T.c_TooGreat rfl) pa_nil))) pa_nil))))))
      (pss_cons (ps_set (i := 1) sc_law_flags.nd rfl (Or.inl rfl) (pe_op op_cat (pv 1) (pe_lst (paF (pe_callBF (call_isinstX K rfl) rfl T.z_isinstance PyProof.Rows.boot_isinstance (paF (pv 0) (paF (pe_glob (v := .ref T.C_NotKept) rfl T.c_NotKept rfl) pa_nil))) (paF (pe_callBF (call_isinstX K rfl) rfl T.z_isinstance PyProof.Rows.boot_isinstance (paF (pv 0) (paF (pe_glob (v := .ref T.C_BadSize) rfl T.c_BadSize rfl) pa_nil))) (paF (pe_callBF (call_isinstX K rfl) rfl T.z_isinstance PyProof.Rows.boot_isinstance (paF (pv 0) (paF (pe_glob (v := .ref T.C_Stranger) rfl T.c_Stranger rfl) pa_nil))) pa_nil))))))
      (pss_one (ps_ret (pe_op op_cat (pv 1) (pe_lst (paF (pe_callBF (call_isinstX K rfl) rfl T.z_isinstance PyProof.Rows.boot_isinstance (paF (pv 0) (paF (pe_glob (v := .ref T.C_NoUnit) rfl T.c_NoUnit rfl) pa_nil))) (paF (pe_callBF (call_isinstX K rfl) rfl T.z_isinstance PyProof.Rows.boot_isinstance (paF (pv 0) (paF (pe_glob (v := .ref T.C_NoBack) rfl T.c_NoBack rfl) pa_nil))) (paF (pe_callBF (call_isinstX K rfl) rfl T.z_isinstance PyProof.Rows.boot_isinstance (paF (pv 0) (paF (pe_glob (v := .ref T.C_NotTogether) rfl T.c_NotTogether rfl) pa_nil))) pa_nil))))))))))), ?_⟩
  walk_at "rx"
  refine r_lst ?_
  walk_at "rx"
  refine r_instXR hx hc h1 ?_
  walk_at "rx"
  refine r_instXR hx hc h2 ?_
  walk_at "rx"
  refine r_instXR hx hc h3 ?_
  walk_at "rx"
  refine ⟨small (by show 3 ≤ 1000; decide), fun p1 hp1 => ?_⟩
  have s1 := same_new hp1 (.lst [.bl b1, .bl b2, .bl b3])
  have g1 : (upd H p1 (.lst [.bl b1, .bl b2, .bl b3])) p1 = some (.lst ([b1, b2, b3].map V.bl)) := upd_same
  generalize upd H p1 (.lst [.bl b1, .bl b2, .bl b3]) = H1 at s1 g1
  walk_at "rx"
  refine r_lst ?_
  walk_at "rx"
  refine r_instXR (s1 _ _ hx) hc h4 ?_
  walk_at "rx"
  refine r_instXR (s1 _ _ hx) hc h5 ?_
  walk_at "rx"
  refine r_instXR (s1 _ _ hx) hc h6 ?_
  walk_at "rx"
  refine ⟨small (by show 3 ≤ 1000; decide), fun p4 hp4 => ?_⟩
  have n4 : p1 ≠ p4 := fun e => by rw [← e, g1] at hp4; cases hp4
  refine ⟨p1, p4, _, _, rfl, rfl, by rw [upd_ne n4]; exact g1, upd_same, small (by show _ ≤ 1000; simp), fun c4 hc4 => ?_⟩
  have s4 := s1.trans ((same_new hp4 (.lst [.bl b4, .bl b5, .bl b6])).trans (same_new hc4 (.lst ([b1, b2, b3].map V.bl ++ [.bl b4, .bl b5, .bl b6]))))
  have g4 : (upd (upd H1 p4 (.lst [.bl b4, .bl b5, .bl b6])) c4 (.lst ([b1, b2, b3].map V.bl ++ [.bl b4, .bl b5, .bl b6]))) c4 = some (.lst ([b1, b2, b3, b4, b5, b6].map V.bl)) := upd_same
  generalize upd (upd H1 p4 (.lst [.bl b4, .bl b5, .bl b6])) c4 (.lst ([b1, b2, b3].map V.bl ++ [.bl b4, .bl b5, .bl b6])) = H4 at s4 g4
  walk_at "rx"
  refine r_lst ?_
  walk_at "rx"
  refine r_instXR (s4 _ _ hx) hc h7 ?_
  walk_at "rx"
  refine r_instXR (s4 _ _ hx) hc h8 ?_
  walk_at "rx"
  refine r_instXR (s4 _ _ hx) hc h9 ?_
  walk_at "rx"
  refine ⟨small (by show 3 ≤ 1000; decide), fun p7 hp7 => ?_⟩
  have n7 : c4 ≠ p7 := fun e => by rw [← e, g4] at hp7; cases hp7
  refine ⟨c4, p7, _, _, rfl, rfl, by rw [upd_ne n7]; exact g4, upd_same, small (by show _ ≤ 1000; simp), fun c7 hc7 => ?_⟩
  have s7 := s4.trans ((same_new hp7 (.lst [.bl b7, .bl b8, .bl b9])).trans (same_new hc7 (.lst ([b1, b2, b3, b4, b5, b6].map V.bl ++ [.bl b7, .bl b8, .bl b9]))))
  have g7 : (upd (upd H4 p7 (.lst [.bl b7, .bl b8, .bl b9])) c7 (.lst ([b1, b2, b3, b4, b5, b6].map V.bl ++ [.bl b7, .bl b8, .bl b9]))) c7 = some (.lst ([b1, b2, b3, b4, b5, b6, b7, b8, b9].map V.bl)) := upd_same
  generalize upd (upd H4 p7 (.lst [.bl b7, .bl b8, .bl b9])) c7 (.lst ([b1, b2, b3, b4, b5, b6].map V.bl ++ [.bl b7, .bl b8, .bl b9])) = H7 at s7 g7
  walk_at "rx"
  refine r_lst ?_
  walk_at "rx"
  refine r_instXR (s7 _ _ hx) hc h10 ?_
  walk_at "rx"
  refine r_instXR (s7 _ _ hx) hc h11 ?_
  walk_at "rx"
  refine r_instXR (s7 _ _ hx) hc h12 ?_
  walk_at "rx"
  refine ⟨small (by show 3 ≤ 1000; decide), fun p10 hp10 => ?_⟩
  have n10 : c7 ≠ p10 := fun e => by rw [← e, g7] at hp10; cases hp10
  refine ⟨c7, p10, _, _, rfl, rfl, by rw [upd_ne n10]; exact g7, upd_same, small (by show _ ≤ 1000; simp), fun c10 hc10 => ?_⟩
  have s10 := s7.trans ((same_new hp10 (.lst [.bl b10, .bl b11, .bl b12])).trans (same_new hc10 (.lst ([b1, b2, b3, b4, b5, b6, b7, b8, b9].map V.bl ++ [.bl b10, .bl b11, .bl b12]))))
  have g10 : (upd (upd H7 p10 (.lst [.bl b10, .bl b11, .bl b12])) c10 (.lst ([b1, b2, b3, b4, b5, b6, b7, b8, b9].map V.bl ++ [.bl b10, .bl b11, .bl b12]))) c10 = some (.lst ([b1, b2, b3, b4, b5, b6, b7, b8, b9, b10, b11, b12].map V.bl)) := upd_same
  generalize upd (upd H7 p10 (.lst [.bl b10, .bl b11, .bl b12])) c10 (.lst ([b1, b2, b3, b4, b5, b6, b7, b8, b9].map V.bl ++ [.bl b10, .bl b11, .bl b12])) = H10 at s10 g10
  walk_at "rx"
  refine r_lst ?_
  walk_at "rx"
  refine r_instXR (s10 _ _ hx) hc h13 ?_
  walk_at "rx"
  refine r_instXR (s10 _ _ hx) hc h14 ?_
  walk_at "rx"
  refine r_instXR (s10 _ _ hx) hc h15 ?_
  walk_at "rx"
  refine ⟨small (by show 3 ≤ 1000; decide), fun p13 hp13 => ?_⟩
  have n13 : c10 ≠ p13 := fun e => by rw [← e, g10] at hp13; cases hp13
  refine ⟨c10, p13, _, _, rfl, rfl, by rw [upd_ne n13]; exact g10, upd_same, small (by show _ ≤ 1000; simp), fun c13 hc13 => ?_⟩
  have s13 := s10.trans ((same_new hp13 (.lst [.bl b13, .bl b14, .bl b15])).trans (same_new hc13 (.lst ([b1, b2, b3, b4, b5, b6, b7, b8, b9, b10, b11, b12].map V.bl ++ [.bl b13, .bl b14, .bl b15]))))
  have g13 : (upd (upd H10 p13 (.lst [.bl b13, .bl b14, .bl b15])) c13 (.lst ([b1, b2, b3, b4, b5, b6, b7, b8, b9, b10, b11, b12].map V.bl ++ [.bl b13, .bl b14, .bl b15]))) c13 = some (.lst ([b1, b2, b3, b4, b5, b6, b7, b8, b9, b10, b11, b12, b13, b14, b15].map V.bl)) := upd_same
  generalize upd (upd H10 p13 (.lst [.bl b13, .bl b14, .bl b15])) c13 (.lst ([b1, b2, b3, b4, b5, b6, b7, b8, b9, b10, b11, b12].map V.bl ++ [.bl b13, .bl b14, .bl b15])) = H13 at s13 g13
  exact q c13 H13 (s10.free ((same_new hp13 _).free hc13)) s13 g13
end

section
variable {P : Program} {w : World} {K : PySem.W.Frag} {mg : Str → Option Value} {base : Heap}
def names9 : List Str := ["NoPart", "NotSteady", "BadWheel", "NoMove", "BadMarks", "NoWay", "OtherGroup", "OtherWheel", "TooGreat"]
def due9 (n : Str) : List Bool := names9.map fun o => decide (V.str o = V.str n)
def dueB (n : Str) : List Bool := due9 n ++ List.replicate 6 false
def sp_law_only (Ds : List Addr) (K : PySem.W.Frag) : Sp := fun vs H Q _ => ∃ (x C : Addr) (n : Str), vs = [.ref x, .str n] ∧ H x = some (excO x C) ∧ ExcCls K C ∧ PySem.W.kitOne K (.ref C) (.type "ValueError") = some true ∧ Paired (kO K C) Ds (dueB n) ∧ ∀ H', Same H H' → Q (.bl true) H'
theorem ok_law_only (T : Txt K mg) : FnOk P w K mg base CX0 2 T.d_law_only.f T.d_law_only.fd ["_law_met", "_law_name"] (sp_law_only [T.C_NoPart, T.C_NotSteady, T.C_BadWheel, T.C_NoMove, T.C_BadMarks, T.C_NoWay, T.C_OtherGroup, T.C_OtherWheel, T.C_TooGreat, T.C_NotKept, T.C_BadSize, T.C_Stranger, T.C_NoUnit, T.C_NoBack, T.C_NotTogether] K) := by
  refine T.d_law_only.ok sc_law_only (fun vs H Q E h => ?_) (fun cdv A outer s H vs Q E hr h => ?_)
  · obtain ⟨x, C, n, rfl, _⟩ := h
    rfl
  obtain ⟨x, C, n, rfl, hx, hc, hv, hp, q⟩ := h
  refine ⟨_, (pss_cons (ps_set (i := 2) sc_law_only.nd rfl (Or.inl rfl) (pe_lst (paF pe_str (paF pe_str (paF pe_str (paF pe_str (paF pe_str (paF pe_str (paF pe_str (paF pe_str (paF pe_str pa_nil)))))))))))
      (pss_cons (ps_set (i := 3) sc_law_only.nd rfl (Or.inl rfl) (pe_op op_cat (pe_comp rfl cs_law_only_0 (pi_listK K rfl (pv 2)) (fun _ _ _ _ => ⟨(pg_name (i := 0) cs_law_only_0.nd rfl (Or.inl rfl)), pif_nil, (pe_cmpR op_eq (pv 0) (pv 1) (nomark _))⟩)) (pe_op op_rep (pe_lst (paF pe_bl pa_nil)) pe_int)))
      (pss_one (ps_ret (pe_and (pe_callBF (call_isinstX K rfl) rfl T.z_isinstance PyProof.Rows.boot_isinstance (paF (pv 0) (paF (pe_bltn (v := .ty "ValueError") rfl T.z_ValueError rfl rfl) pa_nil))) (pe_one (pe_cmpR (op_eqLK K rfl Bool hr.units) (pe_dfF T.d_law_flags (ok_law_flags T) (hr.mono (by decide)) rfl (paF (pv 0) pa_nil)) (pv 3) (nomark _)))))))), ?_⟩
  walk_at "rx"
  refine r_lst ?_
  walk_at "rx"
  refine ⟨small (by show 9 ≤ 1000; decide), fun p1 hp1 => ?_⟩
  have s1 := same_new hp1 (.lst (names9.map V.str))
  have h1 : (upd H p1 (.lst (names9.map V.str))) p1 = some (.lst (names9.map V.str)) := upd_same
  rw [show [V.str (Str.ofString "NoPart"), V.str (Str.ofString "NotSteady"), V.str (Str.ofString "BadWheel"), V.str (Str.ofString "NoMove"), V.str (Str.ofString "BadMarks"), V.str (Str.ofString "NoWay"), V.str (Str.ofString "OtherGroup"), V.str (Str.ofString "OtherWheel"), V.str (Str.ofString "TooGreat")] = names9.map V.str from rfl]
  generalize (upd H p1 (.lst (names9.map V.str))) = H1 at s1 h1
  walk_at "rx"
  refine rd_clistR (p := p1) (xs := names9.map V.str) (by show 9 ≤ 100000; decide) (fun d i σ' H' ys => Same H1 H' ∧ ∃ y : Option V, ys = ((due9 n).take i).map V.bl ∧ σ' = [y, some (.str n)]) (fun d i σ' H' ys z => z.1.seq (SqL.of h1)) (SqL.of h1)
    (fun d i σ' H' ys hi z => by obtain ⟨_, y, e, _⟩ := z; rw [e, List.length_map, List.length_take]; omega) (fun d hd => ⟨same_new hd _, _, rfl, rfl⟩) ?_ ?_
  · rintro d i o σ' H2 ys R R0 hd hi ⟨s2, y, rfl, rfl⟩ hys hR hR0
    obtain ⟨o', ho, rfl⟩ : ∃ o', names9[i]? = some o' ∧ V.str o' = o := by
      rw [List.getElem?_map] at hi
      cases hn : names9[i]? with
      | none => rw [hn] at hi; cases hi
      | some o' => rw [hn] at hi; exact ⟨o', rfl, Option.some.inj hi⟩
    walk_at "rx"
    refine ⟨rfl, ?_⟩
    walk_at "rx"
    refine hR _ _ _ hys ⟨fun b o zz => by rw [upd_ne (ne_of_none zz hd)]; exact s2 _ _ zz, _, ?_, rfl⟩
    rw [List.take_add_one, List.map_append]
    unfold due9
    rw [List.getElem?_map, ho]
    rfl
  rintro d2 σ2 H2 ys fd2 hd2 ⟨s2, y, rfl, rfl⟩
  have hd2' : H2 d2 = some (.lst ((due9 n).map V.bl)) := by
    rw [hd2, List.take_of_length_le (by unfold due9; rw [List.length_map, List.length_map]; exact Nat.le_refl _)]
  have s02 := s1.trans s2
  walk_at "rx"
  refine r_lst ?_
  walk_at "rx"
  refine ⟨small (by show 1 ≤ 1000; decide), fun p3 hp3 => ?_⟩
  have s3 := same_new hp3 (.lst [.bl false])
  have h3 : (upd H2 p3 (.lst [.bl false])) p3 = some (.lst [.bl false]) := upd_same
  generalize upd H2 p3 (.lst [.bl false]) = H3 at s3 h3
  walk_at "rx"
  refine ⟨p3, _, _, rfl, rfl, h3, by omega, by omega, ?_, fun p4 hp4 => ?_⟩
  · rw [sizeLine_eq]
    show 1 * _ ≤ _
    decide
  have s4 := same_new hp4 (.lst ((List.replicate 6 false).map V.bl))
  have h4 : (upd H3 p4 (.lst ((List.replicate 6 false).map V.bl))) p4 = some (.lst ((List.replicate 6 false).map V.bl)) := upd_same
  rw [show (List.replicate ((6 : Nat) : Int).toNat [V.bl false]).flatten = (List.replicate 6 false).map V.bl from rfl]
  refine ⟨d2, p4, _, _, rfl, rfl, s4 _ _ (s3 _ _ hd2'), h4, small (by rw [List.length_map, List.length_map]; unfold due9; rw [List.length_map]; decide), fun p5 hp5 => ?_⟩
  have s5 := same_new hp5 (.lst ((due9 n).map V.bl ++ (List.replicate 6 false).map V.bl))
  have h5 : (upd (upd H3 p4 (.lst ((List.replicate 6 false).map V.bl))) p5 (.lst ((due9 n).map V.bl ++ (List.replicate 6 false).map V.bl))) p5 = some (.lst ((dueB n).map V.bl)) := by rw [upd_same]; unfold dueB; rw [List.map_append]
  have s05 := s02.trans (s3.trans (s4.trans s5))
  generalize upd (upd H3 p4 (.lst ((List.replicate 6 false).map V.bl))) p5 (.lst ((due9 n).map V.bl ++ (List.replicate 6 false).map V.bl)) = H5 at s05 h5
  walk_at "rx"
  refine r_instXT (s05 _ _ hx) hc hv ?_
  walk_at "rx"
  refine ⟨x, C, _, rfl, s05 _ _ hx, hc, hp, fun d6 H6 fd6 s6 h6 => ?_⟩
  walk_at "rx"
  refine r_eqL (at_b h6) (at_b (s6 _ _ h5)) ?_
  rw [decide_eq_true rfl]
  exact q _ (s05.trans s6)
def sp_law_step : Sp := fun vs H Q _ => ∃ (c : Int), vs = [.int c] ∧ ∀ j : Int, Q (.int j) H
theorem ok_law_step (T : Txt K mg) : FnOk P w K mg base CX0 1 T.d_law_step.f T.d_law_step.fd ["_law_cell"] sp_law_step := by
  refine T.d_law_step.ok sc_law_step (fun vs H Q E h => ?_) (fun cdv A outer s H vs Q E hr h => ?_)
  · obtain ⟨c, rfl, _⟩ := h
    rfl
  obtain ⟨c, rfl, q⟩ := h
  refine ⟨_, (pss_cons (ps_if (pt_cmpR op_lt (pe_op op_mod (pv 0) pe_int) pe_int (nomark _)) (pss_one (ps_ret (pe_op op_sub (pe_op op_mod (pe_op op_fdiv (pv 0) pe_int) pe_int) pe_int))) pss_nil)
      (pss_cons (ps_if (pt_cmpR op_eq (pe_op op_mod (pe_op op_fdiv (pv 0) pe_int) pe_int) pe_int (nomark _)) (pss_one (ps_ret (pe_op op_mod (pe_op op_fdiv (pv 0) pe_int) (pe_op op_pow pe_int pe_int)))) pss_nil)
      (pss_one (ps_ret (pe_op op_sub pe_int (pe_op op_mod (pe_op op_fdiv (pv 0) pe_int) (pe_op op_pow pe_int pe_int))))))), ?_⟩
  walk_at "rx"
  walk_at "ifs"
  walk_at "rx"
  refine r_modI (by decide) ?_
  walk_at "rx"
  refine rd_if (fun _ => ?_) (fun _ => ?_)
  · walk_at "rx"
    refine r_divI (by decide) (by decide) ?_
    walk_at "rx"
    refine r_modI (by decide) ?_
    walk_at "rx"
    exact q _
  · walk_at "rx"
    walk_at "ifs"
    walk_at "rx"
    refine r_divI (by decide) (by decide) ?_
    walk_at "rx"
    refine r_modI (by decide) ?_
    walk_at "rx"
    refine rd_if (fun _ => ?_) (fun _ => ?_)
    · walk_at "rx"
      refine r_divI (by decide) (by decide) ?_
      walk_at "rx"
      refine r_rI ⟨by decide, by decide, by decide⟩ ?_
      refine r_modI (by decide) ?_
      exact q _
    · walk_at "rx"
      refine r_divI (by decide) (by decide) ?_
      walk_at "rx"
      refine r_rI ⟨by decide, by decide, by decide⟩ ?_
      refine r_modI (by decide) ?_
      walk_at "rx"
      exact q _
def sp_law_width : Sp := fun vs H Q _ => ∃ (c : Int) (m : Nat), vs = [.int c, .int (m : Int)] ∧ 1 ≤ m ∧ m ≤ 60 ∧ ∀ j : Int, Q (.int j) H
theorem ok_law_width (T : Txt K mg) : FnOk P w K mg base CX0 1 T.d_law_width.f T.d_law_width.fd ["_law_cell", "_law_many"] sp_law_width := by
  refine T.d_law_width.ok sc_law_width (fun vs H Q E h => ?_) (fun cdv A outer s H vs Q E hr h => ?_)
  · obtain ⟨c, m, rfl, _⟩ := h
    rfl
  obtain ⟨c, m, rfl, m1, m2, q⟩ := h
  refine ⟨_, (pss_cons (ps_if (pt_cmpR op_eq (pe_op op_mod (pv 0) pe_int) pe_int (nomark _)) (pss_one (ps_ret (pe_op op_add (pe_op op_fdiv pe_int (pv 1)) (pe_op op_mod (pe_op op_fdiv (pv 0) pe_int) pe_int)))) pss_nil)
      (pss_cons (ps_if (pt_cmpR op_eq (pe_op op_mod (pv 0) pe_int) pe_int (nomark _)) (pss_one (ps_ret (pe_op op_mul (pe_op op_mod (pe_op op_fdiv (pv 0) pe_int) (pe_op op_pow pe_int pe_int)) (pe_op op_sub pe_int (pe_op op_mul pe_int (pe_op op_mod (pe_op op_fdiv (pv 0) pe_int) pe_int)))))) pss_nil)
      (pss_cons (ps_if (pt_cmpR op_lt (pe_op op_mod (pv 0) pe_int) pe_int (nomark _)) (pss_one (ps_ret (pe_op op_mod (pe_op op_fdiv (pv 0) pe_int) pe_int))) pss_nil)
      (pss_one (ps_ret (pe_op op_sub (pe_op op_mod (pe_op op_fdiv (pv 0) pe_int) pe_int) pe_int)))))), ?_⟩
  walk_at "rx"
  walk_at "ifs"
  walk_at "rx"
  refine r_modI (by decide) ?_
  walk_at "rx"
  refine rd_if (fun _ => ?_) (fun _ => ?_)
  · walk_at "rx"
    refine r_divI (by decide) (by decide) ?_
    walk_at "rx"
    refine r_modI (by decide) ?_
    walk_at "rx"
    exact q _
  walk_at "rx"
  walk_at "ifs"
  walk_at "rx"
  refine r_modI (by decide) ?_
  walk_at "rx"
  refine rd_if (fun _ => ?_) (fun _ => ?_)
  · walk_at "rx"
    refine r_divI (by decide) (by decide) ?_
    walk_at "rx"
    refine r_rI ⟨by decide, by decide, by decide⟩ ?_
    refine r_modI (by decide) ?_
    walk_at "rx"
    refine r_divI (by decide) (by decide) ?_
    walk_at "rx"
    refine r_modI (by decide) ?_
    have h0 := Int.emod_nonneg (c / ((6 : Nat) : Int)) (show ((2 : Nat) : Int) ≠ 0 by decide)
    have h2 := Int.emod_lt_of_pos (c / ((6 : Nat) : Int)) (show 0 < ((2 : Nat) : Int) by decide)
    revert h0 h2
    generalize c / ((6 : Nat) : Int) % ((2 : Nat) : Int) = y
    intro h0 h2
    walk_at "rx"
    refine r_rI (.inl ⟨by decide, by decide⟩) ?_
    walk_at "rx"
    refine r_rI (.inr ⟨by omega, by omega⟩) ?_
    exact q _
  walk_at "rx"
  walk_at "ifs"
  walk_at "rx"
  refine r_modI (by decide) ?_
  walk_at "rx"
  refine rd_if (fun _ => ?_) (fun _ => ?_)
  · walk_at "rx"
    refine r_divI (by decide) (by decide) ?_
    walk_at "rx"
    refine r_modI (by decide) ?_
    exact q _
  · walk_at "rx"
    refine r_divI (by decide) (by decide) ?_
    walk_at "rx"
    refine r_modI (by decide) ?_
    walk_at "rx"
    exact q _
def sp_law_apart : Sp := fun vs H Q _ => ∃ (j : Int) (m : Nat), vs = [.int j, .int (m : Int)] ∧ 1 ≤ m ∧ m ≤ 60 ∧ ∀ H', Same H H' → ∀ b : Bool, (b = true ↔ NoCom m j) → Q (.bl b) H'
theorem ok_law_apart (T : Txt K mg) : FnOk P w K mg base CX0 2 T.d_law_apart.f T.d_law_apart.fd ["_law_j", "_law_many"] sp_law_apart := by
  refine T.d_law_apart.ok sc_law_apart (fun vs H Q E h => ?_) (fun cdv A outer s H vs Q E hr h => ?_)
  · obtain ⟨j, m, rfl, _⟩ := h
    rfl
  obtain ⟨j, m, rfl, m1, m2, q⟩ := h
  have okm := (wheel_all m (by omega)).resolve_left (by omega)
  refine ⟨_, (pss_one (ps_ret (pe_callBF (call_allK K rfl rfl) rfl T.z_all PyProof.Rows.boot_all (paF (pe_comp rfl cs_law_apart_0 (pi_listK K rfl (pe_dfF T.d_law_primes (ok_law_primes T) (hr.mono (by decide)) rfl (paF (pv 1) pa_nil))) (fun _ _ _ _ => ⟨(pg_name (i := 0) cs_law_apart_0.nd rfl (Or.inl rfl)), pif_nil, (pe_cmpR op_ne (pe_op op_mod (pv 1) (pv 0)) pe_int (nomark _))⟩)) pa_nil)))), ?_⟩
  walk_at "rx"
  refine ⟨m, rfl, m1, m2, fun d H2 fd s2 g2 => ?_⟩
  refine rd_clist (β := Bool) g2.at (Nat.le_trans (primes_le m2) (by omega)) (fun i => ((primesL m).map fun p : Nat => !decide (j % (p : Int) = ((0 : Nat) : Int))).take i) (fun σ' => ∃ y, σ' = [y, some (.int j)]) rfl (fun i hi => by rw [List.length_take]; omega) ⟨_, rfl⟩ ?_ ?_
  · rintro i p w' σ6 H6 d' R' R0 hp hs hw ⟨y, rfl⟩ hR' hR0 hd'
    cases (show w' = V.int (p : Int) from hw)
    have hpm := List.mem_of_getElem? hp
    have pp := (okm.2.2 p hpm).2.2.1
    walk_at "rx"
    refine r_modI (by omega) ?_
    walk_at "rx"
    refine hR' _ _ (!decide (j % (p : Int) = ((0 : Nat) : Int))) _ ⟨_, rfl⟩ (Same.refl _) rfl ?_
    rw [List.take_add_one, List.getElem?_map, hp]
    rfl
  intro d3 H3 s3 h3
  walk_at "rx"
  refine r_allL h3 ?_
  refine q _ (s2.trans s3) _ ?_
  rw [List.take_of_length_le (by rw [List.length_map]; exact Nat.le_refl _), noCom_iff m1 m2, List.all_eq_true]
  constructor
  · intro z p hp e
    have := z _ (List.mem_map.mpr ⟨p, hp, rfl⟩)
    rw [show decide (j % (p : Int) = ((0 : Nat) : Int)) = true from decide_eq_true e] at this
    cases this
  · intro z x hx
    obtain ⟨p, hp, rfl⟩ := List.mem_map.mp hx
    rw [show decide (j % (p : Int) = ((0 : Nat) : Int)) = false from decide_eq_false (z p hp)]
    rfl
def sp_law_asked (C CN CB : Addr) : Sp := fun vs H Q _ => ∃ (g b : Addr) (j : Int) (k m : Nat) (f : List Int), vs = [.ref g, .ref b, .int j, .int (k : Int)] ∧ WhAt C H g m ∧ 1 ≤ m ∧ m ≤ 60 ∧ H b = some (.lst (zsV f)) ∧ f.length ≤ 1000 ∧
  ((k = 0 ∧ NoCom m j ∧ ∀ t r H', Same H H' → H r = none → H' t = some (.tup [.ref r, .non]) → H' r = some (.lst (zsV (lowL m (layTo m j 0 f)))) → Q (.ref t) H') ∨
   (k = 0 ∧ ¬ NoCom m j ∧ ∀ t e H', Same H H' → H' t = some (.tup [.non, .ref e]) → H' e = some (excO e CN) → Q (.ref t) H') ∨
   (k = 1 ∧ ∃ w : Nat, j = (w : Int) ∧ 1 ≤ w ∧ w ≤ 60 ∧ m * w ≤ 60 ∧ ∀ t r H', Same H H' → H r = none → H' t = some (.tup [.ref r, .non]) → H' r = some (.lst (zsV (lowL (m * w) (layTo (m * w) w 0 f)))) → Q (.ref t) H') ∨
   (k = 1 ∧ BadM ((m : Int) * j) ∧ ∀ t e H', Same H H' → H' t = some (.tup [.non, .ref e]) → H' e = some (excO e CB) → Q (.ref t) H'))
theorem ok_law_asked (T : Txt K mg) : FnOk P w K mg base CX0 8 T.d_law_asked.f T.d_law_asked.fd ["_law_wheel", "_law_one", "_law_by", "_law_way"] (sp_law_asked T.C_Wheel T.C_NoMove T.C_BadWheel) := by
  refine T.d_law_asked.ok sc_law_asked (fun vs H Q E h => ?_) (fun cdv A outer s H vs Q E hr h => ?_)
  · obtain ⟨g, b, j, k, m, f, rfl, _⟩ := h
    rfl
  obtain ⟨g, b, j, k, m, f, rfl, hW, m1, m2, hb, hl, q⟩ := h
  obtain ⟨dx, r, hg, hr'⟩ := id hW
  have W := wheelOk_of ((wheel_all m (by omega)).resolve_left (by omega)).1
  refine ⟨_, (pss_cons (ps_set (i := 4) sc_law_asked.nd rfl (Or.inl rfl) pe_non)
      (pss_cons (ps_set (i := 5) sc_law_asked.nd rfl (Or.inl rfl) pe_non)
      (pss_cons (ps_try (i := 6) rfl (psx_one (psx_if (pt_cmpR op_eq (pv 3) pe_int (nomark _)) (psx_one (psx_set (i := 4) sc_law_asked.nd rfl (Or.inl rfl) (pex_meth (pv 0) T.k_Wheel T.e_Wheel_moved (okB_Wheel_moved T) rfl (hr.mono (by decide)) T.b_Wheel_moved (paF (pv 1) (paF (pv 2) pa_nil))))) (psx_one (psx_set (i := 4) sc_law_asked.nd rfl (Or.inl rfl) (pex_meth (pv 0) T.k_Wheel T.e_Wheel_wider (okB_Wheel_wider T) rfl (hr.mono (by decide)) T.b_Wheel_wider (paF (pv 1) (paF (pv 2) pa_nil))))))) (fun _ => (pss_one (ps_set (i := 5) sc_law_asked.nd rfl (Or.inl rfl) (pv 6)))) rfl T.c_BookError sc_law_asked.nd rfl rfl rfl rfl)
      (pss_one (ps_ret (pe_tup (paF (pv 4) (paF (pv 5) pa_nil)))))))), ?_⟩
  walk_at "rx"
  refine r_try ?_
  refine r_Xif ?_
  walk_at "rx"
  refine rd_if (fun c => ?_) (fun c => ?_)
  · refine r_Xset ?_
    refine r_Xmeth ?_
    walk_at "rx"
    refine ⟨g, dx, _, rfl, hg, rfl, ?_⟩
    walk_at "rx"
    rcases q with ⟨_, nc, q⟩ | ⟨_, nc, q⟩ | ⟨k6, _⟩ | ⟨k6, _⟩
    · refine .inl ⟨g, _, j, m, f, rfl, hW, m1, m2, W, at_z hb, hl, nc, fun r1 H1 fr1 s1 hr1 => ?_⟩
      walk_at "rx"
      refine r_tup ?_
      walk_at "rx"
      refine ⟨small (by show 2 ≤ 1000; decide), fun t ht => ?_⟩
      exact q t r1 _ (s1.trans (same_new ht _)) fr1 upd_same ((same_new ht _) _ _ hr1)
    · refine .inr ⟨g, _, j, m, rfl, hW, m1, m2, nc, T.C_NoMove, rfl, T.e_NoMove, fun x hx => ?_⟩
      have s1 := same_new hx (excO x T.C_NoMove)
      have h1 : (upd H x (excO x T.C_NoMove)) x = some (excO x T.C_NoMove) := upd_same
      generalize upd H x (excO x T.C_NoMove) = H1 at s1 h1
      walk_at "rx"
      dsimp only
      walk_at "rx"
      refine r_tup ?_
      walk_at "rx"
      refine ⟨small (by show 2 ≤ 1000; decide), fun t ht => ?_⟩
      exact q t x _ (s1.trans (same_new ht _)) upd_same ((same_new ht _) _ _ h1)
    · omega
    · omega
  · refine r_Xset ?_
    refine r_Xmeth ?_
    walk_at "rx"
    refine ⟨g, dx, _, rfl, hg, rfl, ?_⟩
    walk_at "rx"
    rcases q with ⟨k4, _⟩ | ⟨k4, _⟩ | ⟨_, w', rfl, w1, w4, mw, q⟩ | ⟨_, bm, q⟩
    · omega
    · omega
    · refine .inl ⟨g, _, w', m, f, rfl, hW, m1, w1, w4, mw, at_z hb, hl, fun r1 H1 fr1 s1 hr1 => ?_⟩
      walk_at "rx"
      refine r_tup ?_
      walk_at "rx"
      refine ⟨small (by show 2 ≤ 1000; decide), fun t ht => ?_⟩
      exact q t r1 _ (s1.trans (same_new ht _)) fr1 upd_same ((same_new ht _) _ _ hr1)
    · refine .inr ⟨g, _, j, m, rfl, hW, m2, bm, fun H0 s0 => ⟨T.C_BadWheel, rfl, T.e_BadWheel, fun x hx => ?_⟩⟩
      have s1 := s0.trans (same_new hx (excO x T.C_BadWheel))
      have h1 : (upd H0 x (excO x T.C_BadWheel)) x = some (excO x T.C_BadWheel) := upd_same
      generalize upd H0 x (excO x T.C_BadWheel) = H1 at s1 h1
      walk_at "rx"
      dsimp only
      walk_at "rx"
      refine r_tup ?_
      walk_at "rx"
      refine ⟨small (by show 2 ≤ 1000; decide), fun t ht => ?_⟩
      exact q t x _ (s1.trans (same_new ht _)) upd_same ((same_new ht _) _ _ h1)
end

section
variable {P : Program} {w : World} {K : PySem.W.Frag} {mg : Str → Option Value} {base : Heap}
theorem same_tmp {H H' : Hp} {b : Addr} {o : HO} (fb : H b = none) (s : Same H H') : Same H (upd H' b o) := fun a o' z => by
  rw [upd_ne (ne_of_none z fb)]; exact s _ _ z
theorem app_ok {l : List Int} (h : l.length ≤ 1000) : (zsV l).length < sizeLine := Nat.lt_of_le_of_lt (show (zsV l).length ≤ 1000 by unfold zsV; rw [List.length_map]; exact h) (by rw [sizeLine_eq]; decide)
theorem kO_self {C : Addr} : kO K C C true := by unfold kO PySem.W.kitOne; rw [if_pos (beq_self_eq_true _)]
theorem due_move : dueB "NoMove" = [false, false, false, true, false, false, false, false, false, false, false, false, false, false, false] := by decide +kernel
theorem due_wheel : dueB "BadWheel" = [false, false, true, false, false, false, false, false, false, false, false, false, false, false, false] := by decide +kernel
theorem only_move (T : Txt K mg) : Paired (kO K T.C_NoMove) [T.C_NoPart, T.C_NotSteady, T.C_BadWheel, T.C_NoMove, T.C_BadMarks, T.C_NoWay, T.C_OtherGroup, T.C_OtherWheel, T.C_TooGreat, T.C_NotKept, T.C_BadSize, T.C_Stranger, T.C_NoUnit, T.C_NoBack, T.C_NotTogether] (dueB "NoMove") := by
  rw [due_move]
  exact .cons T.f_NoMove_NoPart (.cons T.f_NoMove_NotSteady (.cons T.f_NoMove_BadWheel (.cons kO_self (.cons T.f_NoMove_BadMarks (.cons T.f_NoMove_NoWay (.cons T.f_NoMove_OtherGroup (.cons T.f_NoMove_OtherWheel (.cons T.f_NoMove_TooGreat (.cons T.f_NoMove_NotKept (.cons T.f_NoMove_BadSize (.cons T.f_NoMove_Stranger (.cons T.f_NoMove_NoUnit (.cons T.f_NoMove_NoBack (.cons T.f_NoMove_NotTogether .nil))))))))))))))
theorem only_wheel (T : Txt K mg) : Paired (kO K T.C_BadWheel) [T.C_NoPart, T.C_NotSteady, T.C_BadWheel, T.C_NoMove, T.C_BadMarks, T.C_NoWay, T.C_OtherGroup, T.C_OtherWheel, T.C_TooGreat, T.C_NotKept, T.C_BadSize, T.C_Stranger, T.C_NoUnit, T.C_NoBack, T.C_NotTogether] (dueB "BadWheel") := by
  rw [due_wheel]
  exact .cons T.f_BadWheel_NoPart (.cons T.f_BadWheel_NotSteady (.cons kO_self (.cons T.f_BadWheel_NoMove (.cons T.f_BadWheel_BadMarks (.cons T.f_BadWheel_NoWay (.cons T.f_BadWheel_OtherGroup (.cons T.f_BadWheel_OtherWheel (.cons T.f_BadWheel_TooGreat (.cons T.f_BadWheel_NotKept (.cons T.f_BadWheel_BadSize (.cons T.f_BadWheel_Stranger (.cons T.f_BadWheel_NoUnit (.cons T.f_BadWheel_NoBack (.cons T.f_BadWheel_NotTogether .nil))))))))))))))
def sp_move (C : Addr) : Sp := fun vs H Q _ => ∃ (g b : Addr) (j : Int) (m : Nat) (f : List Int), vs = [.ref g, .ref b, .int j, .int (m : Int)] ∧ WhAt C H g m ∧ 1 ≤ m ∧ m ≤ 60 ∧ H b = some (.lst (zsV f)) ∧ f.length ≤ 60 ∧ ∀ H', Same H H' → Q (.bl true) H'
theorem ok_law_moved (T : Txt K mg) : FnOk P w K mg base CX0 9 T.d_law_moved.f T.d_law_moved.fd ["_law_wheel", "_law_one", "_law_j", "_law_many"] (sp_move T.C_Wheel) := by
  refine T.d_law_moved.ok sc_law_moved (fun vs H Q E h => ?_) (fun cdv A outer s H vs Q E hr h => ?_)
  · obtain ⟨g, b, j, m, f, rfl, _⟩ := h
    rfl
  obtain ⟨g, b, j, m, f, rfl, hW, m1, m2, hb, hf, q⟩ := h
  have okm := (wheel_all m (by omega)).resolve_left (by omega)
  have W := wheelOk_of okm.1
  have dm := okm.2.1
  have hpr := okm.2.2
  have ll : ∀ l : List Int, (lowL m l).length ≤ 1000 := fun l => by rw [lowL_len W dm l]; omega
  have tl := layTo_len m j 0 f
  refine ⟨_, (pss_cons (ps_asg (pe_dfF T.d_law_asked (ok_law_asked T) (hr.mono (by decide)) rfl (paF (pv 0) (paF (pv 1) (paF (pv 2) (paF pe_int pa_nil))))) (pg_tup rfl (pgs_cons (pg_name (i := 4) sc_law_moved.nd rfl (Or.inl rfl)) (pgs_cons (pg_name (i := 5) sc_law_moved.nd rfl (Or.inl rfl)) pgs_nil))))
      (pss_cons (ps_if (pt_not (pt_val (pe_dfF T.d_law_apart (ok_law_apart T) (hr.mono (by decide)) rfl (paF (pv 2) (paF (pv 3) pa_nil))))) (pss_one (ps_ret (pe_dfF T.d_law_only (ok_law_only T) (hr.mono (by decide)) rfl (paF (pv 5) (paF pe_str pa_nil))))) pss_nil)
      (pss_cons (ps_set (i := 6) sc_law_moved.nd rfl (Or.inl rfl) (pe_dfF T.d_law_put (ok_law_put T) (hr.mono (by decide)) rfl (paF (pv 1) (paF (pv 2) (paF (pv 3) pa_nil)))))
      (pss_cons (ps_if (PW.pt (pw_or (pt_cmp (pc_notN (pv 5))) (pw_or1 (pt_not (pt_val (pe_dfF T.d_law_is (ok_law_is T) (hr.mono (by decide)) rfl (paF (pv 4) (paF (pv 6) (paF (pv 3) pa_nil))))))))) (pss_one (ps_ret pe_bl)) pss_nil)
      (pss_cons (ps_expr (pe_bmF K rfl PySem.F.plainAttrs_list PySem.F.slot_list_append PySem.F.type_list_append mt_append (pv 4) (paF pe_int pa_nil)))
      (pss_one (ps_ret (pe_dfF T.d_law_is (ok_law_is T) (hr.mono (by decide)) rfl (paF (pe_methF (pv 0) T.k_Wheel T.e_Wheel_moved (ok_Wheel_moved T) (hr.mono (by decide)) T.b_Wheel_moved (paF (pv 1) (paF (pv 2) pa_nil))) (paF (pv 6) (paF (pv 3) pa_nil))))))))))), ?_⟩
  walk_at "rx"
  by_cases nc : NoCom m j
  · refine ⟨g, b, j, 0, m, f, rfl, hW, m1, m2, hb, by omega, .inl ⟨rfl, nc, fun t r H1 s1 fr ht hr1 => ?_⟩⟩
    refine r_tup2 ht ?_
    walk_at "rx"
    walk_at "ifs"
    walk_at "rx"
    refine ⟨j, m, rfl, m1, m2, fun H2 s2 ok hok => ?_⟩
    obtain rfl : ok = true := hok.mpr nc
    walk_at "rx"
    refine iteF ?_
    walk_at "rx"
    refine ⟨_, j, m, f, rfl, at_z (s2 _ _ (s1 _ _ hb)), by omega, m1, m2, fun c H3 fc s3 h3 => ?_⟩
    have nrc : c ≠ r := fun e => by rw [e, s2 _ _ hr1] at fc; cases fc
    walk_at "rx"
    walk_at "ifs"
    walk_at "rx"
    refine iteF ?_
    walk_at "rx"
    refine ⟨r, _, _, m, rfl, s3 _ _ (s2 _ _ hr1), at_z h3, by omega, m1, m2, W, dm, hpr, fun H4 s4 => ?_⟩
    have s14 := s2.trans (s3.trans s4)
    walk_at "rx"
    refine iteF ?_
    walk_at "rx"
    have h4 := s14 _ _ hr1
    refine ⟨.inl ⟨rfl, _, SqL.of h4⟩, ?_⟩
    walk_at "rx"
    refine ⟨r, _, _, rfl, rfl, h4, app_ok (ll _), ?_⟩
    have s5 : Same H (upd H4 r (.lst (zsV (lowL m (layTo m j 0 f)) ++ [.int ((1 : Nat) : Int)]))) := same_tmp fr (s1.trans s14)
    have h5 : (upd H4 r (.lst (zsV (lowL m (layTo m j 0 f)) ++ [.int ((1 : Nat) : Int)]))) c = some (.lst (zsV (layTo m j 0 f))) := by rw [upd_ne nrc]; exact s4 _ _ h3
    generalize upd H4 r (.lst (zsV (lowL m (layTo m j 0 f)) ++ [.int ((1 : Nat) : Int)])) = H5 at s5 h5
    have hW5 := hW.mono s5
    obtain ⟨dx, rr, hg, _⟩ := id hW5
    walk_at "rx"
    refine r_meth ?_
    walk_at "rx"
    refine ⟨g, dx, _, rfl, hg, rfl, ?_⟩
    walk_at "rx"
    refine ⟨g, _, j, m, f, rfl, hW5, m1, m2, W, at_z (s5 _ _ hb), by omega, nc, fun r6 H6 fr6 s6 h6 => ?_⟩
    walk_at "rx"
    exact ⟨r6, _, _, m, rfl, h6, at_z (s6 _ _ h5), by omega, m1, m2, W, dm, hpr, fun H7 s7 => q _ (s5.trans (s6.trans s7))⟩
  · refine ⟨g, b, j, 0, m, f, rfl, hW, m1, m2, hb, by omega, .inr (.inl ⟨rfl, nc, fun t x H1 s1 ht hx1 => ?_⟩)⟩
    refine r_tup2 ht ?_
    walk_at "rx"
    walk_at "ifs"
    walk_at "rx"
    refine ⟨j, m, rfl, m1, m2, fun H2 s2 ok hok => ?_⟩
    obtain rfl : ok = false := by
      cases ok with
      | false => rfl
      | true => exact absurd (hok.mp rfl) nc
    walk_at "rx"
    refine iteT ?_
    walk_at "rx"
    exact ⟨x, _, _, rfl, s2 _ _ hx1, T.y_NoMove, T.v_NoMove, only_move T, fun H3 s3 => q _ (s1.trans (s2.trans s3))⟩
theorem ok_law_wider (T : Txt K mg) : FnOk P w K mg base CX0 9 T.d_law_wider.f T.d_law_wider.fd ["_law_wheel", "_law_one", "_law_by", "_law_many"] (sp_move T.C_Wheel) := by
  refine T.d_law_wider.ok sc_law_wider (fun vs H Q E h => ?_) (fun cdv A outer s H vs Q E hr h => ?_)
  · obtain ⟨g, b, j, m, f, rfl, _⟩ := h
    rfl
  obtain ⟨g, b, j, m, f, rfl, hW, m1, m2, hb, hf, q⟩ := h
  refine ⟨_, (pss_cons (ps_asg (pe_dfF T.d_law_asked (ok_law_asked T) (hr.mono (by decide)) rfl (paF (pv 0) (paF (pv 1) (paF (pv 2) (paF pe_int pa_nil))))) (pg_tup rfl (pgs_cons (pg_name (i := 4) sc_law_wider.nd rfl (Or.inl rfl)) (pgs_cons (pg_name (i := 5) sc_law_wider.nd rfl (Or.inl rfl)) pgs_nil))))
      (pss_cons (ps_if (PW.pt (pw_or (pt_cmpR op_lt (pv 2) pe_int (nomark _)) (pw_or1 (pt_cmpR op_gt (pe_op op_mul (pv 3) (pv 2)) pe_int (nomark _))))) (pss_one (ps_ret (pe_dfF T.d_law_only (ok_law_only T) (hr.mono (by decide)) rfl (paF (pv 5) (paF pe_str pa_nil))))) pss_nil)
      (pss_cons (ps_set (i := 6) sc_law_wider.nd rfl (Or.inl rfl) (pe_op op_mul (pv 3) (pv 2)))
      (pss_cons (ps_set (i := 7) sc_law_wider.nd rfl (Or.inl rfl) (pe_dfF T.d_law_put (ok_law_put T) (hr.mono (by decide)) rfl (paF (pv 1) (paF (pv 2) (paF (pv 6) pa_nil)))))
      (pss_cons (ps_if (PW.pt (pw_or (pt_cmp (pc_notN (pv 5))) (pw_or1 (pt_not (pt_val (pe_dfF T.d_law_is (ok_law_is T) (hr.mono (by decide)) rfl (paF (pv 4) (paF (pv 7) (paF (pv 6) pa_nil))))))))) (pss_one (ps_ret pe_bl)) pss_nil)
      (pss_cons (ps_expr (pe_bmF K rfl PySem.F.plainAttrs_list PySem.F.slot_list_append PySem.F.type_list_append mt_append (pv 4) (paF pe_int pa_nil)))
      (pss_one (ps_ret (pe_dfF T.d_law_is (ok_law_is T) (hr.mono (by decide)) rfl (paF (pe_methF (pv 0) T.k_Wheel T.e_Wheel_wider (ok_Wheel_wider T) (hr.mono (by decide)) T.b_Wheel_wider (paF (pv 1) (paF (pv 2) pa_nil))) (paF (pv 7) (paF (pv 6) pa_nil)))))))))))), ?_⟩
  walk_at "rx"
  by_cases nc : 1 ≤ j ∧ (m : Int) * j ≤ 60
  · obtain ⟨u, rfl⟩ : ∃ n : Nat, j = (n : Int) := ⟨j.toNat, by omega⟩
    have u1 : 1 ≤ u := by omega
    have mu : m * u ≤ 60 := by
      have := nc.2
      rw [← Int.natCast_mul] at this
      omega
    have mu1 : 1 ≤ m * u := Nat.mul_pos (by omega) (by omega)
    have u60 : u ≤ 60 := Nat.le_trans (Nat.le_mul_of_pos_left u (by omega)) mu
    have okm := (wheel_all (m * u) (by omega)).resolve_left (by omega)
    have W := wheelOk_of okm.1
    have dm := okm.2.1
    have hpr := okm.2.2
    have ll : ∀ l : List Int, (lowL (m * u) l).length ≤ 1000 := fun l => by rw [lowL_len W dm l]; omega
    have tl := layTo_len (m * u) (u : Int) 0 f
    refine ⟨g, b, (u : Int), 1, m, f, rfl, hW, m1, m2, hb, by omega, .inr (.inr (.inl ⟨rfl, u, rfl, u1, u60, mu, fun t r H1 s1 fr ht hr1 => ?_⟩))⟩
    refine r_tup2 ht ?_
    walk_at "rx"
    walk_at "ifs"
    walk_at "rx"
    refine rd_if (fun c => absurd c (by omega)) (fun _ => ?_)
    walk_at "rx"
    refine rd_if (fun c => absurd c (by omega)) (fun _ => ?_)
    walk_at "rx"
    refine ⟨_, (u : Int), m * u, f, rfl, at_z (s1 _ _ hb), by omega, mu1, mu, fun c H3 fc s3 h3 => ?_⟩
    have nrc : c ≠ r := fun e => by rw [e, hr1] at fc; cases fc
    walk_at "rx"
    walk_at "ifs"
    walk_at "rx"
    refine iteF ?_
    walk_at "rx"
    refine ⟨r, _, _, m * u, rfl, s3 _ _ hr1, at_z h3, by omega, mu1, mu, W, dm, hpr, fun H4 s4 => ?_⟩
    have s14 := s3.trans s4
    walk_at "rx"
    refine iteF ?_
    walk_at "rx"
    have h4 := s14 _ _ hr1
    refine ⟨.inl ⟨rfl, _, SqL.of h4⟩, ?_⟩
    walk_at "rx"
    refine ⟨r, _, _, rfl, rfl, h4, app_ok (ll _), ?_⟩
    have s5 : Same H (upd H4 r (.lst (zsV (lowL (m * u) (layTo (m * u) u 0 f)) ++ [.int ((1 : Nat) : Int)]))) := same_tmp fr (s1.trans s14)
    have h5 : (upd H4 r (.lst (zsV (lowL (m * u) (layTo (m * u) u 0 f)) ++ [.int ((1 : Nat) : Int)]))) c = some (.lst (zsV (layTo (m * u) u 0 f))) := by rw [upd_ne nrc]; exact s4 _ _ h3
    generalize upd H4 r (.lst (zsV (lowL (m * u) (layTo (m * u) u 0 f)) ++ [.int ((1 : Nat) : Int)])) = H5 at s5 h5
    have hW5 := hW.mono s5
    obtain ⟨dx, rr, hg, _⟩ := id hW5
    walk_at "rx"
    refine r_meth ?_
    walk_at "rx"
    refine ⟨g, dx, _, rfl, hg, rfl, ?_⟩
    walk_at "rx"
    refine ⟨g, _, u, m, f, rfl, hW5, m1, u1, u60, mu, at_z (s5 _ _ hb), by omega, fun r6 H6 fr6 s6 h6 => ?_⟩
    walk_at "rx"
    exact ⟨r6, _, _, m * u, rfl, h6, at_z (s6 _ _ h5), by omega, mu1, mu, W, dm, hpr, fun H7 s7 => q _ (s5.trans (s6.trans s7))⟩
  · have bm : BadM ((m : Int) * j) := by
      rcases Int.lt_or_le j 1 with z | z
      · left
        have : (m : Int) * j ≤ (m : Int) * 0 := Int.mul_le_mul_of_nonneg_left (by omega) (by omega)
        omega
      · right
        exact Int.not_le.mp fun y => nc ⟨z, y⟩
    refine ⟨g, b, j, 1, m, f, rfl, hW, m1, m2, hb, by omega, .inr (.inr (.inr ⟨rfl, bm, fun t x H1 s1 ht hx1 => ?_⟩))⟩
    refine r_tup2 ht ?_
    walk_at "rx"
    walk_at "ifs"
    walk_at "rx"
    refine rd_if (fun c => ?_) (fun c => ?_)
    · walk_at "rx"
      exact ⟨x, _, _, rfl, hx1, T.y_BadWheel, T.v_BadWheel, only_wheel T, fun H3 s3 => q _ (s1.trans s3)⟩
    · walk_at "rx"
      refine r_rI (.inl ⟨by omega, by omega⟩) ?_
      walk_at "rx"
      refine rd_if (fun c2 => ?_) (fun c2 => absurd ⟨by omega, Int.not_lt.mp c2⟩ nc)
      walk_at "rx"
      exact ⟨x, _, _, rfl, hx1, T.y_BadWheel, T.v_BadWheel, only_wheel T, fun H3 s3 => q _ (s1.trans s3)⟩
def spLaw (K : PySem.W.Frag) : Sp := fun vs H Q _ => ∃ (a : Addr) (ns : List Int), vs = [.ref a] ∧ SqL K H a (ns.map V.int) ∧ ns.length ≤ 63 ∧ ∀ H', Q (.bl true) H'
theorem cutV_z (l : List Int) (lo hi : Option Int) : cutV (l.map V.int) lo hi = zsV (cut l lo hi) := by
  unfold cutV cut zsV
  simp
theorem ok_law (T : Txt K mg) : FnOk P w K mg base CX0 12 T.d_law.f T.d_law.fd ["_law_script"] (spLaw K) := by
  refine T.d_law.ok sc_law (fun vs H Q E h => ?_) (fun cdv A outer s H vs Q E hr h => ?_)
  · obtain ⟨a, ns, rfl, _⟩ := h
    rfl
  obtain ⟨a, ns, rfl, hS, h63, q⟩ := h
  have hA : At K H (.ref a) ns := ⟨a, _, rfl, hS, zs_of⟩
  refine ⟨_, (pss_cons (ps_set (i := 1) sc_law.nd rfl (Or.inl rfl) (pe_dfF T.d_law_spokes (ok_law_spokes T) (hr.mono (by decide)) rfl (paF (pe_dfF T.d_law_at (ok_law_at T) (hr.mono (by decide)) rfl (paF (pv 0) (paF pe_int pa_nil))) pa_nil)))
      (pss_cons (ps_setComp (i := 2) rfl sc_law.nd rfl (Or.inl rfl) cs_law_0 (pi_range1F rfl T.z_range (paF (pe_dfF T.d_law_degree (ok_law_degree T) (hr.mono (by decide)) rfl (paF (pv 1) pa_nil)) pa_nil)) (fun _ _ _ _ => ⟨(pg_name (i := 0) cs_law_0.nd rfl (Or.inl rfl)), pif_nil, (pe_dfF T.d_law_number (ok_law_number T) (hr.mono (by decide)) rfl (paF (pe_slice (sl_listK K rfl) (pv 1) (po_some pe_int) (po_some pe_int)) (paF (pv 0) pa_nil)))⟩) rfl)
      (pss_cons (ps_set (i := 3) sc_law.nd rfl (Or.inl rfl) (pe_callTyF (call_listK K rfl) rfl T.z_list PyProof.Rows.boot_list (paF (pv 2) pa_nil)))
      (pss_cons (ps_set (i := 4) sc_law.nd rfl (Or.inl rfl) (pe_makeF T.m_Wheel (ok_Wheel T) (hr.mono (by decide)) rfl T.c_Wheel T.b_Wheel .nil pass0 (paF (pv 1) pa_nil)))
      (pss_cons (ps_for PassesOwn.never rfl (pi_listK K rfl (pe_op op_cat (pe_slice (sl_listK K rfl) (pv 0) (po_some pe_int) (po_some pe_int)) (pe_lst (pa_intsP [183, 200, 6] (by decide +kernel)).out))) (pg_name (i := 5) sc_law.nd rfl (Or.inl rfl)) (pss_cons (ps_if (pt_not (pt_val (pe_dfF T.d_law_moved (ok_law_moved T) (hr.mono (by decide)) rfl (paF (pv 4) (paF (pv 2) (paF (pe_dfF T.d_law_step (ok_law_step T) (hr.mono (by decide)) rfl (paF (pv 5) pa_nil)) (paF (pv 1) pa_nil))))))) (pss_one (ps_ret pe_bl)) pss_nil)
      (pss_cons (ps_if (pt_not (pt_val (pe_dfF T.d_law_wider (ok_law_wider T) (hr.mono (by decide)) rfl (paF (pv 4) (paF (pv 2) (paF (pe_dfF T.d_law_width (ok_law_width T) (hr.mono (by decide)) rfl (paF (pv 5) (paF (pv 1) pa_nil))) (paF (pv 1) pa_nil))))))) (pss_one (ps_ret pe_bl)) pss_nil)
      (pss_one (ps_if (pt_cmpR (op_neLK K rfl Int hr.units) (pv 2) (pv 3) (nomark _)) (pss_one (ps_ret pe_bl)) pss_nil)))))
      (pss_one (ps_ret (pe_and (pe_cmpR op_eq (pe_fldK K rfl (pv 4) rfl) (pv 1) (nomark _)) (pe_one (pe_cmpR op_eq (pe_fldK K rfl (pv 4) rfl) (pe_callBF (call_lenK K rfl) rfl T.z_len PySem.boot_len (paF (pv 3) pa_nil)) (nomark _))))))))))), ?_⟩
  walk_at "rx"
  refine ⟨_, ns, 0, rfl, hA, fun z0 => ?_⟩
  walk_at "rx"
  refine ⟨z0, rfl, fun m m1 m2 => ?_⟩
  have okm : wheelOk m = true ∧ degL m ≤ m ∧ ∀ p ∈ primesL m, 1 ≤ m / p ∧ m / p ≤ m ∧ 0 < p ∧ p ≤ 1000 := (wheel_all m (by omega)).resolve_left (by omega)
  have W := wheelOk_of okm.1
  have dm := okm.2.1
  have hpr := okm.2.2
  walk_at "rx"
  refine ⟨m, rfl, m1, m2, fun p hp => (hpr p hp).2.2.1, fun H0 s0 => ?_⟩
  have hA0 := Rep.mono s0 hA
  walk_at "rx"
  refine rd_crangeR (n := degL m) rfl (by omega) (fun d i σ' H' ys => Same H0 H' ∧ ∃ (x : Option V) (l : List Int), ys = zsV l ∧ l.length = i ∧ σ' = [x, some (.ref a)])
    (fun d i σ' H' ys hi ⟨_, x, l, e, e2, _⟩ => by rw [e]; unfold zsV; rw [List.length_map, e2]; exact Nat.le_refl _) (fun d hd => ⟨same_new hd _, _, [], rfl, rfl, rfl⟩) ?_ ?_
  · rintro d i σ' H1 ys R R0 hd hi ⟨s1, x, l, rfl, hl, rfl⟩ hys hR hR0
    have hA1 := Rep.mono s1 hA0
    walk_at "rx"
    refine r_slice hA1 fun p H2 s2 hp a2 => ?_
    walk_at "rx"
    refine ⟨_, _, i, rfl, a2, by unfold cut; simp; omega, by omega, fun z _ => ?_⟩
    refine hR _ _ _ (s2 _ _ hys) ⟨fun b o zz => by rw [upd_ne (ne_of_none zz hd)]; exact s2 _ _ (s1 _ _ zz), _, l ++ [z], ?_, by rw [List.length_append, hl]; rfl, rfl⟩
    unfold zsV
    rw [List.map_append]
    rfl
  rintro d1 σ1 H1 ys fd1 hd1 ⟨s1, x, l1, rfl, hl1, rfl⟩
  walk_at "rx"
  refine r_copyZ (at_z hd1) fun c1 hc1 => ?_
  have t1 := same_new hc1 (.lst (zsV l1))
  have k1 : (upd H1 c1 (.lst (zsV l1))) c1 = some (.lst (zsV l1)) := upd_same
  generalize upd H1 c1 (.lst (zsV l1)) = H2 at t1 k1
  have one2 := t1 _ _ hd1
  have s02 := s0.trans (s1.trans t1)
  walk_at "rx"
  intro g dx1 hx1 hdx1 hne1
  refine ⟨g, dx1, m, rfl, upd_same, m1, m2, okm.1, fun r1 H3 fr1 hg1 hr1 kk => ⟨rfl, ?_⟩⟩
  have s3 : Same H2 H3 := fun b o z => kk b o (by rw [upd_ne (ne_of_none z hx1), upd_ne (ne_of_none z hdx1)]; exact z) (ne_of_none z hx1)
  have hW : WhAt T.C_Wheel H3 g m := ⟨dx1, r1, hg1, hr1⟩
  have one3 := s3 _ _ one2
  have held3 := s3 _ _ k1
  have s03 := s02.trans s3
  walk_at "rx"
  refine ⟨a, _, rfl, s03.seq hS, fun p7 hp7 => ?_⟩
  rw [cutV_z]
  have cl : (cut ns (some ((2 : Nat) : Int)) (some ((63 : Nat) : Int))).length ≤ 63 := by
    unfold cut
    simp
    omega
  have s7 := same_new hp7 (.lst (zsV (cut ns (some ((2 : Nat) : Int)) (some ((63 : Nat) : Int)))))
  have h7 : (upd H3 p7 (.lst (zsV (cut ns (some ((2 : Nat) : Int)) (some ((63 : Nat) : Int)))))) p7 = some (.lst (zsV (cut ns (some ((2 : Nat) : Int)) (some ((63 : Nat) : Int))))) := upd_same
  generalize upd H3 p7 (.lst (zsV (cut ns (some ((2 : Nat) : Int)) (some ((63 : Nat) : Int))))) = H7 at s7 h7
  generalize cut ns (some ((2 : Nat) : Int)) (some ((63 : Nat) : Int)) = cs at h7 cl
  walk_at "rx"
  refine r_lst ?_
  walk_at "rx"
  refine ⟨small (by show 3 ≤ 1000; decide), fun p6 hp6 => ?_⟩
  have s6 := same_new hp6 (.lst [.int ((183 : Nat) : Int), .int ((200 : Nat) : Int), .int ((6 : Nat) : Int)])
  have h6 : (upd H7 p6 (.lst [.int ((183 : Nat) : Int), .int ((200 : Nat) : Int), .int ((6 : Nat) : Int)])) p6 = some (.lst (zsV [183, 200, 6])) := upd_same
  generalize upd H7 p6 (.lst [.int ((183 : Nat) : Int), .int ((200 : Nat) : Int), .int ((6 : Nat) : Int)]) = H6 at s6 h6
  refine ⟨p7, p6, _, _, rfl, rfl, s6 _ _ h7, h6, ?_, fun p8 hp8 => ?_⟩
  · unfold zsV
    rw [sizeLine_eq]
    simp
    omega
  have s8 := same_new hp8 (.lst (zsV cs ++ zsV [183, 200, 6]))
  have h8 : (upd H6 p8 (.lst (zsV cs ++ zsV [183, 200, 6]))) p8 = some (.lst (zsV (cs ++ [183, 200, 6]))) := by
    rw [upd_same]; unfold zsV; rw [List.map_append]
  have s38 := s7.trans (s6.trans s8)
  generalize upd H6 p8 (.lst (zsV cs ++ zsV [183, 200, 6])) = H8 at h8 s38
  have one8 := s38 _ _ one3
  have held8 := s38 _ _ held3
  have hW8 := hW.mono s38
  have a8 : At K H8 (.ref p8) (cs ++ [183, 200, 6]) := at_z h8
  walk_at "rx"
  refine rd_list a8 (fun i σ' H' => Same H8 H' ∧ ∃ x : Option V, σ' = [some (.ref a), some (.int (m : Int)), some (.ref d1), some (.ref c1), some (.ref g), x]) ⟨Same.refl _, _, rfl⟩ (fun i σ' H' z => z.1) ?_ ?_
  · rintro i c w' σ' H9 hi hc ⟨s9, x, rfl⟩
    cases (show w' = V.int c from hc)
    walk_at "rx"
    walk_at "ifs"
    walk_at "rx"
    refine ⟨c, rfl, fun j => ?_⟩
    walk_at "rx"
    refine ⟨g, d1, j, m, l1, rfl, hW8.mono s9, m1, m2, s9 _ _ one8, by omega, fun H10 s10 => ?_⟩
    have s810 := s9.trans s10
    walk_at "rx"
    refine iteF ?_
    walk_at "rx"
    walk_at "ifs"
    walk_at "rx"
    refine ⟨c, m, rfl, m1, m2, fun j2 => ?_⟩
    walk_at "rx"
    refine ⟨g, d1, j2, m, l1, rfl, hW8.mono s810, m1, m2, s810 _ _ one8, by omega, fun H11 s11 => ?_⟩
    have s811 := s810.trans s11
    walk_at "rx"
    refine iteF ?_
    walk_at "rx"
    walk_at "ifs"
    walk_at "rx"
    refine r_neL (at_z (s811 _ _ one8)) (at_z (s811 _ _ held8)) ?_
    walk_at "rx"
    refine rd_ifn (fun c => absurd rfl c) (fun _ => ?_)
    walk_at "rx"
    exact ⟨s811, _, rfl⟩
  rintro σ' H9 ⟨s9, x, rfl⟩
  obtain ⟨dxc, rc, gc, hrc⟩ := id (hW8.mono s9)
  walk_at "rx"
  refine ⟨g, T.C_Wheel, dxc, _, _, rfl, gc, T.k_Wheel, T.n_Wheel_spokes, rfl, ?_⟩
  walk_at "rx"
  refine rd_if (fun _ => ?_) (fun c => absurd rfl c)
  walk_at "rx"
  refine ⟨g, T.C_Wheel, dxc, _, _, rfl, gc, T.k_Wheel, T.n_Wheel_size, rfl, ?_⟩
  walk_at "rx"
  refine r_len (l := l1) (at_z (s9 _ _ held8)) ?_
  walk_at "rx"
  rw [decide_eq_true (show (circ m).length - 1 = l1.length by rw [W.len, hl1]; rfl)]
  exact q _
end

theorem all_mk {l : PySem.W.OpenLaw} {w : World} {K : PySem.W.Frag} {h : Heap} {mg : Str → Option Value} {fa : Addr} (X : K.In h) (G : h.Ns mainGlobals mg) (hfa : mg "law" = some (.ref fa))
    {f1 : Addr} {od1 an1 : Option Addr} {sl1 : Array (Option Value)} {oc1 kV1 dc1 pm1 cd1 ct1 : Value}
    {f2 : Addr} {od2 an2 : Option Addr} {sl2 : Array (Option Value)} {oc2 kV2 dc2 pm2 cd2 ct2 : Value}
    {f3 : Addr} {od3 an3 : Option Addr} {sl3 : Array (Option Value)} {oc3 kV3 dc3 pm3 cd3 ct3 : Value}
    {f4 : Addr} {od4 an4 : Option Addr} {sl4 : Array (Option Value)} {oc4 kV4 dc4 pm4 cd4 ct4 : Value}
    {f5 : Addr} {od5 an5 : Option Addr} {sl5 : Array (Option Value)} {oc5 kV5 dc5 pm5 cd5 ct5 : Value}
    {f6 : Addr} {od6 an6 : Option Addr} {sl6 : Array (Option Value)} {oc6 kV6 dc6 pm6 cd6 ct6 : Value}
    {f7 : Addr} {od7 an7 : Option Addr} {sl7 : Array (Option Value)} {oc7 kV7 dc7 pm7 cd7 ct7 : Value}
    {f8 : Addr} {od8 an8 : Option Addr} {sl8 : Array (Option Value)} {oc8 kV8 dc8 pm8 cd8 ct8 : Value}
    {f9 : Addr} {od9 an9 : Option Addr} {sl9 : Array (Option Value)} {oc9 kV9 dc9 pm9 cd9 ct9 : Value}
    {f10 : Addr} {od10 an10 : Option Addr} {sl10 : Array (Option Value)} {oc10 kV10 dc10 pm10 cd10 ct10 : Value}
    {f11 : Addr} {od11 an11 : Option Addr} {sl11 : Array (Option Value)} {oc11 kV11 dc11 pm11 cd11 ct11 : Value}
    {f12 : Addr} {od12 an12 : Option Addr} {sl12 : Array (Option Value)} {oc12 kV12 dc12 pm12 cd12 ct12 : Value}
    {f13 : Addr} {od13 an13 : Option Addr} {sl13 : Array (Option Value)} {oc13 kV13 dc13 pm13 cd13 ct13 : Value}
    {f14 : Addr} {od14 an14 : Option Addr} {sl14 : Array (Option Value)} {oc14 kV14 dc14 pm14 cd14 ct14 : Value}
    {f15 : Addr} {od15 an15 : Option Addr} {sl15 : Array (Option Value)} {oc15 kV15 dc15 pm15 cd15 ct15 : Value}
    {f16 : Addr} {od16 an16 : Option Addr} {sl16 : Array (Option Value)} {oc16 kV16 dc16 pm16 cd16 ct16 : Value}
    {f17 : Addr} {od17 an17 : Option Addr} {sl17 : Array (Option Value)} {oc17 kV17 dc17 pm17 cd17 ct17 : Value}
    {f18 : Addr} {od18 an18 : Option Addr} {sl18 : Array (Option Value)} {oc18 kV18 dc18 pm18 cd18 ct18 : Value}
    {f19 : Addr} {od19 an19 : Option Addr} {sl19 : Array (Option Value)} {oc19 kV19 dc19 pm19 cd19 ct19 : Value}
    {f20 : Addr} {od20 an20 : Option Addr} {sl20 : Array (Option Value)} {oc20 kV20 dc20 pm20 cd20 ct20 : Value}
    {f21 : Addr} {od21 an21 : Option Addr} {sl21 : Array (Option Value)} {oc21 kV21 dc21 pm21 cd21 ct21 : Value}
    {f22 : Addr} {od22 an22 : Option Addr} {sl22 : Array (Option Value)} {oc22 kV22 dc22 pm22 cd22 ct22 : Value}
    {C23 f23 : Addr} {od23 an23 : Option Addr} {sl23 : Array (Option Value)} {oc23 kV23 dc23 pm23 cd23 ct23 : Value}
    {f24 : Addr} {od24 an24 : Option Addr} {sl24 : Array (Option Value)} {oc24 kV24 dc24 pm24 cd24 ct24 : Value}
    {f25 : Addr} {od25 an25 : Option Addr} {sl25 : Array (Option Value)} {oc25 kV25 dc25 pm25 cd25 ct25 : Value}
    {f26 : Addr} {od26 an26 : Option Addr} {sl26 : Array (Option Value)} {oc26 kV26 dc26 pm26 cd26 ct26 : Value}
    {CX_BookError : Addr}
    {CX_BadWheel : Addr}
    {CX_NoMove : Addr}
    {CX_NoPart : Addr}
    {CX_NotSteady : Addr}
    {CX_BadMarks : Addr}
    {CX_NoWay : Addr}
    {CX_OtherGroup : Addr}
    {CX_OtherWheel : Addr}
    {CX_TooGreat : Addr}
    {CX_NotKept : Addr}
    {CX_BadSize : Addr}
    {CX_Stranger : Addr}
    {CX_NoUnit : Addr}
    {CX_NoBack : Addr}
    {CX_NotTogether : Addr}
    {t_MOST_SPOKES : Tok}
    (a1 : PySem.W.nsIn K mainGlobals "check_spokes" = some (some (.ref f1))) (l1 : K.lookup f1 = some ⟨oc1, od1, .func (PySem.W.fnOf "check_spokes" "check_spokes" (defArgs s_check_spokes) (defBody s_check_spokes) (defScope s_check_spokes) .none kV1 dc1 pm1 an1 cd1 ct1), sl1⟩) (c1 : PySem.W.codeIn K cd1 "check_spokes" = true) (k1 : PySem.W.keepIn K (.ref f1) = true)
    (a2 : PySem.W.nsIn K mainGlobals "circle" = some (some (.ref f2))) (l2 : K.lookup f2 = some ⟨oc2, od2, .func (PySem.W.fnOf "circle" "circle" (defArgs s_circle) (defBody s_circle) (defScope s_circle) .none kV2 dc2 pm2 an2 cd2 ct2), sl2⟩) (c2 : PySem.W.codeIn K cd2 "circle" = true) (k2 : PySem.W.keepIn K (.ref f2) = true)
    (a3 : PySem.W.nsIn K mainGlobals "next_circle" = some (some (.ref f3))) (l3 : K.lookup f3 = some ⟨oc3, od3, .func (PySem.W.fnOf "next_circle" "next_circle" (defArgs s_next_circle) (defBody s_next_circle) (defScope s_next_circle) .none kV3 dc3 pm3 an3 cd3 ct3), sl3⟩) (c3 : PySem.W.codeIn K cd3 "next_circle" = true) (k3 : PySem.W.keepIn K (.ref f3) = true)
    (a4 : PySem.W.nsIn K mainGlobals "divided" = some (some (.ref f4))) (l4 : K.lookup f4 = some ⟨oc4, od4, .func (PySem.W.fnOf "divided" "divided" (defArgs s_divided) (defBody s_divided) (defScope s_divided) .none kV4 dc4 pm4 an4 cd4 ct4), sl4⟩) (c4 : PySem.W.codeIn K cd4 "divided" = true) (k4 : PySem.W.keepIn K (.ref f4) = true)
    (a5 : PySem.W.nsIn K mainGlobals "_law_whole" = some (some (.ref f5))) (l5 : K.lookup f5 = some ⟨oc5, od5, .func (PySem.W.fnOf "_law_whole" "_law_whole" (defArgs s_law_whole) (defBody s_law_whole) (defScope s_law_whole) .none kV5 dc5 pm5 an5 cd5 ct5), sl5⟩) (c5 : PySem.W.codeIn K cd5 "_law_whole" = true) (k5 : PySem.W.keepIn K (.ref f5) = true)
    (a6 : PySem.W.nsIn K mainGlobals "_law_at" = some (some (.ref f6))) (l6 : K.lookup f6 = some ⟨oc6, od6, .func (PySem.W.fnOf "_law_at" "_law_at" (defArgs s_law_at) (defBody s_law_at) (defScope s_law_at) .none kV6 dc6 pm6 an6 cd6 ct6), sl6⟩) (c6 : PySem.W.codeIn K cd6 "_law_at" = true) (k6 : PySem.W.keepIn K (.ref f6) = true)
    (a7 : PySem.W.nsIn K mainGlobals "_law_spokes" = some (some (.ref f7))) (l7 : K.lookup f7 = some ⟨oc7, od7, .func (PySem.W.fnOf "_law_spokes" "_law_spokes" (defArgs s_law_spokes) (defBody s_law_spokes) (defScope s_law_spokes) .none kV7 dc7 pm7 an7 cd7 ct7), sl7⟩) (c7 : PySem.W.codeIn K cd7 "_law_spokes" = true) (k7 : PySem.W.keepIn K (.ref f7) = true)
    (a8 : PySem.W.nsIn K mainGlobals "_law_primes" = some (some (.ref f8))) (l8 : K.lookup f8 = some ⟨oc8, od8, .func (PySem.W.fnOf "_law_primes" "_law_primes" (defArgs s_law_primes) (defBody s_law_primes) (defScope s_law_primes) .none kV8 dc8 pm8 an8 cd8 ct8), sl8⟩) (c8 : PySem.W.codeIn K cd8 "_law_primes" = true) (k8 : PySem.W.keepIn K (.ref f8) = true)
    (a9 : PySem.W.nsIn K mainGlobals "_law_nought" = some (some (.ref f9))) (l9 : K.lookup f9 = some ⟨oc9, od9, .func (PySem.W.fnOf "_law_nought" "_law_nought" (defArgs s_law_nought) (defBody s_law_nought) (defScope s_law_nought) .none kV9 dc9 pm9 an9 cd9 ct9), sl9⟩) (c9 : PySem.W.codeIn K cd9 "_law_nought" = true) (k9 : PySem.W.keepIn K (.ref f9) = true)
    (a10 : PySem.W.nsIn K mainGlobals "_law_degree" = some (some (.ref f10))) (l10 : K.lookup f10 = some ⟨oc10, od10, .func (PySem.W.fnOf "_law_degree" "_law_degree" (defArgs s_law_degree) (defBody s_law_degree) (defScope s_law_degree) .none kV10 dc10 pm10 an10 cd10 ct10), sl10⟩) (c10 : PySem.W.codeIn K cd10 "_law_degree" = true) (k10 : PySem.W.keepIn K (.ref f10) = true)
    (a11 : PySem.W.nsIn K mainGlobals "_law_is" = some (some (.ref f11))) (l11 : K.lookup f11 = some ⟨oc11, od11, .func (PySem.W.fnOf "_law_is" "_law_is" (defArgs s_law_is) (defBody s_law_is) (defScope s_law_is) .none kV11 dc11 pm11 an11 cd11 ct11), sl11⟩) (c11 : PySem.W.codeIn K cd11 "_law_is" = true) (k11 : PySem.W.keepIn K (.ref f11) = true)
    (a12 : PySem.W.nsIn K mainGlobals "_law_number" = some (some (.ref f12))) (l12 : K.lookup f12 = some ⟨oc12, od12, .func (PySem.W.fnOf "_law_number" "_law_number" (defArgs s_law_number) (defBody s_law_number) (defScope s_law_number) .none kV12 dc12 pm12 an12 cd12 ct12), sl12⟩) (c12 : PySem.W.codeIn K cd12 "_law_number" = true) (k12 : PySem.W.keepIn K (.ref f12) = true)
    (a13 : PySem.W.nsIn K mainGlobals "_law_flags" = some (some (.ref f13))) (l13 : K.lookup f13 = some ⟨oc13, od13, .func (PySem.W.fnOf "_law_flags" "_law_flags" (defArgs s_law_flags) (defBody s_law_flags) (defScope s_law_flags) .none kV13 dc13 pm13 an13 cd13 ct13), sl13⟩) (c13 : PySem.W.codeIn K cd13 "_law_flags" = true) (k13 : PySem.W.keepIn K (.ref f13) = true)
    (a14 : PySem.W.nsIn K mainGlobals "_law_only" = some (some (.ref f14))) (l14 : K.lookup f14 = some ⟨oc14, od14, .func (PySem.W.fnOf "_law_only" "_law_only" (defArgs s_law_only) (defBody s_law_only) (defScope s_law_only) .none kV14 dc14 pm14 an14 cd14 ct14), sl14⟩) (c14 : PySem.W.codeIn K cd14 "_law_only" = true) (k14 : PySem.W.keepIn K (.ref f14) = true)
    (a15 : PySem.W.nsIn K mainGlobals "_law_step" = some (some (.ref f15))) (l15 : K.lookup f15 = some ⟨oc15, od15, .func (PySem.W.fnOf "_law_step" "_law_step" (defArgs s_law_step) (defBody s_law_step) (defScope s_law_step) .none kV15 dc15 pm15 an15 cd15 ct15), sl15⟩) (c15 : PySem.W.codeIn K cd15 "_law_step" = true) (k15 : PySem.W.keepIn K (.ref f15) = true)
    (a16 : PySem.W.nsIn K mainGlobals "_law_width" = some (some (.ref f16))) (l16 : K.lookup f16 = some ⟨oc16, od16, .func (PySem.W.fnOf "_law_width" "_law_width" (defArgs s_law_width) (defBody s_law_width) (defScope s_law_width) .none kV16 dc16 pm16 an16 cd16 ct16), sl16⟩) (c16 : PySem.W.codeIn K cd16 "_law_width" = true) (k16 : PySem.W.keepIn K (.ref f16) = true)
    (a17 : PySem.W.nsIn K mainGlobals "_law_apart" = some (some (.ref f17))) (l17 : K.lookup f17 = some ⟨oc17, od17, .func (PySem.W.fnOf "_law_apart" "_law_apart" (defArgs s_law_apart) (defBody s_law_apart) (defScope s_law_apart) .none kV17 dc17 pm17 an17 cd17 ct17), sl17⟩) (c17 : PySem.W.codeIn K cd17 "_law_apart" = true) (k17 : PySem.W.keepIn K (.ref f17) = true)
    (a18 : PySem.W.nsIn K mainGlobals "_law_put" = some (some (.ref f18))) (l18 : K.lookup f18 = some ⟨oc18, od18, .func (PySem.W.fnOf "_law_put" "_law_put" (defArgs s_law_put) (defBody s_law_put) (defScope s_law_put) .none kV18 dc18 pm18 an18 cd18 ct18), sl18⟩) (c18 : PySem.W.codeIn K cd18 "_law_put" = true) (k18 : PySem.W.keepIn K (.ref f18) = true)
    (a19 : PySem.W.nsIn K mainGlobals "_law_asked" = some (some (.ref f19))) (l19 : K.lookup f19 = some ⟨oc19, od19, .func (PySem.W.fnOf "_law_asked" "_law_asked" (defArgs s_law_asked) (defBody s_law_asked) (defScope s_law_asked) .none kV19 dc19 pm19 an19 cd19 ct19), sl19⟩) (c19 : PySem.W.codeIn K cd19 "_law_asked" = true) (k19 : PySem.W.keepIn K (.ref f19) = true)
    (a20 : PySem.W.nsIn K mainGlobals "_law_moved" = some (some (.ref f20))) (l20 : K.lookup f20 = some ⟨oc20, od20, .func (PySem.W.fnOf "_law_moved" "_law_moved" (defArgs s_law_moved) (defBody s_law_moved) (defScope s_law_moved) .none kV20 dc20 pm20 an20 cd20 ct20), sl20⟩) (c20 : PySem.W.codeIn K cd20 "_law_moved" = true) (k20 : PySem.W.keepIn K (.ref f20) = true)
    (a21 : PySem.W.nsIn K mainGlobals "_law_wider" = some (some (.ref f21))) (l21 : K.lookup f21 = some ⟨oc21, od21, .func (PySem.W.fnOf "_law_wider" "_law_wider" (defArgs s_law_wider) (defBody s_law_wider) (defScope s_law_wider) .none kV21 dc21 pm21 an21 cd21 ct21), sl21⟩) (c21 : PySem.W.codeIn K cd21 "_law_wider" = true) (k21 : PySem.W.keepIn K (.ref f21) = true)
    (a22 : PySem.W.nsIn K mainGlobals "law" = some (some (.ref f22))) (l22 : K.lookup f22 = some ⟨oc22, od22, .func (PySem.W.fnOf "law" "law" (defArgs s_law) (defBody s_law) (defScope s_law) .none kV22 dc22 pm22 an22 cd22 ct22), sl22⟩) (c22 : PySem.W.codeIn K cd22 "law" = true) (k22 : PySem.W.keepIn K (.ref f22) = true)
    (aC23 : PySem.W.nsIn K mainGlobals "Wheel" = some (some (.ref C23))) (a23 : PySem.W.findIn K (.ref C23) "__init__" = some (some (.ref f23))) (i23 : PySem.W.isFn K (.ref f23) = true) (l23 : K.lookup f23 = some ⟨oc23, od23, .func (PySem.W.fnOf "__init__" "Wheel.__init__" (defArgs s_Wheel_init) (defBody s_Wheel_init) (defScope s_Wheel_init) .none kV23 dc23 pm23 an23 cd23 ct23), sl23⟩) (c23 : PySem.W.codeIn K cd23 "Wheel.__init__" = true) (k23 : PySem.W.keepIn K (.ref f23) = true) (pg23 : PySem.W.plainGet K C23 Str.empty = true) (hd23 : PySem.W.hasDictIn K C23 = true) (po23 : PySem.W.plainOver K C23 = true) (sa23 : PySem.W.findIn K (.ref C23) "__setattr__" = some (some (.builtin "object.__setattr__"))) (mk23 : PySem.W.makesIn K C23 = true) (kc23 : PySem.W.keepIn K (.ref C23) = true)
    (n23_rim : PySem.W.findIn K (.ref C23) "rim" = some none)
    (n23_spokes : PySem.W.findIn K (.ref C23) "spokes" = some none)
    (n23_size : PySem.W.findIn K (.ref C23) "size" = some none)
    (a24 : PySem.W.findIn K (.ref C23) "laid" = some (some (.ref f24))) (i24 : PySem.W.isFn K (.ref f24) = true) (l24 : K.lookup f24 = some ⟨oc24, od24, .func (PySem.W.fnOf "laid" "Wheel.laid" (defArgs s_Wheel_laid) (defBody s_Wheel_laid) (defScope s_Wheel_laid) .none kV24 dc24 pm24 an24 cd24 ct24), sl24⟩) (c24 : PySem.W.codeIn K cd24 "Wheel.laid" = true) (k24 : PySem.W.keepIn K (.ref f24) = true)
    (a25 : PySem.W.findIn K (.ref C23) "moved" = some (some (.ref f25))) (i25 : PySem.W.isFn K (.ref f25) = true) (l25 : K.lookup f25 = some ⟨oc25, od25, .func (PySem.W.fnOf "moved" "Wheel.moved" (defArgs s_Wheel_moved) (defBody s_Wheel_moved) (defScope s_Wheel_moved) .none kV25 dc25 pm25 an25 cd25 ct25), sl25⟩) (c25 : PySem.W.codeIn K cd25 "Wheel.moved" = true) (k25 : PySem.W.keepIn K (.ref f25) = true)
    (a26 : PySem.W.findIn K (.ref C23) "wider" = some (some (.ref f26))) (i26 : PySem.W.isFn K (.ref f26) = true) (l26 : K.lookup f26 = some ⟨oc26, od26, .func (PySem.W.fnOf "wider" "Wheel.wider" (defArgs s_Wheel_wider) (defBody s_Wheel_wider) (defScope s_Wheel_wider) .none kV26 dc26 pm26 an26 cd26 ct26), sl26⟩) (c26 : PySem.W.codeIn K cd26 "Wheel.wider" = true) (k26 : PySem.W.keepIn K (.ref f26) = true)
    (aX_BookError : PySem.W.nsIn K mainGlobals "BookError" = some (some (.ref CX_BookError)))
    (aX_BadWheel : PySem.W.nsIn K mainGlobals "BadWheel" = some (some (.ref CX_BadWheel)))
    (aX_NoMove : PySem.W.nsIn K mainGlobals "NoMove" = some (some (.ref CX_NoMove)))
    (aX_NoPart : PySem.W.nsIn K mainGlobals "NoPart" = some (some (.ref CX_NoPart)))
    (aX_NotSteady : PySem.W.nsIn K mainGlobals "NotSteady" = some (some (.ref CX_NotSteady)))
    (aX_BadMarks : PySem.W.nsIn K mainGlobals "BadMarks" = some (some (.ref CX_BadMarks)))
    (aX_NoWay : PySem.W.nsIn K mainGlobals "NoWay" = some (some (.ref CX_NoWay)))
    (aX_OtherGroup : PySem.W.nsIn K mainGlobals "OtherGroup" = some (some (.ref CX_OtherGroup)))
    (aX_OtherWheel : PySem.W.nsIn K mainGlobals "OtherWheel" = some (some (.ref CX_OtherWheel)))
    (aX_TooGreat : PySem.W.nsIn K mainGlobals "TooGreat" = some (some (.ref CX_TooGreat)))
    (aX_NotKept : PySem.W.nsIn K mainGlobals "NotKept" = some (some (.ref CX_NotKept)))
    (aX_BadSize : PySem.W.nsIn K mainGlobals "BadSize" = some (some (.ref CX_BadSize)))
    (aX_Stranger : PySem.W.nsIn K mainGlobals "Stranger" = some (some (.ref CX_Stranger)))
    (aX_NoUnit : PySem.W.nsIn K mainGlobals "NoUnit" = some (some (.ref CX_NoUnit)))
    (aX_NoBack : PySem.W.nsIn K mainGlobals "NoBack" = some (some (.ref CX_NoBack)))
    (aX_NotTogether : PySem.W.nsIn K mainGlobals "NotTogether" = some (some (.ref CX_NotTogether)))
    (x_BadWheel : PySem.W.excIn K CX_BadWheel bmV newV = true)
    (y_BadWheel : ExcCls K CX_BadWheel)
    (e_BadWheel : PySem.W.exmOne K (.ref CX_BadWheel) (.ref CX_BookError) = some true)
    (x_NoMove : PySem.W.excIn K CX_NoMove bmV newV = true)
    (y_NoMove : ExcCls K CX_NoMove)
    (e_NoMove : PySem.W.exmOne K (.ref CX_NoMove) (.ref CX_BookError) = some true)
    (v_NoMove : PySem.W.kitOne K (.ref CX_NoMove) (.type "ValueError") = some true)
    (f_NoMove_NoPart : PySem.W.kitOne K (.ref CX_NoMove) (.ref CX_NoPart) = some false)
    (f_NoMove_NotSteady : PySem.W.kitOne K (.ref CX_NoMove) (.ref CX_NotSteady) = some false)
    (f_NoMove_BadWheel : PySem.W.kitOne K (.ref CX_NoMove) (.ref CX_BadWheel) = some false)
    (f_NoMove_BadMarks : PySem.W.kitOne K (.ref CX_NoMove) (.ref CX_BadMarks) = some false)
    (f_NoMove_NoWay : PySem.W.kitOne K (.ref CX_NoMove) (.ref CX_NoWay) = some false)
    (f_NoMove_OtherGroup : PySem.W.kitOne K (.ref CX_NoMove) (.ref CX_OtherGroup) = some false)
    (f_NoMove_OtherWheel : PySem.W.kitOne K (.ref CX_NoMove) (.ref CX_OtherWheel) = some false)
    (f_NoMove_TooGreat : PySem.W.kitOne K (.ref CX_NoMove) (.ref CX_TooGreat) = some false)
    (f_NoMove_NotKept : PySem.W.kitOne K (.ref CX_NoMove) (.ref CX_NotKept) = some false)
    (f_NoMove_BadSize : PySem.W.kitOne K (.ref CX_NoMove) (.ref CX_BadSize) = some false)
    (f_NoMove_Stranger : PySem.W.kitOne K (.ref CX_NoMove) (.ref CX_Stranger) = some false)
    (f_NoMove_NoUnit : PySem.W.kitOne K (.ref CX_NoMove) (.ref CX_NoUnit) = some false)
    (f_NoMove_NoBack : PySem.W.kitOne K (.ref CX_NoMove) (.ref CX_NoBack) = some false)
    (f_NoMove_NotTogether : PySem.W.kitOne K (.ref CX_NoMove) (.ref CX_NotTogether) = some false)
    (v_BadWheel : PySem.W.kitOne K (.ref CX_BadWheel) (.type "ValueError") = some true)
    (f_BadWheel_NoPart : PySem.W.kitOne K (.ref CX_BadWheel) (.ref CX_NoPart) = some false)
    (f_BadWheel_NotSteady : PySem.W.kitOne K (.ref CX_BadWheel) (.ref CX_NotSteady) = some false)
    (f_BadWheel_NoMove : PySem.W.kitOne K (.ref CX_BadWheel) (.ref CX_NoMove) = some false)
    (f_BadWheel_BadMarks : PySem.W.kitOne K (.ref CX_BadWheel) (.ref CX_BadMarks) = some false)
    (f_BadWheel_NoWay : PySem.W.kitOne K (.ref CX_BadWheel) (.ref CX_NoWay) = some false)
    (f_BadWheel_OtherGroup : PySem.W.kitOne K (.ref CX_BadWheel) (.ref CX_OtherGroup) = some false)
    (f_BadWheel_OtherWheel : PySem.W.kitOne K (.ref CX_BadWheel) (.ref CX_OtherWheel) = some false)
    (f_BadWheel_TooGreat : PySem.W.kitOne K (.ref CX_BadWheel) (.ref CX_TooGreat) = some false)
    (f_BadWheel_NotKept : PySem.W.kitOne K (.ref CX_BadWheel) (.ref CX_NotKept) = some false)
    (f_BadWheel_BadSize : PySem.W.kitOne K (.ref CX_BadWheel) (.ref CX_BadSize) = some false)
    (f_BadWheel_Stranger : PySem.W.kitOne K (.ref CX_BadWheel) (.ref CX_Stranger) = some false)
    (f_BadWheel_NoUnit : PySem.W.kitOne K (.ref CX_BadWheel) (.ref CX_NoUnit) = some false)
    (f_BadWheel_NoBack : PySem.W.kitOne K (.ref CX_BadWheel) (.ref CX_NoBack) = some false)
    (f_BadWheel_NotTogether : PySem.W.kitOne K (.ref CX_BadWheel) (.ref CX_NotTogether) = some false)
    (g_MOST_SPOKES : PySem.W.nsIn K mainGlobals "MOST_SPOKES" = some (some (.int 60 t_MOST_SPOKES)))
    (z_ValueError : PySem.W.nsIn K mainGlobals "ValueError" = some none)
    (z_all : PySem.W.nsIn K mainGlobals "all" = some none)
    (z_bool : PySem.W.nsIn K mainGlobals "bool" = some none)
    (z_enumerate : PySem.W.nsIn K mainGlobals "enumerate" = some none)
    (z_int : PySem.W.nsIn K mainGlobals "int" = some none)
    (z_isinstance : PySem.W.nsIn K mainGlobals "isinstance" = some none)
    (z_len : PySem.W.nsIn K mainGlobals "len" = some none)
    (z_list : PySem.W.nsIn K mainGlobals "list" = some none)
    (z_range : PySem.W.nsIn K mainGlobals "range" = some none)
    (z_reversed : PySem.W.nsIn K mainGlobals "reversed" = some none) :
    ∃ fd : FuncData, (∀ (s : Shared) (v : Value), BindsTo s fd ⟨[v], []⟩ [("_law_script", v)]) ∧ ∀ base : Heap, K.In base → base.Ns mainGlobals mg → FnOk l.prog w K mg base CX0 12 fa fd ["_law_script"] (spLaw K) := by
  have e := hfa.symm.trans (PySem.W.mg_of X G a22)
  cases e
  have F1 := fun_mk (st := s_check_spokes) l1 c1 k1
  have b1 := F1.binds (ps := ["many"]) fun _ _ _ _ _ _ us hl => by obtain ⟨a, rfl⟩ := len1 hl; rfl
  have F2 := fun_mk (st := s_circle) l2 c2 k2
  have b2 := F2.binds (ps := ["many"]) fun _ _ _ _ _ _ us hl => by obtain ⟨a, rfl⟩ := len1 hl; rfl
  have F3 := fun_mk (st := s_next_circle) l3 c3 k3
  have b3 := F3.binds (ps := ["many", "found"]) fun _ _ _ _ _ _ us hl => by obtain ⟨a, b, rfl⟩ := len2 hl; rfl
  have F4 := fun_mk (st := s_divided) l4 c4 k4
  have b4 := F4.binds (ps := ["polynomial", "divider"]) fun _ _ _ _ _ _ us hl => by obtain ⟨a, b, rfl⟩ := len2 hl; rfl
  have F5 := fun_mk (st := s_law_whole) l5 c5 k5
  have b5 := F5.binds (ps := ["_law_found"]) fun _ _ _ _ _ _ us hl => by obtain ⟨a, rfl⟩ := len1 hl; rfl
  have F6 := fun_mk (st := s_law_at) l6 c6 k6
  have b6 := F6.binds (ps := ["_law_script", "_law_k"]) fun _ _ _ _ _ _ us hl => by obtain ⟨a, b, rfl⟩ := len2 hl; rfl
  have F7 := fun_mk (st := s_law_spokes) l7 c7 k7
  have b7 := F7.binds (ps := ["_law_cell"]) fun _ _ _ _ _ _ us hl => by obtain ⟨a, rfl⟩ := len1 hl; rfl
  have F8 := fun_mk (st := s_law_primes) l8 c8 k8
  have b8 := F8.binds (ps := ["_law_many"]) fun _ _ _ _ _ _ us hl => by obtain ⟨a, rfl⟩ := len1 hl; rfl
  have F9 := fun_mk (st := s_law_nought) l9 c9 k9
  have b9 := F9.binds (ps := ["_law_counts", "_law_many"]) fun _ _ _ _ _ _ us hl => by obtain ⟨a, b, rfl⟩ := len2 hl; rfl
  have F10 := fun_mk (st := s_law_degree) l10 c10 k10
  have b10 := F10.binds (ps := ["_law_many"]) fun _ _ _ _ _ _ us hl => by obtain ⟨a, rfl⟩ := len1 hl; rfl
  have F11 := fun_mk (st := s_law_is) l11 c11 k11
  have b11 := F11.binds (ps := ["_law_found", "_law_counts", "_law_many"]) fun _ _ _ _ _ _ us hl => by obtain ⟨a, b, c, rfl⟩ := len3 hl; rfl
  have F12 := fun_mk (st := s_law_number) l12 c12 k12
  have b12 := F12.binds (ps := ["_law_script", "_law_at_here"]) fun _ _ _ _ _ _ us hl => by obtain ⟨a, b, rfl⟩ := len2 hl; rfl
  have F13 := fun_mk (st := s_law_flags) l13 c13 k13
  have b13 := F13.binds (ps := ["_law_met"]) fun _ _ _ _ _ _ us hl => by obtain ⟨a, rfl⟩ := len1 hl; rfl
  have F14 := fun_mk (st := s_law_only) l14 c14 k14
  have b14 := F14.binds (ps := ["_law_met", "_law_name"]) fun _ _ _ _ _ _ us hl => by obtain ⟨a, b, rfl⟩ := len2 hl; rfl
  have F15 := fun_mk (st := s_law_step) l15 c15 k15
  have b15 := F15.binds (ps := ["_law_cell"]) fun _ _ _ _ _ _ us hl => by obtain ⟨a, rfl⟩ := len1 hl; rfl
  have F16 := fun_mk (st := s_law_width) l16 c16 k16
  have b16 := F16.binds (ps := ["_law_cell", "_law_many"]) fun _ _ _ _ _ _ us hl => by obtain ⟨a, b, rfl⟩ := len2 hl; rfl
  have F17 := fun_mk (st := s_law_apart) l17 c17 k17
  have b17 := F17.binds (ps := ["_law_j", "_law_many"]) fun _ _ _ _ _ _ us hl => by obtain ⟨a, b, rfl⟩ := len2 hl; rfl
  have F18 := fun_mk (st := s_law_put) l18 c18 k18
  have b18 := F18.binds (ps := ["_law_one", "_law_step_here", "_law_many"]) fun _ _ _ _ _ _ us hl => by obtain ⟨a, b, c, rfl⟩ := len3 hl; rfl
  have F19 := fun_mk (st := s_law_asked) l19 c19 k19
  have b19 := F19.binds (ps := ["_law_wheel", "_law_one", "_law_by", "_law_way"]) fun _ _ _ _ _ _ us hl => by obtain ⟨a, b, c, d, rfl⟩ := len4 hl; rfl
  have F20 := fun_mk (st := s_law_moved) l20 c20 k20
  have b20 := F20.binds (ps := ["_law_wheel", "_law_one", "_law_j", "_law_many"]) fun _ _ _ _ _ _ us hl => by obtain ⟨a, b, c, d, rfl⟩ := len4 hl; rfl
  have F21 := fun_mk (st := s_law_wider) l21 c21 k21
  have b21 := F21.binds (ps := ["_law_wheel", "_law_one", "_law_by", "_law_many"]) fun _ _ _ _ _ _ us hl => by obtain ⟨a, b, c, d, rfl⟩ := len4 hl; rfl
  have F22 := fun_mk (st := s_law) l22 c22 k22
  have b22 := F22.binds (ps := ["_law_script"]) fun _ _ _ _ _ _ us hl => by obtain ⟨a, rfl⟩ := len1 hl; rfl
  have F23 := fun_mk (st := s_Wheel_init) l23 c23 k23
  have b23 := F23.binds (ps := ["self", "many"]) fun _ _ _ _ _ _ us hl => by obtain ⟨a, b, rfl⟩ := len2 hl; rfl
  have F24 := fun_mk (st := s_Wheel_laid) l24 c24 k24
  have b24 := F24.binds (ps := ["self", "counts", "step", "start"]) fun _ _ _ _ _ _ us hl => by obtain ⟨a, b, c, d, rfl⟩ := len4 hl; rfl
  have F25 := fun_mk (st := s_Wheel_moved) l25 c25 k25
  have b25 := F25.binds (ps := ["self", "one", "j"]) fun _ _ _ _ _ _ us hl => by obtain ⟨a, b, c, rfl⟩ := len3 hl; rfl
  have F26 := fun_mk (st := s_Wheel_wider) l26 c26 k26
  have b26 := F26.binds (ps := ["self", "one", "many"]) fun _ _ _ _ _ _ us hl => by obtain ⟨a, b, c, rfl⟩ := len3 hl; rfl
  let T : Txt K mg := { d_check_spokes := ⟨f1, _, F1, b1, PySem.W.mg_of X G a1⟩, d_circle := ⟨f2, _, F2, b2, PySem.W.mg_of X G a2⟩, d_next_circle := ⟨f3, _, F3, b3, PySem.W.mg_of X G a3⟩, d_divided := ⟨f4, _, F4, b4, PySem.W.mg_of X G a4⟩, d_law_whole := ⟨f5, _, F5, b5, PySem.W.mg_of X G a5⟩, d_law_at := ⟨f6, _, F6, b6, PySem.W.mg_of X G a6⟩, d_law_spokes := ⟨f7, _, F7, b7, PySem.W.mg_of X G a7⟩, d_law_primes := ⟨f8, _, F8, b8, PySem.W.mg_of X G a8⟩, d_law_nought := ⟨f9, _, F9, b9, PySem.W.mg_of X G a9⟩, d_law_degree := ⟨f10, _, F10, b10, PySem.W.mg_of X G a10⟩, d_law_is := ⟨f11, _, F11, b11, PySem.W.mg_of X G a11⟩, d_law_number := ⟨f12, _, F12, b12, PySem.W.mg_of X G a12⟩, d_law_flags := ⟨f13, _, F13, b13, PySem.W.mg_of X G a13⟩, d_law_only := ⟨f14, _, F14, b14, PySem.W.mg_of X G a14⟩, d_law_step := ⟨f15, _, F15, b15, PySem.W.mg_of X G a15⟩, d_law_width := ⟨f16, _, F16, b16, PySem.W.mg_of X G a16⟩, d_law_apart := ⟨f17, _, F17, b17, PySem.W.mg_of X G a17⟩, d_law_put := ⟨f18, _, F18, b18, PySem.W.mg_of X G a18⟩, d_law_asked := ⟨f19, _, F19, b19, PySem.W.mg_of X G a19⟩, d_law_moved := ⟨f20, _, F20, b20, PySem.W.mg_of X G a20⟩, d_law_wider := ⟨f21, _, F21, b21, PySem.W.mg_of X G a21⟩, d_law := ⟨fa, _, F22, b22, PySem.W.mg_of X G a22⟩, C_Wheel := C23, i_Wheel := f23, j_Wheel := _, k_Wheel := ⟨pg23, hd23, po23, sa23⟩, c_Wheel := PySem.W.mg_of X G aC23, m_Wheel := ⟨mk23, a23, i23, kc23⟩, f_Wheel := F23, b_Wheel := b23, n_Wheel_rim := n23_rim, n_Wheel_spokes := n23_spokes, n_Wheel_size := n23_size, q_Wheel_laid := f24, r_Wheel_laid := _, e_Wheel_laid := ⟨a24, i24, k24⟩, f_Wheel_laid := F24, b_Wheel_laid := b24, q_Wheel_moved := f25, r_Wheel_moved := _, e_Wheel_moved := ⟨a25, i25, k25⟩, f_Wheel_moved := F25, b_Wheel_moved := b25, q_Wheel_wider := f26, r_Wheel_wider := _, e_Wheel_wider := ⟨a26, i26, k26⟩, f_Wheel_wider := F26, b_Wheel_wider := b26, C_BookError := CX_BookError, c_BookError := PySem.W.mg_of X G aX_BookError, C_BadWheel := CX_BadWheel, c_BadWheel := PySem.W.mg_of X G aX_BadWheel, C_NoMove := CX_NoMove, c_NoMove := PySem.W.mg_of X G aX_NoMove, C_NoPart := CX_NoPart, c_NoPart := PySem.W.mg_of X G aX_NoPart, C_NotSteady := CX_NotSteady, c_NotSteady := PySem.W.mg_of X G aX_NotSteady, C_BadMarks := CX_BadMarks, c_BadMarks := PySem.W.mg_of X G aX_BadMarks, C_NoWay := CX_NoWay, c_NoWay := PySem.W.mg_of X G aX_NoWay, C_OtherGroup := CX_OtherGroup, c_OtherGroup := PySem.W.mg_of X G aX_OtherGroup, C_OtherWheel := CX_OtherWheel, c_OtherWheel := PySem.W.mg_of X G aX_OtherWheel, C_TooGreat := CX_TooGreat, c_TooGreat := PySem.W.mg_of X G aX_TooGreat, C_NotKept := CX_NotKept, c_NotKept := PySem.W.mg_of X G aX_NotKept, C_BadSize := CX_BadSize, c_BadSize := PySem.W.mg_of X G aX_BadSize, C_Stranger := CX_Stranger, c_Stranger := PySem.W.mg_of X G aX_Stranger, C_NoUnit := CX_NoUnit, c_NoUnit := PySem.W.mg_of X G aX_NoUnit, C_NoBack := CX_NoBack, c_NoBack := PySem.W.mg_of X G aX_NoBack, C_NotTogether := CX_NotTogether, c_NotTogether := PySem.W.mg_of X G aX_NotTogether, x_BadWheel := x_BadWheel, y_BadWheel := y_BadWheel, e_BadWheel := e_BadWheel, x_NoMove := x_NoMove, y_NoMove := y_NoMove, e_NoMove := e_NoMove, v_NoMove := v_NoMove, f_NoMove_NoPart := f_NoMove_NoPart, f_NoMove_NotSteady := f_NoMove_NotSteady, f_NoMove_BadWheel := f_NoMove_BadWheel, f_NoMove_BadMarks := f_NoMove_BadMarks, f_NoMove_NoWay := f_NoMove_NoWay, f_NoMove_OtherGroup := f_NoMove_OtherGroup, f_NoMove_OtherWheel := f_NoMove_OtherWheel, f_NoMove_TooGreat := f_NoMove_TooGreat, f_NoMove_NotKept := f_NoMove_NotKept, f_NoMove_BadSize := f_NoMove_BadSize, f_NoMove_Stranger := f_NoMove_Stranger, f_NoMove_NoUnit := f_NoMove_NoUnit, f_NoMove_NoBack := f_NoMove_NoBack, f_NoMove_NotTogether := f_NoMove_NotTogether, v_BadWheel := v_BadWheel, f_BadWheel_NoPart := f_BadWheel_NoPart, f_BadWheel_NotSteady := f_BadWheel_NotSteady, f_BadWheel_NoMove := f_BadWheel_NoMove, f_BadWheel_BadMarks := f_BadWheel_BadMarks, f_BadWheel_NoWay := f_BadWheel_NoWay, f_BadWheel_OtherGroup := f_BadWheel_OtherGroup, f_BadWheel_OtherWheel := f_BadWheel_OtherWheel, f_BadWheel_TooGreat := f_BadWheel_TooGreat, f_BadWheel_NotKept := f_BadWheel_NotKept, f_BadWheel_BadSize := f_BadWheel_BadSize, f_BadWheel_Stranger := f_BadWheel_Stranger, f_BadWheel_NoUnit := f_BadWheel_NoUnit, f_BadWheel_NoBack := f_BadWheel_NoBack, f_BadWheel_NotTogether := f_BadWheel_NotTogether, t_MOST_SPOKES := t_MOST_SPOKES, g_MOST_SPOKES := PySem.W.mg_of X G g_MOST_SPOKES, z_ValueError := PySem.W.mg_none_of X G z_ValueError, z_all := PySem.W.mg_none_of X G z_all, z_bool := PySem.W.mg_none_of X G z_bool, z_enumerate := PySem.W.mg_none_of X G z_enumerate, z_int := PySem.W.mg_none_of X G z_int, z_isinstance := PySem.W.mg_none_of X G z_isinstance, z_len := PySem.W.mg_none_of X G z_len, z_list := PySem.W.mg_none_of X G z_list, z_range := PySem.W.mg_none_of X G z_range, z_reversed := PySem.W.mg_none_of X G z_reversed }
  exact ⟨PySem.W.fnOf "law" "law" (defArgs s_law) (defBody s_law) (defScope s_law) .none kV22 dc22 pm22 an22 cd22 ct22, fun s v => .of_eq rfl, fun base _ _ => ok_law T⟩
theorem walk {l : PySem.W.OpenLaw} {q : Program} {loose : List Str} {XP : (Str → Option Value) → Heap → Prop} {YP : World → Heap → Prop} {d : DefRec} {K : Params → PySem.W.Frag} (hn : l.most = some 63) (hdf : d.params.defaults = [])
    (hY : ∀ (w : World) (h : Heap), YP w h → (K w.params).In h)
    (F : ∀ (w : World) (mg : Str → Option Value) (fa : Addr) (h : Heap), (K w.params).In h → h.Ns mainGlobals mg → mg d.name = some (.ref fa) →
      ∃ fd : FuncData, (∀ (s : Shared) (u : Value), BindsTo s fd ⟨[u], []⟩ [("_law_script", u)]) ∧ ∀ base : Heap, (K w.params).In base → base.Ns mainGlobals mg → FnOk l.prog w (K w.params) mg base CX0 12 fa fd ["_law_script"] (spLaw (K w.params))) :
    PySem.W.WalkO q loose XP YP l.row.toRowW d [] (fun f vs => PySem.call f vs) :=
  L2.walk_of (n := 63) (k := 12) (x := "_law_script") (CX := fun _ => CX0) (sp := fun w => spLaw (K w.params)) hn (by decide) hdf ⟨rfl, by decide, by decide⟩ hY F (fun _ _ a ns hl _ hS => ⟨a, ns, rfl, hS, hl, fun _ => rfl⟩) fun _ _ _ _ _ z => z
end TB
theorem PySem.W.Fast.tw15767208346826784395 : True := True.intro
theorem PySem.W.Fast.tw10391161652198645988 : True := True.intro
theorem PySem.W.Fast.tw8286809568351653748 : True := True.intro
theorem PySem.W.Fast.tw5517152916691191255 : True := True.intro
theorem PySem.W.Fast.tw11872423314359301963 : True := True.intro
theorem PySem.W.Fast.tw4344115269779415408 : True := True.intro
theorem PySem.W.Fast.tw4010334330253739858 : True := True.intro
theorem PySem.W.Fast.tw4349912293970019285 : True := True.intro
theorem PySem.W.Fast.tw7054216437111755197 : True := True.intro
theorem PySem.W.Fast.tw16967928657200269349 : True := True.intro
theorem PySem.W.Fast.tw16811122551356950077 : True := True.intro
theorem PySem.W.Fast.tw11136918547334769766 : True := True.intro
theorem PySem.W.Fast.tw8818547351011078350 : True := True.intro
theorem PySem.W.Fast.tw14849561427243105838 : True := True.intro
theorem PySem.W.Fast.tw15212462661443991938 : True := True.intro
theorem PySem.W.Fast.tw17614655499360281382 : True := True.intro
theorem PySem.W.Fast.tw17763781331262100973 : True := True.intro
theorem PySem.W.Fast.tw12510254862092081935 : True := True.intro
theorem PySem.W.Fast.tw16266629912533082644 : True := True.intro
theorem PySem.W.Fast.tw1798791038594333370 : True := True.intro
theorem PySem.W.Fast.tw18336589567774708992 : True := True.intro
theorem PySem.W.Fast.tw9433008564579608278 : True := True.intro
open PySem PySem.W PyProof.Rows
set_option maxRecDepth 100000 in
set_option maxHeartbeats 0 in
theorem PySem.Challenge.cw_tracebook_k25_moves_and_wider_wheels_holds : PySem.Challenge.rw_tracebook_k25_moves_and_wider_wheels.Holds := by
  w_on; o_law; k_head; (case hw => w_witness2)
  k_fill
  refine TB.walk (l := PySem.Challenge.rw_tracebook_k25_moves_and_wider_wheels) rfl rfl (fun w h Y => PySem.W.kIn_of Y) ?F
  case F =>
    intro w mg fa h KX G hmg
    refine' TB.all_mk KX G hmg ?a1 ?l1 ?c1 ?k1 ?a2 ?l2 ?c2 ?k2 ?a3 ?l3 ?c3 ?k3 ?a4 ?l4 ?c4 ?k4 ?a5 ?l5 ?c5 ?k5 ?a6 ?l6 ?c6 ?k6 ?a7 ?l7 ?c7 ?k7 ?a8 ?l8 ?c8 ?k8 ?a9 ?l9 ?c9 ?k9 ?a10 ?l10 ?c10 ?k10 ?a11 ?l11 ?c11 ?k11 ?a12 ?l12 ?c12 ?k12 ?a13 ?l13 ?c13 ?k13 ?a14 ?l14 ?c14 ?k14 ?a15 ?l15 ?c15 ?k15 ?a16 ?l16 ?c16 ?k16 ?a17 ?l17 ?c17 ?k17 ?a18 ?l18 ?c18 ?k18 ?a19 ?l19 ?c19 ?k19 ?a20 ?l20 ?c20 ?k20 ?a21 ?l21 ?c21 ?k21 ?a22 ?l22 ?c22 ?k22 ?aC23 ?a23 ?i23 ?l23 ?c23 ?k23 ?pg23 ?hd23 ?po23 ?sa23 ?mk23 ?kc23 ?n23_rim ?n23_spokes ?n23_size ?a24 ?i24 ?l24 ?c24 ?k24 ?a25 ?i25 ?l25 ?c25 ?k25 ?a26 ?i26 ?l26 ?c26 ?k26 ?aX_BookError ?aX_BadWheel ?aX_NoMove ?aX_NoPart ?aX_NotSteady ?aX_BadMarks ?aX_NoWay ?aX_OtherGroup ?aX_OtherWheel ?aX_TooGreat ?aX_NotKept ?aX_BadSize ?aX_Stranger ?aX_NoUnit ?aX_NoBack ?aX_NotTogether ?x_BadWheel ?y_BadWheel ?e_BadWheel ?x_NoMove ?y_NoMove ?e_NoMove ?v_NoMove ?f_NoMove_NoPart ?f_NoMove_NotSteady ?f_NoMove_BadWheel ?f_NoMove_BadMarks ?f_NoMove_NoWay ?f_NoMove_OtherGroup ?f_NoMove_OtherWheel ?f_NoMove_TooGreat ?f_NoMove_NotKept ?f_NoMove_BadSize ?f_NoMove_Stranger ?f_NoMove_NoUnit ?f_NoMove_NoBack ?f_NoMove_NotTogether ?v_BadWheel ?f_BadWheel_NoPart ?f_BadWheel_NotSteady ?f_BadWheel_NoMove ?f_BadWheel_BadMarks ?f_BadWheel_NoWay ?f_BadWheel_OtherGroup ?f_BadWheel_OtherWheel ?f_BadWheel_TooGreat ?f_BadWheel_NotKept ?f_BadWheel_BadSize ?f_BadWheel_Stranger ?f_BadWheel_NoUnit ?f_BadWheel_NoBack ?f_BadWheel_NotTogether ?g_MOST_SPOKES ?z_ValueError ?z_all ?z_bool ?z_enumerate ?z_int ?z_isinstance ?z_len ?z_list ?z_range ?z_reversed
    (case a1 => k_is)
    (case l1 => k_is)
    (case c1 => k_is)
    (case k1 => k_is)
    (case a2 => k_is)
    (case l2 => k_is)
    (case c2 => k_is)
    (case k2 => k_is)
    (case a3 => k_is)
    (case l3 => k_is)
    (case c3 => k_is)
    (case k3 => k_is)
    (case a4 => k_is)
    (case l4 => k_is)
    (case c4 => k_is)
    (case k4 => k_is)
    (case a5 => k_is)
    (case l5 => k_is)
    (case c5 => k_is)
    (case k5 => k_is)
    (case a6 => k_is)
    (case l6 => k_is)
    (case c6 => k_is)
    (case k6 => k_is)
    (case a7 => k_is)
    (case l7 => k_is)
    (case c7 => k_is)
    (case k7 => k_is)
    (case a8 => k_is)
    (case l8 => k_is)
    (case c8 => k_is)
    (case k8 => k_is)
    (case a9 => k_is)
    (case l9 => k_is)
    (case c9 => k_is)
    (case k9 => k_is)
    (case a10 => k_is)
    (case l10 => k_is)
    (case c10 => k_is)
    (case k10 => k_is)
    (case a11 => k_is)
    (case l11 => k_is)
    (case c11 => k_is)
    (case k11 => k_is)
    (case a12 => k_is)
    (case l12 => k_is)
    (case c12 => k_is)
    (case k12 => k_is)
    (case a13 => k_is)
    (case l13 => k_is)
    (case c13 => k_is)
    (case k13 => k_is)
    (case a14 => k_is)
    (case l14 => k_is)
    (case c14 => k_is)
    (case k14 => k_is)
    (case a15 => k_is)
    (case l15 => k_is)
    (case c15 => k_is)
    (case k15 => k_is)
    (case a16 => k_is)
    (case l16 => k_is)
    (case c16 => k_is)
    (case k16 => k_is)
    (case a17 => k_is)
    (case l17 => k_is)
    (case c17 => k_is)
    (case k17 => k_is)
    (case a18 => k_is)
    (case l18 => k_is)
    (case c18 => k_is)
    (case k18 => k_is)
    (case a19 => k_is)
    (case l19 => k_is)
    (case c19 => k_is)
    (case k19 => k_is)
    (case a20 => k_is)
    (case l20 => k_is)
    (case c20 => k_is)
    (case k20 => k_is)
    (case a21 => k_is)
    (case l21 => k_is)
    (case c21 => k_is)
    (case k21 => k_is)
    (case a22 => k_is)
    (case l22 => k_is)
    (case c22 => k_is)
    (case k22 => k_is)
    (case aC23 => k_is)
    (case a23 => k_is)
    (case i23 => k_is)
    (case l23 => k_is)
    (case c23 => k_is)
    (case k23 => k_is)
    (case pg23 => k_is)
    (case hd23 => k_is)
    (case po23 => k_is)
    (case sa23 => k_is)
    (case mk23 => k_is)
    (case kc23 => k_is)
    (case n23_rim => k_is)
    (case n23_spokes => k_is)
    (case n23_size => k_is)
    (case a24 => k_is)
    (case i24 => k_is)
    (case l24 => k_is)
    (case c24 => k_is)
    (case k24 => k_is)
    (case a25 => k_is)
    (case i25 => k_is)
    (case l25 => k_is)
    (case c25 => k_is)
    (case k25 => k_is)
    (case a26 => k_is)
    (case i26 => k_is)
    (case l26 => k_is)
    (case c26 => k_is)
    (case k26 => k_is)
    (case aX_BookError => k_is)
    (case aX_BadWheel => k_is)
    (case aX_NoMove => k_is)
    (case aX_NoPart => k_is)
    (case aX_NotSteady => k_is)
    (case aX_BadMarks => k_is)
    (case aX_NoWay => k_is)
    (case aX_OtherGroup => k_is)
    (case aX_OtherWheel => k_is)
    (case aX_TooGreat => k_is)
    (case aX_NotKept => k_is)
    (case aX_BadSize => k_is)
    (case aX_Stranger => k_is)
    (case aX_NoUnit => k_is)
    (case aX_NoBack => k_is)
    (case aX_NotTogether => k_is)
    (case x_BadWheel => kernel_rfl)
    (case y_BadWheel => (refine' ⟨?_, ?_, ?_, ?_, ?_, ?_, ?_, ?_⟩ <;> k_is))
    (case e_BadWheel => kernel_rfl)
    (case x_NoMove => kernel_rfl)
    (case y_NoMove => (refine' ⟨?_, ?_, ?_, ?_, ?_, ?_, ?_, ?_⟩ <;> k_is))
    (case e_NoMove => kernel_rfl)
    (case v_NoMove => kernel_rfl)
    (case f_NoMove_NoPart => kernel_rfl)
    (case f_NoMove_NotSteady => kernel_rfl)
    (case f_NoMove_BadWheel => kernel_rfl)
    (case f_NoMove_BadMarks => kernel_rfl)
    (case f_NoMove_NoWay => kernel_rfl)
    (case f_NoMove_OtherGroup => kernel_rfl)
    (case f_NoMove_OtherWheel => kernel_rfl)
    (case f_NoMove_TooGreat => kernel_rfl)
    (case f_NoMove_NotKept => kernel_rfl)
    (case f_NoMove_BadSize => kernel_rfl)
    (case f_NoMove_Stranger => kernel_rfl)
    (case f_NoMove_NoUnit => kernel_rfl)
    (case f_NoMove_NoBack => kernel_rfl)
    (case f_NoMove_NotTogether => kernel_rfl)
    (case v_BadWheel => kernel_rfl)
    (case f_BadWheel_NoPart => kernel_rfl)
    (case f_BadWheel_NotSteady => kernel_rfl)
    (case f_BadWheel_NoMove => kernel_rfl)
    (case f_BadWheel_BadMarks => kernel_rfl)
    (case f_BadWheel_NoWay => kernel_rfl)
    (case f_BadWheel_OtherGroup => kernel_rfl)
    (case f_BadWheel_OtherWheel => kernel_rfl)
    (case f_BadWheel_TooGreat => kernel_rfl)
    (case f_BadWheel_NotKept => kernel_rfl)
    (case f_BadWheel_BadSize => kernel_rfl)
    (case f_BadWheel_Stranger => kernel_rfl)
    (case f_BadWheel_NoUnit => kernel_rfl)
    (case f_BadWheel_NoBack => kernel_rfl)
    (case f_BadWheel_NotTogether => kernel_rfl)
    (case g_MOST_SPOKES => k_is)
    (case z_ValueError => k_is)
    (case z_all => k_is)
    (case z_bool => k_is)
    (case z_enumerate => k_is)
    (case z_int => k_is)
    (case z_isinstance => k_is)
    (case z_len => k_is)
    (case z_list => k_is)
    (case z_range => k_is)
    (case z_reversed => k_is)
