import PyProof.Rows.All
import Wide.All
import OpenK.AllK
import Wide.FinOn
import PyProof.EqAt
import PyProof.EqKinds
import PyProof.NeKinds
import PyProof.TupleCall
import KE.KIsAll
import KE.KIsNot
import KE.RegKIsAll
import OpenK.KOwn
import PyProof.NsDelKeeps
import PyProof.ReprRoads
import PyProof.ExcArgsOwn
import PyProof.IsiH_list
import Lean
import PyProof.DictItems
import PyProof.DictWalks
import PyProof.TupleOfSeq
import KE.KRevIter
import PySem.Challenge.RW_frontways_k16_whole_no_narrower_order
-- CHANGE: your row's module here, as the last of these rows
set_option Elab.async false
set_option linter.all false
set_option maxRecDepth 100000
namespace L2
open PySem PySem.Spec PyProof.Rows

/-- a key: an int or a str -/
abbrev Key := Sum Int Str
def keyIs : Key → Value → Bool
  | .inl k, v => Value.isInt k v
  | .inr x, v => Value.isStrOf x v
def keyH (w : World) : Key → Int
  | .inl k => hashInt k
  | .inr x => hashStr w x
theorem keyIs_shape : ∀ {k : Key} {v : Value}, keyIs k v = true → (∃ i t, k = Sum.inl i ∧ v = Value.int i t) ∨ (∃ x t, k = Sum.inr x ∧ v = Value.str x t)
  | .inl i, v, h => by
    obtain ⟨t, e⟩ := Value.isInt_shape (k := i) (v := v) h
    exact .inl ⟨i, t, rfl, e⟩
  | .inr x, v, h => by
    obtain ⟨t, e⟩ := Value.isStrOf_shape (x := x) (v := v) h
    exact .inr ⟨x, t, rfl, e⟩
theorem keyIs_int (i : Int) (t : Tok) : keyIs (.inl i) (.int i t) = true := by simp [keyIs, Value.isInt]
theorem keyIs_str (x : Str) (t : Tok) : keyIs (.inr x) (.str x t) = true := by simp [keyIs, Value.isStrOf]
theorem key_ll (a b : Int) : decide ((Sum.inl a : Key) = Sum.inl b) = (a == b) := by
  by_cases e : a = b
  · subst e; simp
  · have h : ¬ (Sum.inl a : Key) = Sum.inl b := fun q => e (Sum.inl.inj q)
    rw [decide_eq_false h]
    exact (beq_eq_false_iff_ne.mpr e).symm
theorem key_rr (a b : Str) : decide ((Sum.inr a : Key) = Sum.inr b) = decide (a = b) := by
  by_cases e : a = b
  · subst e; simp
  · have h : ¬ (Sum.inr a : Key) = Sum.inr b := fun q => e (Sum.inr.inj q)
    rw [decide_eq_false h, decide_eq_false e]
theorem key_lr (a : Int) (b : Str) : decide ((Sum.inl a : Key) = Sum.inr b) = false := decide_eq_false (fun q => nomatch q)
theorem key_rl (a : Str) (b : Int) : decide ((Sum.inr a : Key) = Sum.inl b) = false := decide_eq_false (fun q => nomatch q)

def mixKind (prog : Program) (w : World) : PySem.KeyKind prog w Key where
  is := keyIs
  hash := keyH w
  inj := fun v a b ha hb => by
    rcases keyIs_shape ha with ⟨i, t, rfl, rfl⟩ | ⟨x, t, rfl, rfl⟩
    · rcases keyIs_shape hb with ⟨j, u, rfl, e⟩ | ⟨y, u, rfl, e⟩
      · injection e with e1 _; rw [e1]
      · exact nomatch e
    · rcases keyIs_shape hb with ⟨j, u, rfl, e⟩ | ⟨y, u, rfl, e⟩
      · exact nomatch e
      · injection e with e1 _; rw [e1]
  byValue := fun k v h => by
    rcases keyIs_shape h with ⟨i, t, rfl, rfl⟩ | ⟨x, t, rfl, rfl⟩ <;> rfl
  pyHash := fun hv h => by
    rcases keyIs_shape hv with ⟨i, t, rfl, rfl⟩ | ⟨x, t, rfl, rfl⟩
    · exact wpAny_pyHash_int h
    · exact wpAny_pyHash_str h
  eqBool := fun hu hv h => by
    rcases keyIs_shape hu with ⟨i, t, rfl, rfl⟩ | ⟨x, t, rfl, rfl⟩
    · rcases keyIs_shape hv with ⟨j, u, rfl, rfl⟩ | ⟨y, u, rfl, rfl⟩
      · rw [key_ll] at h; exact wpAny_eqBool_int h
      · rw [key_lr] at h; exact SeqAt.EqAt.int_str i t y u _ _ _ _ h
    · rcases keyIs_shape hv with ⟨j, u, rfl, rfl⟩ | ⟨y, u, rfl, rfl⟩
      · rw [key_rl] at h; exact SeqAt.EqAt.str_int x t j u _ _ _ _ h
      · rw [key_rr] at h; exact wpAny_eqBool_str h
  «strs» := fun k x t v h => by
    rcases keyIs_shape h with ⟨i, u, rfl, e⟩ | ⟨y, u, rfl, e⟩
    · exact nomatch e
    · injection e with e1 _
      subst e1
      cases v <;> rfl

theorem mixKind_int (prog : Program) (w : World) (i : Int) (t : Tok) : (mixKind prog w).is (.inl i) (.int i t) = true := keyIs_int i t
theorem mixKind_str (prog : Program) (w : World) (x : Str) (t : Tok) : (mixKind prog w).is (.inr x) (.str x t) = true := keyIs_str x t
end L2

namespace L2
open PySem PySem.Spec PyProof.Rows

/-- a value, without the heap -/
inductive V where
  | non | bl (b : Bool) | int (i : Int) | str (x : Str) | byt (b : Array UInt8) | flt (b : UInt64) | ref (a : Addr) | ty (n : String)
  deriving DecidableEq

def RelV : V → Value → Prop
  | .non, u => u = Value.none
  | .bl b, u => u = Value.bool b
  | .int i, u => ∃ t, u = Value.int i t
  | .str x, u => ∃ t, u = Value.str x t
  | .byt b, u => ∃ t, u = Value.bytes b t
  | .flt b, u => ∃ t, u = Value.float b t
  | .ref a, u => u = Value.ref a
  | .ty n, u => u = Value.type n

abbrev Vals : List V → List Value → Prop := Paired RelV
theorem Vals.length {xs : List V} {us : List Value} (r : Vals xs us) : xs.length = us.length := Paired.length r
theorem Vals.get : ∀ {xs : List V} {us : List Value} {i : Nat} {x : V}, Vals xs us → xs[i]? = some x → ∃ u, us[i]? = some u ∧ RelV x u
  | _, _, _, _, .nil, e => by simp at e
  | _, _, 0, _, .cons r _, e => by simp at e; subst e; exact ⟨_, rfl, r⟩
  | _, _, i + 1, x, .cons _ t, e => by
    obtain ⟨u, h1, h2⟩ := Vals.get (i := i) (x := x) t (by simpa using e)
    exact ⟨u, by simpa using h1, h2⟩
theorem Vals.set {x : V} {u : Value} (r : RelV x u) : ∀ {xs : List V} {us : List Value} (i : Nat), Vals xs us → Vals (xs.set i x) (us.set i u)
  | _, _, _, .nil => .nil
  | _, _, 0, .cons _ t => .cons r t
  | _, _, i + 1, .cons q t => .cons q (Vals.set r i t)
theorem Vals.append : ∀ {xs ys : List V} {us ws : List Value}, Vals xs us → Vals ys ws → Vals (xs ++ ys) (us ++ ws)
  | _, _, _, _, .nil, s => s
  | _, _, _, _, .cons r t, s => .cons r (Vals.append t s)
theorem Vals.take : ∀ {xs : List V} {us : List Value} (n : Nat), Vals xs us → Vals (xs.take n) (us.take n)
  | _, _, 0, _ => .nil
  | _, _, _ + 1, .nil => .nil
  | _, _, n + 1, .cons r t => .cons r (Vals.take n t)
theorem Vals.drop : ∀ {xs : List V} {us : List Value} (n : Nat), Vals xs us → Vals (xs.drop n) (us.drop n)
  | _, _, 0, r => r
  | _, _, _ + 1, .nil => .nil
  | _, _, n + 1, .cons _ t => Vals.drop n t
def RelO : Option V → Option Value → Prop
  | some v, some u => RelV v u
  | none, none => True
  | _, _ => False
def KV {κ : Type} : List (κ × V) → List (κ × Value) → Prop := Paired fun (p : κ × V) (q : κ × Value) => p.1 = q.1 ∧ RelV p.2 q.2

/-- a key of a dict (00_mix): an int or a text -/
def kV : Key → V
  | .inl i => .int i
  | .inr x => .str x

/-- what stands at a tracked address -/
inductive HO where
  /-- a list -/
  | lst (xs : List V)
  /-- a tuple (never changes) -/
  | tup (xs : List V)
  /-- a dict whose keys are ints and texts; one whose keys are tuples of ints and texts (the empty one is both) -/
  | dK (kvs : List (Key × V)) | dT (kvs : List (List Key × V))
  /-- a set of ints: its members, its size -/
  | set (S : Int → Bool) (n : Nat)
  /-- an instance of the class at C, its dict at dx, its attributes -/
  | ins (C dx : Addr) (fs : List (Str × V))
  /-- the dict of the instance at x -/
  | own (x : Addr)
  /-- the dict of an exception -/
  | xd (fs : List (Str × V))
  /-- a bound method, f of x -/
  | met (f x : Addr)
  /-- a range object lo, lo + 1, .. below hi -/
  | rng (lo hi : Int)
  /-- a thing that is known to the object (the script; a dict while a loop walks it): read, never written while it is so -/
  | frz (o : Obj) (u : HO)
  /-- a code object's table -/
  | tbl (ps : Array Value)
  /-- any other thing, by what is true of its one object (a def of one's own: SetO a S n := HO.ext fun h => ..) -/
  | ext (φ : Heap → Prop)

abbrev Hp := Addr → Option HO
def upd (H : Hp) (a : Addr) (o : HO) : Hp := fun b => if b = a then some o else H b
theorem upd_same {H : Hp} {a : Addr} {o : HO} : upd H a o a = some o := by unfold upd; rw [if_pos rfl]
theorem upd_ne {H : Hp} {a b : Addr} {o : HO} (h : b ≠ a) : upd H a o b = H b := by unfold upd; rw [if_neg h]
/-- two objects of different content stand apart -/
theorem ne_of {H : Hp} {a b : Addr} {o u : HO} (h : H a = some o) (h' : H b = some u) (d : o ≠ u) : a ≠ b := by
  intro e; subst e; rw [h] at h'; exact d (Option.some.inj h')
theorem ne_of_none {H : Hp} {a b : Addr} {o : HO} (h : H a = some o) (h' : H b = none) : a ≠ b := by
  intro e; subst e; rw [h] at h'; cases h'

section
variable (P : Program) (w : World)
def ObjOk (H : Hp) (h : Heap) (a : Addr) : HO → Prop
  | .lst xs => xs.length ≤ sizeLine ∧ ∃ (its : List Value) (n : Nat), Vals xs its ∧ h.get? a = some { cls := .type "list", data := .seq its.toArray n }
  | .tup xs => xs.length ≤ sizeLine ∧ ∃ its : List Value, Vals xs its ∧ IsTup h a its.toArray
  | .dK kvs => kvs.length ≤ sizeLine ∧ (a == sysModules) = false ∧ ∃ vs, KV kvs vs ∧ h.DictOf (mixKind P w) a vs
  | .dT kvs => kvs.length ≤ sizeLine ∧ (a == sysModules) = false ∧ ∃ xs : List (List Key × Addr × Value),
      Paired (fun (p : List Key × V) (q : List Key × Addr × Value) => p.1 = q.1 ∧ H q.2.1 = some (.tup (p.1.map kV)) ∧ RelV p.2 q.2.2) kvs xs ∧
      ∃ o es ep, h.get? a = some o ∧ o.ExactDict ∧ o.data = .dict es ep ∧ es.toList = xs.map (entryOfKey (tupleKind (mixKind P w))) ∧ (xs.map (·.1)).Nodup
  | .set S n => h.SetOf (intKind P w) a S n
  | .ins C dx fs => H dx = some (.own a) ∧ fs.length ≤ 1000 ∧ dx ≠ a ∧ h.get? a = some (PySem.W.instObj C dx) ∧
      ∃ mA, h.Ns1 dx mA ∧ (∀ f, RelO (fs.lookup f) (mA f)) ∧ PySem.Within mA (fs.map (·.1))
  | .own _ => ∃ o, h.get? a = some o
  | .xd fs => ∃ mA, h.Ns1 a mA ∧ ∀ f, RelO (fs.lookup f) (mA f)
  | .rng lo hi => ∃ t u v, h.get? a = some { cls := .type "range", data := .fields #[.int lo t, .int hi u, .int 1 v] }
  | .frz o u => h.get? a = some o ∧ ObjOk H h a u
  | .tbl ps => h.get? a = some { cls := .none, data := .fields ps }
  | .met f x => h.get? a = some (PySem.W.methodObj (.ref f) (.ref x))
  | .ext φ => φ h ∧ (∃ o, h.get? a = some o) ∧ ∀ h1 h2 : Heap, φ h1 → (∀ o, h1.get? a = some o → h2.get? a = some o) → φ h2
/-- the abstract heap is held -/
def HOk (H : Hp) (h : Heap) : Prop := ∀ a o, H a = some o → ObjOk P w H h a o
end

section
variable {P : Program} {w : World} {H H' : Hp} {h h' : Heap} {a : Addr} {o : HO}
theorem ObjOk.lt (x : ObjOk P w H h a o) : a < h.objs.size := by
  cases o with
  | lst xs => obtain ⟨_, _, _, _, e⟩ := x; exact Heap.lt_size e
  | tup xs => obtain ⟨_, _, _, p⟩ := x; exact p.lt
  | dK kvs => obtain ⟨_, _, _, _, o, _, _, e, _⟩ := x; exact Heap.lt_size e
  | dT kvs => obtain ⟨_, _, _, _, o, _, _, e, _⟩ := x; exact Heap.lt_size e
  | set S n => obtain ⟨o, _, _, _, e, _⟩ := x; exact Heap.lt_size e
  | ins C dx fs => obtain ⟨_, _, _, e, _⟩ := x; exact Heap.lt_size e
  | own y => obtain ⟨_, e⟩ := x; exact Heap.lt_size e
  | xd fs => obtain ⟨_, ⟨_, _, _, e, _⟩, _⟩ := x; exact Heap.lt_size e
  | rng lo hi => obtain ⟨_, _, _, e⟩ := x; exact Heap.lt_size e
  | frz ob u => obtain ⟨e, _⟩ := x; exact Heap.lt_size e
  | tbl ps => exact Heap.lt_size (show h.get? a = some _ from x)
  | met f y => exact Heap.lt_size (show h.get? a = some _ from x)
  | ext φ => obtain ⟨_, ⟨_, e⟩, _⟩ := x; exact Heap.lt_size e
theorem Paired.mapP {α β : Type} {F G : α → β → Prop} : ∀ {l₁ : List α} {l₂ : List β}, Paired F l₁ l₂ → (∀ a b, F a b → G a b) → Paired G l₁ l₂
  | _, _, .nil, _ => .nil
  | _, _, .cons r t, f => .cons (f _ _ r) (Paired.mapP t f)
/-- what an object's description leans on: its own object, its own dict, the tuples -/
theorem ObjOk.stay (x : ObjOk P w H h a o) (k : ∀ b u, (b = a ∨ H b = some (.own a)) → h.get? b = some u → h'.get? b = some u)
    (ho : ∀ b, H b = some (.own a) → H' b = some (.own a)) (ht : ∀ b xs, H b = some (.tup xs) → H' b = some (.tup xs)) : ObjOk P w H' h' a o := by
  induction o with
  | lst xs => obtain ⟨z, its, n, r, e⟩ := x; exact ⟨z, its, n, r, k _ _ (.inl rfl) e⟩
  | tup xs => obtain ⟨z, its, r, ob, e, c⟩ := x; exact ⟨z, its, r, ob, k _ _ (.inl rfl) e, c⟩
  | dK kvs => obtain ⟨z, y, vs, r, ob, es, ep, e, c⟩ := x; exact ⟨z, y, vs, r, ob, es, ep, k _ _ (.inl rfl) e, c⟩
  | dT kvs =>
    obtain ⟨z, y, xs, r, ob, es, ep, e, c⟩ := x
    exact ⟨z, y, xs, Paired.mapP r fun p q z => ⟨z.1, ht _ _ z.2.1, z.2.2⟩, ob, es, ep, k _ _ (.inl rfl) e, c⟩
  | set S n => obtain ⟨ob, es, ep, t, e, c⟩ := x; exact ⟨ob, es, ep, t, k _ _ (.inl rfl) e, c⟩
  | ins C dx fs =>
    obtain ⟨d, z, ne, e, mA, ⟨od, es, ep, e2, c⟩, r⟩ := x
    exact ⟨ho _ d, z, ne, k _ _ (.inl rfl) e, mA, ⟨od, es, ep, k _ _ (.inr d) e2, c⟩, r⟩
  | own y => obtain ⟨ob, e⟩ := x; exact ⟨ob, k _ _ (.inl rfl) e⟩
  | xd fs => obtain ⟨mA, ⟨od, es, ep, e, c⟩, r⟩ := x; exact ⟨mA, ⟨od, es, ep, k _ _ (.inl rfl) e, c⟩, r⟩
  | rng lo hi => obtain ⟨t, u, v, e⟩ := x; exact ⟨t, u, v, k _ _ (.inl rfl) e⟩
  | frz ob u ih => obtain ⟨e, q⟩ := x; exact ⟨k _ _ (.inl rfl) e, ih q⟩
  | tbl ps =>
    have e : h.get? a = some { cls := .none, data := .fields ps } := x
    show h'.get? a = some { cls := .none, data := .fields ps }
    exact k a _ (.inl rfl) e
  | met f y =>
    have e : h.get? a = some (PySem.W.methodObj (.ref f) (.ref y)) := x
    show h'.get? a = some (PySem.W.methodObj (.ref f) (.ref y))
    exact k a _ (.inl rfl) e
  | ext φ => obtain ⟨p, ⟨o, e⟩, st⟩ := x; exact ⟨st _ _ p fun o q => k _ _ (.inl rfl) q, ⟨o, k _ _ (.inl rfl) e⟩, st⟩
theorem HOk.lt (x : HOk P w H h) (e : H a = some o) : a < h.objs.size := (x a o e).lt
theorem HOk.fresh (x : HOk P w H h) (e : h.objs.size ≤ a) : H a = none := by
  cases q : H a with
  | none => rfl
  | some u => exact absurd (Nat.lt_of_lt_of_le (x.lt q) e) (Nat.lt_irrefl _)
/-- every object of the heap is kept -/
theorem HOk.kept (x : HOk P w H h) (k : ∀ b u, h.get? b = some u → h'.get? b = some u) : HOk P w H h' := fun a o e =>
  (x a o e).stay (fun b u _ q => k b u q) (fun _ q => q) fun _ _ q => q
/-- a new object is laid and tracked -/
theorem HOk.laid (x : HOk P w H h) (k : ∀ b u, h.get? b = some u → h'.get? b = some u) (hp : h.objs.size ≤ a) (new : ObjOk P w (upd H a o) h' a o) : HOk P w (upd H a o) h' := fun b u e => by
  have hn := x.fresh hp
  by_cases hb : b = a
  · subst hb; rw [upd_same] at e; cases e; exact new
  · rw [upd_ne hb] at e
    exact (x b u e).stay (fun c v _ q => k c v q) (fun c q => by rw [upd_ne (ne_of_none q hn)]; exact q) fun c xs q => by rw [upd_ne (ne_of_none q hn)]; exact q
end

/-- what may be read as u: it is u, or a known u -/
def Rd (H : Hp) (a : Addr) (u : HO) : Prop := H a = some u ∨ ∃ o, H a = some (.frz o u)
theorem Rd.ok {P : Program} {w : World} {H : Hp} {h : Heap} {a : Addr} {u : HO} (r : Rd H a u) (x : HOk P w H h) : ObjOk P w H h a u := by
  rcases r with r | ⟨o, r⟩
  · exact x a u r
  · obtain ⟨_, q⟩ := x a _ r
    exact q
/-- what may be written -/
def Mut : Option HO → Prop
  | some (.lst _) => True
  | some (.dK _) => True
  | some (.dT _) => True
  | some (.set _ _) => True
  | some (.ins _ _ _) => True
  | some (.ext _) => True
  | _ => False
section
variable {P : Program} {w : World} {H : Hp} {h h' : Heap} {x e : Addr} {o' : HO}
/-- the object at e is changed: x itself, or the dict of the instance x -/
theorem HOk.write (ok : HOk P w H h) (mu : Mut (H x)) (he : e = x ∨ H e = some (.own x)) (k : ∀ b u, b ≠ e → h.get? b = some u → h'.get? b = some u) (heo : ∃ u, h'.get? e = some u)
    (new : ObjOk P w (upd H x o') h' x o') : HOk P w (upd H x o') h' := fun b u q => by
  have nown : ∀ c y, H c = some (.own y) → c ≠ x := fun c y r z => by subst z; rw [r] at mu; exact mu
  have ntup : ∀ c xs, H c = some (.tup xs) → c ≠ x := fun c xs r z => by subst z; rw [r] at mu; exact mu
  by_cases hb : b = x
  · subst hb; rw [upd_same] at q; cases q; exact new
  · rw [upd_ne hb] at q
    by_cases hbe : b = e
    · have q' : H b = some (.own x) := by
        rcases he with z | z
        · exact absurd (hbe.trans z) hb
        · rw [hbe]; exact z
      rw [q] at q'; cases q'
      obtain ⟨v, hv⟩ := heo
      exact ⟨v, by rw [hbe]; exact hv⟩
    · refine (ok b u q).stay (fun c v hc r => k c v ?_ r) (fun c r => by rw [upd_ne (nown c b r)]; exact r) fun c xs r => by rw [upd_ne (ntup c xs r)]; exact r
      rcases hc with rfl | hc
      · exact hbe
      · rintro rfl
        rcases he with z | z
        · exact nown c b hc z
        · rw [hc] at z; cases z; exact hb rfl
end

structure Un (fs ex : List Addr) (H H' : Hp) (h h' : Heap) : Prop where
  keep : ∀ b o, h.get? b = some o → H b = none → b ∉ fs → b ∉ ex → h'.get? b = some o
  slot : ∀ b o, h.get? b = some o → H b = none → b ∈ fs → b ∉ ex → ∃ sl, h'.get? b = some { o with slots := sl }
  free : ∀ b o, h.get? b = some o → H b = none → b ∉ ex → H' b = none
  there : ∀ b o, h.get? b = some o → b ∉ ex → ∃ o', h'.get? b = some o'
  tups : ∀ b xs, H b = some (.tup xs) → H' b = some (.tup xs)
  frzs : ∀ b o u, H b = some (.frz o u) → H' b = some (.frz o u)
  tbls : ∀ b ps, H b = some (.tbl ps) → ∃ more, H' b = some (.tbl (ps ++ more))
section
variable {fs fs' ex ex' : List Addr} {H H1 H2 : Hp} {h h1 h2 h' : Heap} {a x e : Addr} {o : HO}
theorem Un.any (u : Un fs ex H H1 h h1) {b : Addr} {ob : Obj} (q : h.get? b = some ob) (n : H b = none) (hx : b ∉ ex) : ∃ sl, h1.get? b = some { ob with slots := sl } := by
  by_cases hb : b ∈ fs
  · exact u.slot b ob q n hb hx
  · exact ⟨ob.slots, u.keep b ob q n hb hx⟩
theorem Un.kept (k : ∀ b u, h.get? b = some u → h'.get? b = some u) : Un fs ex H H h h' :=
  ⟨fun b ob q _ _ _ => k b ob q, fun b ob q _ _ _ => ⟨ob.slots, k b ob q⟩, fun _ _ _ n _ => n, fun b ob q _ => ⟨ob, k b ob q⟩, fun _ _ q => q, fun _ _ _ q => q, fun _ ps q => ⟨#[], by rw [q]; simp⟩⟩
theorem Un.refl : Un fs ex H H h h := Un.kept fun _ _ q => q
theorem Un.laid (k : ∀ b u, h.get? b = some u → h'.get? b = some u) (hp : h.objs.size ≤ a) (hn : H a = none) : Un fs ex H (upd H a o) h h' where
  keep := fun b u q _ _ _ => k b u q
  slot := fun b u q _ _ _ => ⟨u.slots, k b u q⟩
  free := fun b u q n _ => by rw [upd_ne (Nat.ne_of_lt (Nat.lt_of_lt_of_le (Heap.lt_size q) hp))]; exact n
  there := fun b u q _ => ⟨u, k b u q⟩
  tups := fun b xs q => by rw [upd_ne (ne_of_none q hn)]; exact q
  frzs := fun b u xs q => by rw [upd_ne (ne_of_none q hn)]; exact q
  tbls := fun b ps q => ⟨#[], by rw [upd_ne (ne_of_none q hn), q]; simp⟩
theorem Un.write (mu : Mut (H x)) (he : e = x ∨ H e = some (.own x)) (k : ∀ b u, b ≠ e → h.get? b = some u → h'.get? b = some u) (heo : ∃ u, h'.get? e = some u) : Un fs ex H (upd H x o) h h' := by
  have hx : ∀ b, H b = none → b ≠ x := fun b n z => by subst z; rw [n] at mu; exact mu
  have hb : ∀ b, H b = none → b ≠ e := fun b n z => by
    subst z
    rcases he with r | r
    · exact hx b n r
    · rw [n] at r; cases r
  have hm : ∀ b u, H b = some u → ¬ Mut (some u) → b ≠ x := fun b u q nm z => by subst z; rw [q] at mu; exact nm mu
  refine ⟨fun b u q n _ _ => k b u (hb b n) q, fun b u q n _ _ => ⟨u.slots, k b u (hb b n) q⟩, fun b u q n _ => by rw [upd_ne (hx b n)]; exact n, fun b u q _ => ?_,
    fun b xs q => by rw [upd_ne (hm b _ q fun z => z)]; exact q, fun b u xs q => by rw [upd_ne (hm b _ q fun z => z)]; exact q, fun b ps q => ⟨#[], by rw [upd_ne (hm b _ q fun z => z), q]; simp⟩⟩
  by_cases hbe : b = e
  · subst hbe; exact heo
  · exact ⟨u, k b u hbe q⟩
end

def trk (h : Heap) (H : Hp) : List Addr := (List.range h.objs.size).filter fun a => (H a).isSome
def hidT (h : Heap) (H : Hp) : Heap := PySem.W.hideAll h (trk h H)
theorem hidT_size (h : Heap) (H : Hp) : (hidT h H).objs.size = h.objs.size := PySem.W.hideAll_size _ _
theorem hidT_get {h : Heap} {H : Hp} {b : Addr} {o : Obj} (e : h.get? b = some o) (n : H b = none) : (hidT h H).get? b = some o :=
  PySem.W.hideAll_get _ e fun hm => by
    have q : (H b).isSome = true := (List.mem_filter.mp hm).2
    rw [n] at q; simp at q
theorem of_hidT {h : Heap} {H : Hp} {b : Addr} {o : Obj} (e : (hidT h H).get? b = some o) : h.get? b = some o ∧ H b = none := by
  have e' : h.get? b = some o := PySem.W.of_hideAll (trk h H) e
  refine ⟨e', ?_⟩
  cases q : H b with
  | none => rfl
  | some x =>
    have hm : b ∈ trk h H := List.mem_filter.mpr ⟨List.mem_range.mpr (Heap.lt_size e'), by simp [q]⟩
    have z : (hidT h H).get? b = none := PySem.W.hideAll_none (trk h H) hm
    rw [z] at e; cases e

end L2

namespace L2
open PySem PySem.Spec PyProof.Rows

/-- the module's facts, over the base: the heap at the law's entry without what is tracked there -/
structure Mod (K : PySem.W.Frag) (mg : Str → Option Value) (base : Heap) : Prop where
  kin : K.In base
  glob : base.Ns mainGlobals mg
  blt : ∃ mb, base.Ns builtinsNs mb ∧ ∀ x : Str, x ≠ "__name__" → mb x = bootBuiltins x
  nolimit : base.NoLimit

/-- the context: a def's body (or a comprehension's block) running. base: fixed through the whole law; s₀, H₀: the entry; outer: the frames whose slots others may change (a def's callers); stack: all frames that run;
   ex: iterators that were made ahead of the entry and are walked here (a comprehension's); fn: the names whose cells were made at the entry (a def: all; a comprehension's block: its own); calm: not within an except suite; pn: pins that every state bears; xe: what is wanted of an exception that leaves the code -/
structure Cx where
  prog : Program
  w : World
  K : PySem.W.Frag
  mg : Str → Option Value
  base : Heap
  A : Around
  N : List Str
  s₀ : Shared
  H₀ : Hp
  env : Env
  outer : List Env
  stack : List Env
  ex : List Addr
  fn : Str → Bool
  calm : Bool
  pn : List (Addr × Obj)
  xe : Value → Shared → Prop
/-- the callers' frames -/
def frs (l : List Env) : List Addr := l.filterMap (·.frame)
abbrev Cx.fs (X : Cx) : List Addr := frs X.outer

def Vis (sc : Scope) (x : Str) : Prop := sc.names.lookup x = some .local ∨ sc.names.lookup x = some .cell ∨ sc.names.lookup x = some .free
def Loc (sc : Scope) (x : Str) : Prop := sc.names.lookup x = some .local ∨ sc.names.lookup x = some .cell
def Look (env : Env) (h : Heap) (m : Str → Option Value) (x : Str) (u : Value) : Prop :=
  (env.kindOf x = some .local ∧ m x = some u) ∨ ((env.kindOf x = some .cell ∨ env.kindOf x = some .free) ∧ ∃ c, env.cells.lookup x = some c ∧ h.IsCell c (some u))

structure Cx.Ok (X : Cx) : Prop where
  mod : Mod X.K X.mg X.base
  kind : X.env.scope.kind = .function
  glob : X.env.globals = mainGlobals
  blt : X.env.builtins = builtinsNs
  above : X.s₀.heap.objs.size ≤ X.env.locals
  inj : ∀ x y c, X.env.cells.lookup x = some c → X.env.cells.lookup y = some c → x = y
  has : ∀ x, (X.env.kindOf x = some .cell ∨ X.env.kindOf x = some .free) → ∃ c, X.env.cells.lookup x = some c
  cab : ∀ x c, X.fn x = true → X.env.cells.lookup x = some c → X.s₀.heap.objs.size ≤ c
  hd : X.calm = true → X.A.handled = none
  frames : X.A.frames = some X.stack
  stk : X.stack = X.outer ∨ (X.stack = X.env :: X.outer ∧ X.env.frame = some X.env.locals)
  exf : ∀ b ∈ X.ex, b ≠ X.env.locals ∧ ∀ x c, X.env.cells.lookup x = some c → c ≠ b
  bs : ∀ b o, X.base.get? b = some o → X.s₀.heap.get? b = some o ∧ X.H₀ b = none
  bsz : X.base.objs.size ≤ X.s₀.heap.objs.size
  noex : ∀ b o, X.base.get? b = some o → b ∉ X.ex
  exfs : ∀ b ∈ X.ex, b ∉ X.fs
  funs : X.s₀.heap.FunFrames X.base X.outer
  frf : ∀ b ∈ X.fs, X.H₀ b = none

structure Inv (X : Cx) (pins : List (Addr × Obj)) (σ : List (Option V)) (H : Hp) (s : Shared) : Prop where
  ok : X.Ok
  os : s.os = X.s₀.os
  bare : AllBare s.gens
  base : Un X.fs X.ex X.H₀ H X.s₀.heap s.heap
  loc : ∃ m, s.heap.Ns X.env.locals m ∧ ∀ (i : Nat) (x : Str) (v : V), X.N[i]? = some x → σ[i]? = some (some v) → Vis X.env.scope x → ∃ u, RelV v u ∧ Look X.env s.heap m x u
  cell : ∀ x c, X.env.cells.lookup x = some c → ∃ v, s.heap.IsCell c v
  free : H X.env.locals = none
  freeC : ∀ x c, X.env.cells.lookup x = some c → H c = none
  pin : ∀ p ∈ X.pn ++ pins, s.heap.get? p.1 = some p.2 ∧ H p.1 = none ∧ p.1 ≠ X.env.locals ∧ p.1 ∉ X.fs ∧ ∀ v, p.2.data ≠ .cell v
  hok : HOk X.prog X.w H s.heap
  len : σ.length = X.N.length

section
variable {X : Cx} {pins : List (Addr × Obj)} {σ : List (Option V)} {H H' : Hp} {s : Shared} {h' : Heap}

theorem Cx.Ok.nofr (ok : X.Ok) {b : Addr} {o : Obj} (e : X.base.get? b = some o) : b ∉ X.fs := fun hb => by
  have := (ok.funs.mem hb).1
  rw [e] at this; cases this
theorem Inv.bs (I : Inv X pins σ H s) : ∀ b o, X.base.get? b = some o → s.heap.get? b = some o ∧ H b = none := fun b o e =>
  ⟨I.base.keep b o (I.ok.bs b o e).1 (I.ok.bs b o e).2 (I.ok.nofr e) (I.ok.noex b o e), I.base.free b o (I.ok.bs b o e).1 (I.ok.bs b o e).2 (I.ok.noex b o e)⟩
theorem Inv.bk (I : Inv X pins σ H s) : ∀ b o, X.base.get? b = some o → s.heap.get? b = some o := fun b o e => (I.bs b o e).1
theorem Inv.mod (I : Inv X pins σ H s) : Mod X.K X.mg X.base := I.ok.mod
theorem Inv.kIn (I : Inv X pins σ H s) : X.K.In s.heap := I.ok.mod.kin.keeps I.bk
theorem Inv.lt (I : Inv X pins σ H s) : X.env.locals < s.heap.objs.size := let ⟨_, hn, _⟩ := I.loc; hn.lt
theorem Inv.sz (I : Inv X pins σ H s) : X.s₀.heap.objs.size ≤ s.heap.objs.size := Nat.le_trans I.ok.above (Nat.le_of_lt I.lt)
theorem Inv.nofs (I : Inv X pins σ H s) {a : Addr} (h : s.heap.objs.size ≤ a) : a ∉ X.fs := fun hb => by
  obtain ⟨_, o, ho, _⟩ := I.ok.funs.mem hb
  exact absurd (Nat.lt_of_lt_of_le (Heap.lt_size ho) (Nat.le_trans I.sz h)) (Nat.lt_irrefl _)
theorem Inv.cne (I : Inv X pins σ H s) : ∀ x c, X.env.cells.lookup x = some c → c ≠ X.env.locals := fun x c e z => by
  obtain ⟨v, o, ho, hd⟩ := I.cell x c e
  obtain ⟨m, ⟨o', es, ep, ho', hd', _⟩, _⟩ := I.loc
  rw [z, ho'] at ho; cases ho; rw [hd'] at hd; cases hd
theorem Inv.funs (I : Inv X pins σ H s) : s.heap.FunFrames X.base X.outer := by
  have all : ∀ (l : List Env), (∀ b ∈ frs l, b ∈ X.fs) → X.s₀.heap.FunFrames X.base l → s.heap.FunFrames X.base l := by
    intro l
    induction l with
    | nil => intro _ _; trivial
    | cons env r ih =>
      intro hs hl
      obtain ⟨hk, ⟨L, o, hf, hn, ho, hd⟩, hr⟩ := hl
      have hL : L ∈ X.fs := hs L (by unfold frs; rw [List.filterMap_cons, hf]; exact List.mem_cons_self)
      obtain ⟨sl, e⟩ := I.base.slot L o ho (I.ok.frf L hL) hL fun z => I.ok.exfs L z hL
      exact ⟨hk, ⟨L, _, hf, hn, e, hd⟩, ih (fun b hb => hs b (by unfold frs; rw [List.filterMap_cons, hf]; exact List.mem_cons_of_mem _ hb)) hr⟩
  exact all X.outer (fun _ hb => hb) I.ok.funs

/-- the frames that run, for a call -/
theorem Inv.stack (I : Inv X pins σ H s) : s.heap.FunFrames X.base X.stack := by
  rcases I.ok.stk with e | ⟨e, hf⟩
  · rw [e]; exact I.funs
  · rw [e]
    obtain ⟨m, hn, _⟩ := I.loc
    refine .cons (by rw [I.ok.kind]; decide) hf hn ?_ I.funs
    exact Heap.get?_none_of_le (Nat.le_trans I.ok.bsz I.ok.above)
theorem Inv.stkSub (I : Inv X pins σ H s) : ∀ b ∈ frs X.stack, b ∈ X.env.locals :: X.fs := fun b hb => by
  rcases I.ok.stk with e | ⟨e, hf⟩
  · rw [e] at hb; exact List.mem_cons_of_mem _ hb
  · rw [e] at hb
    unfold frs at hb
    rw [List.filterMap_cons, hf] at hb
    exact hb
theorem Inv.stkFree (I : Inv X pins σ H s) : ∀ b ∈ frs X.stack, H b = none := fun b hb => by
  rcases List.mem_cons.mp (I.stkSub b hb) with e | hb
  · rw [e]; exact I.free
  · obtain ⟨_, o, ho, _⟩ := I.ok.funs.mem hb
    exact I.base.free b o ho (I.ok.frf b hb) fun z => I.ok.exfs b z hb

/-- THE STEP: the untracked objects but the frame and the records at ch are kept (the callers' frames up to slots), the frame's map is kept, the new abstract heap is held -/
theorem Inv.step {g' : Array GenState} {t' : Nat} {d' : Drawn} {ch : List Addr} (I : Inv X pins σ H s)
    (hch : ∀ b ∈ ch, (b ∈ X.ex ∨ X.s₀.heap.objs.size ≤ b) ∧ b ≠ X.env.locals ∧ (∀ x c, X.env.cells.lookup x = some c → c ≠ b) ∧ ∀ p ∈ X.pn ++ pins, p.1 ≠ b)
    (keep : ∀ b o, b ≠ X.env.locals → b ∉ X.fs → b ∉ ch → s.heap.get? b = some o → H b = none → h'.get? b = some o)
    (slot : ∀ b o, b ≠ X.env.locals → b ∈ X.fs → b ∉ ch → s.heap.get? b = some o → H b = none → ∃ sl, h'.get? b = some { o with slots := sl }) (free : ∀ b o, b ∉ ch → s.heap.get? b = some o → H b = none → H' b = none)
    (there : ∀ b o, b ∉ ch → s.heap.get? b = some o → ∃ o', h'.get? b = some o')
    (tups : ∀ b xs, H b = some (.tup xs) → H' b = some (.tup xs)) (frzs : ∀ b o u, H b = some (.frz o u) → H' b = some (.frz o u)) (tbls : ∀ b ps, H b = some (.tbl ps) → ∃ more, H' b = some (.tbl (ps ++ more)))
    (ns : ∀ m, s.heap.Ns X.env.locals m → h'.Ns X.env.locals m) (hok : HOk X.prog X.w H' h') (hg : AllBare g') :
    Inv X pins σ H' { s with heap := h', gens := g', drawn := d', toks := t' } := by
  have neL : ∀ b o, X.s₀.heap.get? b = some o → b ≠ X.env.locals := fun b o e => Nat.ne_of_lt (Nat.lt_of_lt_of_le (Heap.lt_size e) I.ok.above)
  have neC : ∀ b o, X.s₀.heap.get? b = some o → b ∉ X.ex → b ∉ ch := fun b o e hx hb => by
    rcases (hch b hb).1 with z | z
    · exact hx z
    · exact absurd (Nat.lt_of_lt_of_le (Heap.lt_size e) z) (Nat.lt_irrefl _)
  have cellK : ∀ x c, X.env.cells.lookup x = some c → ∀ v, s.heap.IsCell c v → h'.IsCell c v := fun x c e v ⟨o, ho, hd⟩ => by
    have nch : c ∉ ch := fun z => (hch c z).2.2.1 x c e rfl
    by_cases hc : c ∈ X.fs
    · obtain ⟨sl, q⟩ := slot c o (I.cne x c e) hc nch ho (I.freeC x c e)
      exact ⟨_, q, hd⟩
    · exact ⟨o, keep c o (I.cne x c e) hc nch ho (I.freeC x c e), hd⟩
  refine ⟨I.ok, I.os, hg, ⟨fun b o e n hb hx => ?_, fun b o e n hb hx => ?_, fun b o e n hx => ?_, fun b o e hx => ?_, fun b xs e => tups b xs (I.base.tups b xs e), fun b o xs e => frzs b o xs (I.base.frzs b o xs e), fun b ps e => ?_⟩, ?_, fun x c e => ?_, ?_, fun x c e => ?_, fun p hp => ?_, hok, I.len⟩
  · exact keep b o (neL b o e) hb (neC b o e hx) (I.base.keep b o e n hb hx) (I.base.free b o e n hx)
  · obtain ⟨sl, e1⟩ := I.base.slot b o e n hb hx
    obtain ⟨sl', e2⟩ := slot b _ (neL b o e) hb (neC b o e hx) e1 (I.base.free b o e n hx)
    exact ⟨sl', e2⟩
  · obtain ⟨o', e1⟩ := I.base.there b o e hx
    exact free b o' (neC b o e hx) e1 (I.base.free b o e n hx)
  · obtain ⟨o', e1⟩ := I.base.there b o e hx
    exact there b o' (neC b o e hx) e1
  · obtain ⟨m1, e1⟩ := I.base.tbls b ps e
    obtain ⟨m2, e2⟩ := tbls b _ e1
    exact ⟨m1 ++ m2, by rw [e2, Array.append_assoc]⟩
  · obtain ⟨m, hn, hl⟩ := I.loc
    refine ⟨m, ns m hn, fun i x v e1 e2 e3 => ?_⟩
    obtain ⟨u, r, l⟩ := hl i x v e1 e2 e3
    refine ⟨u, r, ?_⟩
    rcases l with l | ⟨k, c, e, z⟩
    · exact .inl l
    · exact .inr ⟨k, c, e, cellK x c e _ z⟩
  · obtain ⟨v, z⟩ := I.cell x c e
    exact ⟨v, cellK x c e v z⟩
  · obtain ⟨m, ⟨o, _, _, ho, _⟩, _⟩ := I.loc
    exact free _ o (fun z => (hch _ z).2.1 rfl) ho I.free
  · obtain ⟨v, o, ho, hd⟩ := I.cell x c e
    exact free c o (fun z => (hch c z).2.2.1 x c e rfl) ho (I.freeC x c e)
  · obtain ⟨e, n, ne, nf, d⟩ := I.pin p hp
    have nch : p.1 ∉ ch := fun z => (hch p.1 z).2.2.2 p hp rfl
    exact ⟨keep p.1 p.2 ne nf nch e n, free p.1 p.2 nch e n, ne, nf, d⟩
/-- .. where the frame's own object is kept too -/
theorem Inv.un {t' : Nat} (I : Inv X pins σ H s) (u : Un X.fs [] H H' s.heap h') (hok : HOk X.prog X.w H' h') : Inv X pins σ H' { s with heap := h', toks := t' } := by
  obtain ⟨m, ⟨o, es, ep, ho, r⟩, _⟩ := id I.loc
  obtain ⟨sl, hL⟩ := u.any ho I.free (by simp)
  exact I.step (g' := s.gens) (d' := s.drawn) (ch := []) (fun _ z => nomatch z) (fun b o _ hb _ e n => u.keep b o e n hb (by simp)) (fun b o _ hb _ e n => u.slot b o e n hb (by simp)) (fun b o _ e n => u.free b o e n (by simp)) (fun b o _ e => u.there b o e (by simp)) u.tups u.frzs u.tbls (fun m' hm => by
    obtain ⟨o', es', ep', ho', r'⟩ := hm
    rw [ho] at ho'; cases ho'
    exact ⟨_, es', ep', hL, r'⟩) hok I.bare
/-- behind a call (or a comprehension's block): the slots of this frame may have changed too, the records at ch may have turned -/
theorem Inv.call {g' : Array GenState} {t' : Nat} {d' : Drawn} {ch : List Addr} (I : Inv X pins σ H s) (u : Un (frs X.stack) ch H H' s.heap h') (hok : HOk X.prog X.w H' h') (hg : AllBare g')
    (hch : ∀ b ∈ ch, (b ∈ X.ex ∨ X.s₀.heap.objs.size ≤ b) ∧ b ≠ X.env.locals ∧ (∀ x c, X.env.cells.lookup x = some c → c ≠ b) ∧ ∀ p ∈ X.pn ++ pins, p.1 ≠ b) :
    Inv X pins σ H' { s with heap := h', gens := g', drawn := d', toks := t' } := by
  obtain ⟨m, ⟨o, es, ep, ho, r⟩, _⟩ := id I.loc
  obtain ⟨sl, hL⟩ := u.any ho I.free fun z => (hch _ z).2.1 rfl
  exact I.step (ch := ch) hch (fun b o hL hb hc e n => u.keep b o e n (fun z => (List.mem_cons.mp (I.stkSub b z)).elim hL hb) hc) (fun b o _ _ hc e n => u.any e n hc) (fun b o hc e n => u.free b o e n hc) (fun b o hc e => u.there b o e hc) u.tups u.frzs u.tbls (fun m' hm => by
    obtain ⟨o', es', ep', ho', r'⟩ := hm
    rw [ho] at ho'; cases ho'
    exact ⟨_, es', ep', hL, r'⟩) hok hg
/-- an untracked record of ours (an iterator) has turned -/
theorem Inv.turned {t' : Nat} {it : Addr} (I : Inv X pins σ H s) (k : ∀ b o, b ≠ it → s.heap.get? b = some o → h'.get? b = some o) (hn : H it = none) (hL : it ≠ X.env.locals)
    (h1 : it ∈ X.ex ∨ X.s₀.heap.objs.size ≤ it) (h2 : ∀ x c, X.env.cells.lookup x = some c → c ≠ it) (h3 : ∀ p ∈ X.pn ++ pins, p.1 ≠ it) : Inv X pins σ H { s with heap := h', toks := t' } := by
  have nit : ∀ b u, H b = some u → b ≠ it := fun b u e z => by rw [z, hn] at e; cases e
  refine I.step (g' := s.gens) (d' := s.drawn) (ch := [it]) (fun b hb => ?_) (fun b o _ _ hc e _ => k b o (fun z => hc (by simp [z])) e) (fun b o _ _ hc e _ => ⟨o.slots, k b o (fun z => hc (by simp [z])) e⟩) (fun _ _ _ _ n => n)
    (fun b o hc e => ⟨o, k b o (fun z => hc (by simp [z])) e⟩) (fun _ _ e => e) (fun _ _ _ e => e) (fun b ps e => ⟨#[], by rw [e]; simp⟩) (fun m hm => ?_) (fun b u e => ?_) I.bare
  · have e : b = it := by simpa using hb
    subst e
    exact ⟨h1, hL, h2, h3⟩
  · obtain ⟨o, es, ep, ho, r⟩ := hm
    exact ⟨o, es, ep, k _ o (Ne.symm hL) ho, r⟩
  · refine (I.hok b u e).stay (fun c v hc q => k c v ?_ q) (fun _ q => q) fun _ _ q => q
    rcases hc with z | z
    · rw [z]; exact nit b u e
    · exact nit c _ z
theorem Inv.tok (I : Inv X pins σ H s) (t : Nat) : Inv X pins σ H { s with toks := t } := I.un (h' := s.heap) (t' := t) Un.refl I.hok
/-- all objects kept -/
theorem Inv.kept {t' : Nat} (I : Inv X pins σ H s) (k : ∀ b u, s.heap.get? b = some u → h'.get? b = some u) : Inv X pins σ H { s with heap := h', toks := t' } := I.un (Un.kept k) (I.hok.kept k)
/-- a new object laid and tracked -/
theorem Inv.laid {a : Addr} {o : HO} {t' : Nat} (I : Inv X pins σ H s) (k : ∀ b u, s.heap.get? b = some u → h'.get? b = some u) (hp : s.heap.objs.size ≤ a) (new : ObjOk X.prog X.w (upd H a o) h' a o) :
    Inv X pins σ (upd H a o) { s with heap := h', toks := t' } := I.un (Un.laid k hp (I.hok.fresh hp)) (I.hok.laid k hp new)
/-- an object written -/
theorem Inv.write {x e : Addr} {o : HO} {t' : Nat} (I : Inv X pins σ H s) (mu : Mut (H x)) (he : e = x ∨ H e = some (.own x)) (k : ∀ b u, b ≠ e → s.heap.get? b = some u → h'.get? b = some u) (heo : ∃ u, h'.get? e = some u)
    (new : ObjOk X.prog X.w (upd H x o) h' x o) : Inv X pins σ (upd H x o) { s with heap := h', toks := t' } := I.un (Un.write mu he k heo) (I.hok.write mu he k heo new)
theorem Inv.pins_of {pins' : List (Addr × Obj)} (I : Inv X pins σ H s) (h : ∀ p ∈ pins', s.heap.get? p.1 = some p.2 ∧ H p.1 = none ∧ p.1 ≠ X.env.locals ∧ p.1 ∉ X.fs ∧ ∀ v, p.2.data ≠ .cell v) : Inv X pins' σ H s :=
  ⟨I.ok, I.os, I.bare, I.base, I.loc, I.cell, I.free, I.freeC, fun p hp => (List.mem_append.mp hp).elim (fun z => I.pin p (List.mem_append_left _ z)) (h p), I.hok, I.len⟩

theorem nodup_ix {N : List Str} (hN : N.Nodup) {i j : Nat} {x : Str} (a : N[i]? = some x) (b : N[j]? = some x) : i = j := by
  obtain ⟨h1, e1⟩ := List.getElem?_eq_some_iff.mp a
  obtain ⟨h2, e2⟩ := List.getElem?_eq_some_iff.mp b
  exact (List.getElem_inj hN).mp (e1.trans e2.symm)

/-- a name is stored; what changed -/
theorem store_ok2 {M : Model} {A : Around} {E : Value → Shared → Prop} {i : Nat} {x : Str} {v : V} {u : Value} {Q : Unit → Shared → Prop} (I : Inv X pins σ H s) (hN : X.N.Nodup) (hi : X.N[i]? = some x) (hx : Loc X.env.scope x) (r : RelV v u)
    (h : ∀ s', Inv X pins (σ.set i (some v)) H s' → (∃ a, Heap.SameBut a s.heap s'.heap ∧ (a = X.env.locals ∨ X.env.cells.lookup x = some a)) → Q () s') (hf : X.fn x = true ∨ X.env.scope.names.lookup x = some .local := by first | exact .inl rfl | exact .inr rfl | assumption) : wpAny M A (storeName X.env x u) Q E s := by
  obtain ⟨m, hn, hl⟩ := id I.loc
  have hcls : (X.env.scope.kind == .class || (X.env.scope.kind == .module && X.env.locals != X.env.globals)) = false := by rw [I.ok.kind]; rfl
  have hiσ : i < σ.length := by rw [I.len]; exact (List.getElem?_eq_some_iff.mp hi).1
  have cne := I.cne
  have tracked : ∀ {a : Addr} {h' : Heap}, (∃ o, s.heap.get? a = some o ∧ H a = none) → Heap.SameBut a s.heap h' → HOk X.prog X.w H h' := fun {a h'} ha hs b ob e => by
    obtain ⟨_, _, hfree⟩ := ha
    refine (I.hok b ob e).stay (fun c w' hc q => (hs.2 c ?_).trans q) (fun _ q => q) fun _ _ q => q
    rintro rfl
    rcases hc with rfl | hc
    · rw [hfree] at e; cases e
    · rw [hfree] at hc; cases hc
  rcases hx with hk | hk
  · refine wpAny_storeName_local hk hn (fun h' hn' hs => ?_) hcls
    obtain ⟨oL, _, _, hoL, _⟩ := id hn
    refine h _ ⟨I.ok, I.os, I.bare, ⟨fun b o e n hb hx => ?_, fun b o e n hb hx => ?_, I.base.free, fun b o e hx => ?_, I.base.tups, I.base.frzs, I.base.tbls⟩, ⟨_, hn', fun j y v' e1 e2 e3 => ?_⟩, fun y c e => ?_, I.free, I.freeC, fun p hp => ?_, tracked ⟨oL, hoL, I.free⟩ hs, by simpa using I.len⟩ ⟨_, hs, .inl rfl⟩
    · exact (hs.2 b (Nat.ne_of_lt (Nat.lt_of_lt_of_le (Heap.lt_size e) I.ok.above))).trans (I.base.keep b o e n hb hx)
    · obtain ⟨sl, e1⟩ := I.base.slot b o e n hb hx
      exact ⟨sl, (hs.2 b (Nat.ne_of_lt (Nat.lt_of_lt_of_le (Heap.lt_size e) I.ok.above))).trans e1⟩
    · obtain ⟨o', e1⟩ := I.base.there b o e hx
      exact ⟨o', (hs.2 b (Nat.ne_of_lt (Nat.lt_of_lt_of_le (Heap.lt_size e) I.ok.above))).trans e1⟩
    · by_cases hj : j = i
      · subst hj
        rw [hi] at e1; cases e1
        rw [List.getElem?_set_self hiσ] at e2
        cases e2
        exact ⟨u, r, .inl ⟨hk, by simp⟩⟩
      · rw [List.getElem?_set_ne (Ne.symm hj)] at e2
        obtain ⟨u', r', q⟩ := hl j y v' e1 e2 e3
        refine ⟨u', r', ?_⟩
        rcases q with ⟨k, e⟩ | ⟨k, c, e, z⟩
        · refine .inl ⟨k, ?_⟩
          have : y ≠ x := fun e => hj (nodup_ix hN e1 (e ▸ hi))
          simp [this, e]
        · exact .inr ⟨k, c, e, z.sameBut hs (cne y c e)⟩
    · obtain ⟨w', z⟩ := I.cell y c e
      exact ⟨w', z.sameBut hs (cne y c e)⟩
    · obtain ⟨e, n, ne, nf, d⟩ := I.pin p hp
      exact ⟨(hs.2 p.1 ne).trans e, n, ne, nf, d⟩
  · have hfn : X.fn x = true := by
      rcases hf with z | z
      · exact z
      · rw [z] at hk; cases hk
    obtain ⟨c, hc⟩ := I.ok.has x (.inl hk)
    obtain ⟨w', z⟩ := I.cell x c hc
    refine wpAny_storeName_cell I.ok.kind hk hc z (fun h' hc' hs => ?_)
    obtain ⟨oc, hoc, hocd⟩ := id z
    refine h { s with heap := h' } ⟨I.ok, I.os, I.bare, ⟨fun b o e n hb hx => ?_, fun b o e n hb hx => ?_, I.base.free, fun b o e hx => ?_, I.base.tups, I.base.frzs, I.base.tbls⟩, ⟨m, hn.sameBut hs (Ne.symm (cne x c hc)), fun j y v' e1 e2 e3 => ?_⟩, fun y c' e => ?_, I.free, I.freeC, fun p hp => ?_, tracked ⟨oc, hoc, I.freeC x c hc⟩ hs, by simpa using I.len⟩ ⟨c, hs, .inr hc⟩
    · exact (hs.2 b (Nat.ne_of_lt (Nat.lt_of_lt_of_le (Heap.lt_size e) (I.ok.cab x c hfn hc)))).trans (I.base.keep b o e n hb hx)
    · obtain ⟨sl, e1⟩ := I.base.slot b o e n hb hx
      exact ⟨sl, (hs.2 b (Nat.ne_of_lt (Nat.lt_of_lt_of_le (Heap.lt_size e) (I.ok.cab x c hfn hc)))).trans e1⟩
    · obtain ⟨o', e1⟩ := I.base.there b o e hx
      exact ⟨o', (hs.2 b (Nat.ne_of_lt (Nat.lt_of_lt_of_le (Heap.lt_size e) (I.ok.cab x c hfn hc)))).trans e1⟩
    · by_cases hj : j = i
      · subst hj
        rw [hi] at e1; cases e1
        rw [List.getElem?_set_self hiσ] at e2
        cases e2
        exact ⟨u, r, .inr ⟨.inl hk, c, hc, hc'⟩⟩
      · rw [List.getElem?_set_ne (Ne.symm hj)] at e2
        obtain ⟨u', r', q⟩ := hl j y v' e1 e2 e3
        refine ⟨u', r', ?_⟩
        rcases q with q | ⟨k, c', e, z'⟩
        · exact .inl q
        · refine .inr ⟨k, c', e, z'.sameBut hs ?_⟩
          rintro rfl
          exact hj (nodup_ix hN e1 (I.ok.inj _ _ _ e hc ▸ hi))
    · by_cases hcc : c' = c
      · subst hcc; exact ⟨_, hc'⟩
      · obtain ⟨w2, z2⟩ := I.cell y c' e
        exact ⟨w2, z2.sameBut hs hcc⟩
    · obtain ⟨e, n, ne, nf, d⟩ := I.pin p hp
      refine ⟨(hs.2 p.1 ?_).trans e, n, ne, nf, d⟩
      intro q
      rw [q, hoc] at e
      have q' : oc = p.2 := Option.some.inj e
      exact d w' (by rw [← q']; exact hocd)
theorem store_ok {M : Model} {A : Around} {E : Value → Shared → Prop} {i : Nat} {x : Str} {v : V} {u : Value} {Q : Unit → Shared → Prop} (I : Inv X pins σ H s) (hN : X.N.Nodup) (hi : X.N[i]? = some x) (hx : Loc X.env.scope x) (r : RelV v u)
    (h : ∀ s', Inv X pins (σ.set i (some v)) H s' → Q () s') (hf : X.fn x = true ∨ X.env.scope.names.lookup x = some .local := by first | exact .inl rfl | exact .inr rfl | assumption) : wpAny M A (storeName X.env x u) Q E s :=
  store_ok2 I hN hi hx r (fun s' I' _ => h s' I') hf
/-- behind a call or a block, the state as it is -/
theorem Inv.call' {s' : Shared} {ch : List Addr} (I : Inv X pins σ H s) (ho : s'.os = s.os) (u : Un (frs X.stack) ch H H' s.heap s'.heap) (hok : HOk X.prog X.w H' s'.heap) (hg : AllBare s'.gens)
    (hch : ∀ b ∈ ch, (b ∈ X.ex ∨ X.s₀.heap.objs.size ≤ b) ∧ b ≠ X.env.locals ∧ (∀ x c, X.env.cells.lookup x = some c → c ≠ b) ∧ ∀ p ∈ X.pn ++ pins, p.1 ≠ b) : Inv X pins σ H' s' := by
  obtain ⟨h', g', d', t', o'⟩ := s'
  have e : o' = s.os := ho
  subst e
  exact I.call (g' := g') (t' := t') (d' := d') u hok hg hch
end

/-- an exception: its class, its own dict's address (where it has one), the abstract heap behind it -/
abbrev XK := Value → Option Addr → Hp → Prop
abbrev St := List (Option V)
abbrev VK := V → Hp → Prop
/-- an expression's reading; a test's; an argument list's -/
abbrev TE := St → Hp → VK → Prop
abbrev TT := St → Hp → (Bool → Hp → Prop) → Prop
abbrev TA := St → Hp → (List V → Hp → Prop) → Prop
/-- what is wanted behind a statement -/
structure Ends where
  nx : St → Hp → Prop
  rt : VK
  bk : St → Hp → Prop := fun _ _ => False
  ct : St → Hp → Prop := fun _ _ => False
abbrev TS := Ends → St → Hp → Prop

def EP (X : Cx) (pins : List (Addr × Obj)) (σ : St) (Q : VK) (u : Value) (s' : Shared) : Prop := ∃ v H', Inv X pins σ H' s' ∧ RelV v u ∧ Q v H'
def TP (X : Cx) (pins : List (Addr × Obj)) (σ : St) (Q : Bool → Hp → Prop) (b : Bool) (s' : Shared) : Prop := ∃ H', Inv X pins σ H' s' ∧ Q b H'
def AP (X : Cx) (pins : List (Addr × Obj)) (σ : St) (Q : List V → Hp → Prop) (us : List Value) (s' : Shared) : Prop := ∃ vs H', Inv X pins σ H' s' ∧ Vals vs us ∧ Q vs H'
def SP (X : Cx) (pins : List (Addr × Obj)) (D : Ends) (f : Flow) (s' : Shared) : Prop :=
  match f with
  | .next => ∃ σ' H', Inv X pins σ' H' s' ∧ D.nx σ' H'
  | .brk => ∃ σ' H', Inv X pins σ' H' s' ∧ D.bk σ' H'
  | .cont => ∃ σ' H', Inv X pins σ' H' s' ∧ D.ct σ' H'
  | .ret u => ∃ v σ' H', Inv X pins σ' H' s' ∧ RelV v u ∧ D.rt v H'

def PE (X : Cx) (e : Expr) (t : TE) : Prop :=
  ∀ (pins : List (Addr × Obj)) (s : Shared) (σ : St) (H : Hp) (Q : VK), Inv X pins σ H s → t σ H Q → wpAny (model X.prog X.w) X.A (eval e X.env) (EP X pins σ Q) X.xe s
def PT (X : Cx) (e : Expr) (t : TT) : Prop :=
  ∀ (pins : List (Addr × Obj)) (s : Shared) (σ : St) (H : Hp) (Q : Bool → Hp → Prop), Inv X pins σ H s → t σ H Q → wpAny (model X.prog X.w) X.A (isTrue e X.env (eval e X.env)) (TP X pins σ Q) X.xe s
/-- a test whatever its 'whole' is (and, or) -/
def PW (X : Cx) (e : Expr) (t : TT) : Prop :=
  ∀ (whole : Sem Value) (pins : List (Addr × Obj)) (s : Shared) (σ : St) (H : Hp) (Q : Bool → Hp → Prop), Inv X pins σ H s → t σ H Q → wpAny (model X.prog X.w) X.A (isTrue e X.env whole) (TP X pins σ Q) X.xe s
theorem PW.pt {X : Cx} {e : Expr} {t : TT} (h : PW X e t) : PT X e t := h _
/-- an argument list (no star), from the left -/
def PA (X : Cx) (es : List Expr) (t : TA) : Prop :=
  ∀ (pos : Pos) (pins : List (Addr × Obj)) (s : Shared) (σ : St) (H : Hp) (Q : List V → Hp → Prop), Inv X pins σ H s → t σ H Q → wpAny (model X.prog X.w) X.A (spliced (backTo pos (starEach es X.env))) (AP X pins σ Q) X.xe s
def PS (X : Cx) (st : Stmt) (t : TS) : Prop :=
  ∀ (pins : List (Addr × Obj)) (s : Shared) (σ : St) (H : Hp) (D : Ends), Inv X pins σ H s → t D σ H → wpAny (model X.prog X.w) X.A (exec st X.env) (SP X pins D) X.xe s
def PSs (X : Cx) (st : List Stmt) (t : TS) : Prop :=
  ∀ (pins : List (Addr × Obj)) (s : Shared) (σ : St) (H : Hp) (D : Ends), Inv X pins σ H s → t D σ H → wpAny (model X.prog X.w) X.A (execs st X.env) (SP X pins D) X.xe s
/-- weaken the end -/
theorem thn {α : Type} {t : Sem α} {Q Q' : α → Shared → Prop} {M : Model} {A : Around} {E : Value → Shared → Prop} {s : Shared} (h : wpAny M A t Q E s) (hQ : ∀ a s, Q a s → Q' a s) : wpAny M A t Q' E s := wpAny_mono h hQ fun _ _ x => x
end L2

namespace L2
open PySem PySem.Spec PyProof.Rows
section
variable {X : Cx}

def tVar (i : Nat) : TE := fun σ H Q => ∃ v, σ[i]? = some (some v) ∧ Q v H
def tC (v : V) : TE := fun _ H Q => Q v H
theorem pe_var {i : Nat} {x : Str} {pos : Pos} (hN : X.N[i]? = some x) (hv : Vis X.env.scope x) (hd : (x == ("__debug__" : Str)) = false := by decide) (hcd : (x == ("__classdict__" : Str)) = false := by decide) : PE X (.Name x pos) (tVar i) := by
  intro pins s σ H Q I h
  obtain ⟨v, e, h⟩ := h
  obtain ⟨m, hn, hl⟩ := I.loc
  obtain ⟨u, r, l⟩ := hl i x v hN e hv
  have fin : EP X pins σ Q u s := ⟨v, H, I, r, h⟩
  rcases l with ⟨hk, hm⟩ | ⟨hk, c, hc, hcell⟩
  · exact wpAny_Name (wpAny_loadName_local I.ok.kind hk hn hm fin) hd
  · rcases hk with hk | hk
    · exact wpAny_Name (wpAny_loadName_cell I.ok.kind hk hc hcell fin) hd
    · exact wpAny_Name (wpAny_loadName_free I.ok.kind hk hc hcell fin hcd) hd
theorem pe_int {i j pos} : PE X (.Constant (.int i) j pos) (tC (.int i)) := fun _ _ _ H _ I h => wpAny_Constant_int ⟨.int i, H, I.tok _, ⟨_, rfl⟩, h⟩
theorem pe_bl {b j pos} : PE X (.Constant (.bool b) j pos) (tC (.bl b)) := fun _ _ _ H _ I h => Constant_bool ⟨.bl b, H, I, rfl, h⟩
/-- a global name of the def -/
def Gl (X : Cx) (x : Str) : Prop := X.env.kindOf x = some .globalImplicit
theorem ld_glob {E : Value → Shared → Prop} {pins : List (Addr × Obj)} {s : Shared} {σ : St} {H : Hp} {x : Str} {u : Value} {pos : Pos} {Q : Value → Shared → Prop} (I : Inv X pins σ H s) (hg : Gl X x) (hm : X.mg x = some u) (h : Q u s)
    (hd : (x == ("__debug__" : Str)) = false := by decide) : wpAny (model X.prog X.w) X.A (eval (.Name x pos) X.env) Q E s :=
  Calls.Name_function_global I.ok.kind hg (Calls.loadGlobal_global (by rw [I.ok.glob]; exact I.mod.glob.keeps I.bk) hm h) hd
theorem ld_blt {E : Value → Shared → Prop} {pins : List (Addr × Obj)} {s : Shared} {σ : St} {H : Hp} {x : Str} {u : Value} {pos : Pos} {Q : Value → Shared → Prop} (I : Inv X pins σ H s) (hg : Gl X x) (hm : X.mg x = none) (hv : bootBuiltins x = some u) (h : Q u s)
    (hn : x ≠ "__name__" := by decide) (hd : (x == ("__debug__" : Str)) = false := by decide) : wpAny (model X.prog X.w) X.A (eval (.Name x pos) X.env) Q E s := by
  obtain ⟨mb, h1, h2⟩ := I.mod.blt
  exact Calls.Name_function_global I.ok.kind hg (Calls.loadGlobal_builtin (by rw [I.ok.glob]; exact I.mod.glob.keeps I.bk) hm (by rw [I.ok.blt]; exact h1.keeps I.bk) ((h2 x hn).trans hv) h) hd
/-- a module's constant, a class, a function, as a value -/
theorem pe_glob {x : Str} {v : V} {u : Value} {pos : Pos} (hg : Gl X x) (hm : X.mg x = some u) (r : RelV v u) (hd : (x == ("__debug__" : Str)) = false := by decide) : PE X (.Name x pos) (tC v) :=
  fun _ _ _ H _ I h => ld_glob I hg hm ⟨v, H, I, r, h⟩ hd
theorem pe_bltn {x : Str} {v : V} {u : Value} {pos : Pos} (hg : Gl X x) (hm : X.mg x = none) (hv : bootBuiltins x = some u) (r : RelV v u) (hn : x ≠ "__name__" := by decide) (hd : (x == ("__debug__" : Str)) = false := by decide) : PE X (.Name x pos) (tC v) :=
  fun _ _ _ H _ I h => ld_blt I hg hm hv ⟨v, H, I, r, h⟩ hn hd

variable {a b : Expr} {ta tb : TE} {pos : Pos}
/-- a comparison as a value, as a test -/
def tB (t : TE) : TT := fun σ H Q => t σ H fun x H1 => ∃ c, x = .bl c ∧ Q c H1
/-- an expression whose value is a bool, as a test -/
theorem pt_val {e : Expr} {t : TE} (h : PE X e t) (he : ∀ whole, isTrue e X.env whole = (do let v ← whole; standAt e.pos; holding [v] (truthy v)) := by intro _; rfl) : PT X e (tB t) := by
  intro pins s σ H Q I hw
  refine isTrue_plain (thn (h pins s σ H _ I hw) fun v s1 ⟨x, H1, I1, r1, q1⟩ => ?_) (he _)
  obtain ⟨d, rfl, q⟩ := q1
  cases r1
  exact wpAny_truthy_bool ⟨H1, I1, q⟩

variable {tA tB' : TT} {rest : List Expr}
def tAnd (t u : TT) : TT := fun σ H Q => t σ H fun c H1 => if c = true then u σ H1 Q else Q false H1
def tOr (t u : TT) : TT := fun σ H Q => t σ H fun c H1 => if c = true then Q true H1 else u σ H1 Q
def tNot (t : TT) : TT := fun σ H Q => t σ H fun c H1 => Q (!c) H1
theorem pw_and1 (ha : PT X a tA) : PW X (.BoolOp .And [a] pos) tA := by
  intro wh pins s σ H Q I h
  refine isTrue_and (thn (ha pins s σ H Q I h) fun c s1 e => ?_)
  cases c with
  | true => exact isTrue_and_nil e
  | false => exact e
theorem pw_or1 (ha : PT X a tA) : PW X (.BoolOp .Or [a] pos) tA := by
  intro wh pins s σ H Q I h
  refine isTrue_or (thn (ha pins s σ H Q I h) fun c s1 e => ?_)
  cases c with
  | false => exact isTrue_or_nil e
  | true => exact e
theorem pw_and (ha : PT X a tA) (hb : PW X (.BoolOp .And (b :: rest) pos) tB') : PW X (.BoolOp .And (a :: b :: rest) pos) (tAnd tA tB') := by
  intro wh pins s σ H Q I h
  refine isTrue_and (thn (ha pins s σ H _ I h) fun c s1 ⟨H1, I1, q1⟩ => ?_)
  cases c with
  | true => exact hb wh pins s1 σ H1 Q I1 q1
  | false => exact ⟨H1, I1, q1⟩
theorem pw_or (ha : PT X a tA) (hb : PW X (.BoolOp .Or (b :: rest) pos) tB') : PW X (.BoolOp .Or (a :: b :: rest) pos) (tOr tA tB') := by
  intro wh pins s σ H Q I h
  refine isTrue_or (thn (ha pins s σ H _ I h) fun c s1 ⟨H1, I1, q1⟩ => ?_)
  cases c with
  | true => exact ⟨H1, I1, q1⟩
  | false => exact hb wh pins s1 σ H1 Q I1 q1
theorem pt_not (ha : PT X a tA) : PT X (.UnaryOp .Not a pos) (tNot tA) := by
  intro pins s σ H Q I h
  exact isTrue_not (ha pins s σ H (fun c H1 => Q (!c) H1) I h)
/-- .. as values (bools) -/
def tAndV (ta tb : TE) : TE := fun σ H Q => ta σ H fun x H1 => ∃ c, x = .bl c ∧ if c = true then tb σ H1 Q else Q (.bl false) H1
theorem pe_one {op} {t : TE} (h : PE X a t) : PE X (.BoolOp op [a] pos) t := fun pins s σ H Q I hw => BoolOp_one (h pins s σ H Q I hw)
theorem pe_and (ha : PE X a ta) (hb : PE X (.BoolOp .And (b :: rest) pos) tb) : PE X (.BoolOp .And (a :: b :: rest) pos) (tAndV ta tb) := by
  intro pins s σ H Q I h
  refine BoolOp_and (thn (ha pins s σ H _ I h) fun v s1 ⟨x, H1, I1, r1, q1⟩ => ?_)
  obtain ⟨c, rfl, q1⟩ := q1
  cases r1
  refine wpAny_truthy_bool ?_
  cases c with
  | true => exact hb pins s1 σ H1 Q I1 q1
  | false => exact ⟨.bl false, H1, I1, rfl, q1⟩
/-- a if t else b -/
def tIf (t : TT) (ta tb : TE) : TE := fun σ H Q => t σ H fun c H1 => if c = true then ta σ H1 Q else tb σ H1 Q
theorem pe_ifExp {c : Expr} (hc : PT X c tA) (ha : PE X a ta) (hb : PE X b tb) : PE X (.IfExp c a b pos) (tIf tA ta tb) := by
  intro pins s σ H Q I h
  refine wpAny_IfExp (thn (hc pins s σ H _ I h) fun d s1 ⟨H1, I1, q1⟩ => ?_)
  cases d with
  | true => exact ha pins s1 σ H1 Q I1 q1
  | false => exact hb pins s1 σ H1 Q I1 q1
end
end L2

namespace L2
open PySem PySem.Spec PyProof.Rows

def SqL (K : PySem.W.Frag) (H : Hp) (a : Addr) (xs : List V) : Prop :=
  Rd H a (.lst xs) ∨
    ∃ (o : Obj) (its : Array Value) (n : Nat), K.lookup a = some o ∧ o.cls = .type "list" ∧ o.dict = none ∧ o.data = .seq its n ∧ its.size ≤ sizeLine ∧ Vals xs its.toList
def SqT (K : PySem.W.Frag) (H : Hp) (a : Addr) (xs : List V) : Prop :=
  Rd H a (.tup xs) ∨
    ∃ (o : Obj) (its : Array Value) (n : Nat), K.lookup a = some o ∧ o.cls = .type "tuple" ∧ o.data = .seq its n ∧ its.size ≤ sizeLine ∧ Vals xs its.toList
def absV : Value → Option V
  | .none => some .non
  | .bool b => some (.bl b)
  | .int i _ => some (.int i)
  | .str x _ => some (.str x)
  | .bytes b _ => some (.byt b)
  | .float b _ => some (.flt b)
  | .ref a => some (.ref a)
  | .type n => some (.ty n)
  | _ => none
theorem RelV.abs {x : V} {u : Value} (r : RelV x u) : absV u = some x := by
  cases x with
  | non => cases r; rfl
  | bl _ => cases r; rfl
  | int _ => obtain ⟨t, rfl⟩ := r; rfl
  | str _ => obtain ⟨t, rfl⟩ := r; rfl
  | byt _ => obtain ⟨t, rfl⟩ := r; rfl
  | flt _ => obtain ⟨t, rfl⟩ := r; rfl
  | ref _ => cases r; rfl
  | ty _ => cases r; rfl
theorem RelV.inj {x y : V} {u : Value} (r : RelV x u) (q : RelV y u) : x = y := Option.some.inj (r.abs.symm.trans q.abs)
theorem Vals.inj : ∀ {xs ys : List V} {us : List Value}, Vals xs us → Vals ys us → xs = ys
  | _, _, _, .nil, .nil => rfl
  | _, _, _, .cons r t, .cons r' t' => by rw [r.inj r', Vals.inj t t']
section
variable {X : Cx} {pins : List (Addr × Obj)} {σ : St} {H : Hp} {s : Shared} {a : Addr} {xs ys : List V}
theorem SqL.of {K : PySem.W.Frag} (h : H a = some (.lst xs)) : SqL K H a xs := .inl (.inl h)
theorem SqT.of {K : PySem.W.Frag} (h : H a = some (.tup xs)) : SqT K H a xs := .inl (.inl h)
theorem Inv.list (I : Inv X pins σ H s) (h : SqL X.K H a xs) : ∃ its : List Value, Vals xs its ∧ PlainL s.heap a its.toArray ∧ xs.length ≤ sizeLine := by
  rcases h with h | ⟨o, its, n, hk, hc, hd, hs, hz, r⟩
  · obtain ⟨z, its, n, r, e⟩ := h.ok I.hok
    exact ⟨its, r, ⟨_, n, e, rfl, rfl, rfl⟩, z⟩
  · refine ⟨its.toList, r, ⟨o, n, I.kIn a o hk, hc, hd, by simpa using hs⟩, ?_⟩
    have e := r.length
    simp only [Array.length_toList] at e
    omega
theorem Inv.tuple (I : Inv X pins σ H s) (h : SqT X.K H a xs) : ∃ its : List Value, Vals xs its ∧ IsTup s.heap a its.toArray ∧ xs.length ≤ sizeLine := by
  rcases h with h | ⟨o, its, n, hk, hc, hs, hz, r⟩
  · obtain ⟨z, its, r, p⟩ := h.ok I.hok
    exact ⟨its, r, p, z⟩
  · refine ⟨its.toList, r, ⟨o, I.kIn a o hk, hc, n, by simpa using hs⟩, ?_⟩
    have e := r.length
    simp only [Array.length_toList] at e
    omega
theorem Inv.list_inj (I : Inv X pins σ H s) (h : SqL X.K H a xs) (h' : SqL X.K H a ys) : xs = ys := by
  obtain ⟨its, r, ⟨o, n, e, _, _, d⟩, _⟩ := I.list h
  obtain ⟨its', r', ⟨o', n', e', _, _, d'⟩, _⟩ := I.list h'
  rw [e] at e'; cases e'
  rw [d] at d'
  injection d' with d1 _
  have : its = its' := by simpa using congrArg Array.toList d1
  subst this
  exact r.inj r'
theorem Inv.tuple_inj (I : Inv X pins σ H s) (h : SqT X.K H a xs) (h' : SqT X.K H a ys) : xs = ys := by
  obtain ⟨its, r, ⟨o, e, _, n, d⟩, _⟩ := I.tuple h
  obtain ⟨its', r', ⟨o', e', _, n', d'⟩, _⟩ := I.tuple h'
  rw [e] at e'; cases e'
  rw [d] at d'
  injection d' with d1 _
  have : its = its' := by simpa using congrArg Array.toList d1
  subst this
  exact r.inj r'
end

abbrev Cx.wish (X : Cx) (E : Value → Shared → Prop) : Cx := { X with xe := E }
/-- no exception leaves -/
abbrev Cx.nox (X : Cx) : Cx := X.wish fun _ _ => False
theorem Cx.Ok.wish {X : Cx} (ok : X.Ok) (E : Value → Shared → Prop) : (X.wish E).Ok :=
  ⟨ok.mod, ok.kind, ok.glob, ok.blt, ok.above, ok.inj, ok.has, ok.cab, ok.hd, ok.frames, ok.stk, ok.exf, ok.bs, ok.bsz, ok.noex, ok.exfs, ok.funs, ok.frf⟩
theorem Cx.Ok.unwish {X : Cx} {E : Value → Shared → Prop} (ok : (X.wish E).Ok) : X.Ok :=
  ⟨ok.mod, ok.kind, ok.glob, ok.blt, ok.above, ok.inj, ok.has, ok.cab, ok.hd, ok.frames, ok.stk, ok.exf, ok.bs, ok.bsz, ok.noex, ok.exfs, ok.funs, ok.frf⟩
section
variable {X : Cx} {pins : List (Addr × Obj)} {σ : St} {H : Hp} {s : Shared} {E : Value → Shared → Prop}
theorem Inv.wish (I : Inv X pins σ H s) (E : Value → Shared → Prop) : Inv (X.wish E) pins σ H s := ⟨I.ok.wish E, I.os, I.bare, I.base, I.loc, I.cell, I.free, I.freeC, I.pin, I.hok, I.len⟩
theorem Inv.unwish (I : Inv (X.wish E) pins σ H s) : Inv X pins σ H s := ⟨I.ok.unwish, I.os, I.bare, I.base, I.loc, I.cell, I.free, I.freeC, I.pin, I.hok, I.len⟩
theorem SP.unwish {D : Ends} {f : Flow} {s' : Shared} (h : SP (X.wish E) pins D f s') : SP X pins D f s' := by
  cases f with
  | next => obtain ⟨σ', H', I, q⟩ := h; exact ⟨σ', H', I.unwish, q⟩
  | brk => obtain ⟨σ', H', I, q⟩ := h; exact ⟨σ', H', I.unwish, q⟩
  | cont => obtain ⟨σ', H', I, q⟩ := h; exact ⟨σ', H', I.unwish, q⟩
  | ret u => obtain ⟨v, σ', H', I, r, q⟩ := h; exact ⟨v, σ', H', I.unwish, r, q⟩
theorem PSs.nox {st : List Stmt} {t : TS} (h : PSs X.nox st t) : PSs X st t := fun pins s σ H D I hw =>
  wpAny_mono (h pins s σ H D (I.wish _) hw) (fun _ _ q => q.unwish) fun _ _ z => False.elim z
end

section
variable {X : Cx} {st : Stmt} {rest : List Stmt} {t u : TS} {e : Expr} {te : TE} {pos : Pos}
def tNext : TS := fun D σ H => D.nx σ H
def tSeq (t u : TS) : TS := fun D σ H => t { D with nx := u D } σ H
theorem pss_nil : PSs X [] tNext := fun _ _ σ H _ I h => wpAny_execs_nil ⟨σ, H, I, h⟩
theorem pss_cons (h1 : PS X st t) (h2 : PSs X rest u) : PSs X (st :: rest) (tSeq t u) := by
  intro pins s σ H D I h
  refine wpAny_execs_cons (thn (h1 pins s σ H { D with nx := u D } I h) fun f s1 q => ?_)
  cases f with
  | next =>
    obtain ⟨σ', H', I', q⟩ := q
    exact h2 pins s1 σ' H' D I' q
  | ret v => exact q
  | brk => exact q
  | cont => exact q
theorem pss_one (h1 : PS X st t) : PSs X [st] t := by
  intro pins s σ H D I h
  refine wpAny_execs_cons (thn (h1 pins s σ H D I h) fun f s1 q => ?_)
  cases f with
  | next => exact wpAny_execs_nil q
  | ret v => exact q
  | brk => exact q
  | cont => exact q
/-- in a def's body nothing is shown -/
theorem Inv.quiet {pins : List (Addr × Obj)} {σ : St} {H : Hp} {s : Shared} (I : Inv X pins σ H s) : interactive X.env = false := by simp [interactive, I.ok.kind]
/-- an expression whose value is dropped -/
def tDrop (te : TE) : TS := fun D σ H => te σ H fun _ H1 => D.nx σ H1
theorem ps_expr (he : PE X e te) (hs : swapsWith e none pos.line X.env = pure false := by rfl) : PS X (.Expr e pos) (tDrop te) := by
  intro pins s σ H D I h
  exact wpAny_Expr_any (thn (he pins s σ H _ I h) fun v s1 ⟨x, H1, I1, r1, q1⟩ => ⟨σ, H1, I1, q1⟩) I.quiet hs
def tRet (te : TE) : TS := fun D σ H => te σ H D.rt
theorem ps_ret (he : PE X e te) : PS X (.Return (some e) pos) (tRet te) := by
  intro pins s σ H D I h
  exact wpAny_Return_some (thn (he pins s σ H _ I h) fun v s1 ⟨x, H1, I1, r1, q1⟩ => ⟨x, σ, H1, I1, r1, q1⟩)
def tIfS (c : TT) (t u : TS) : TS := fun D σ H => c σ H fun b H1 => if b = true then t D σ H1 else u D σ H1
theorem ps_if {c : Expr} {a b : List Stmt} {tc : TT} (hc : PT X c tc) (ha : PSs X a t) (hb : PSs X b u) : PS X (.If c a b pos) (tIfS tc t u) := by
  intro pins s σ H D I h
  refine wpAny_If (thn (hc pins s σ H _ I h) fun d s1 ⟨H1, I1, q1⟩ => ?_)
  cases d with
  | true => exact ha pins s1 σ H1 D I1 q1
  | false => exact hb pins s1 σ H1 D I1 q1
/-- code that the proof never comes to -/
def tNever : TS := fun _ _ _ => False
theorem pss_never {sts : List Stmt} : PSs X sts tNever := fun _ _ _ _ _ _ h => h.elim
end

abbrev TG := V → St → Hp → (St → Hp → Prop) → Prop
abbrev TGs := List V → St → Hp → (St → Hp → Prop) → Prop
def PG (X : Cx) (target : Expr) (t : TG) : Prop :=
  ∀ (pins : List (Addr × Obj)) (s : Shared) (σ : St) (H : Hp) (v : V) (u : Value) (Q : St → Hp → Prop), Inv X pins σ H s → RelV v u → t v σ H Q →
    wpAny (model X.prog X.w) X.A (assign target X.env u) (fun _ s' => ∃ σ' H', Inv X pins σ' H' s' ∧ Q σ' H') X.xe s
/-- several targets, one after another -/
def PGs (X : Cx) (ts : List Expr) (t : TGs) : Prop :=
  ∀ (pins : List (Addr × Obj)) (s : Shared) (σ : St) (H : Hp) (vs : List V) (us : List Value) (Q : St → Hp → Prop), Inv X pins σ H s → Vals vs us → t vs σ H Q →
    wpAny (model X.prog X.w) X.A (assignInOrder ((assignEach ts X.env).map (·.2)) us) (fun _ s' => ∃ σ' H', Inv X pins σ' H' s' ∧ Q σ' H') X.xe s
/-- o[i] = v, by values -/
abbrev TSet := V → V → V → Hp → (Hp → Prop) → Prop
def PSet (X : Cx) (t : TSet) : Prop :=
  ∀ (pins : List (Addr × Obj)) (s : Shared) (σ : St) (H : Hp) (o i v : V) (ov iv u : Value) (Q : Hp → Prop), Inv X pins σ H s → RelV o ov → RelV i iv → RelV v u → t o i v H Q →
    wpAny (model X.prog X.w) X.A (setItem ov iv u) (fun _ s' => ∃ H', Inv X pins σ H' s' ∧ Q H') X.xe s
section
variable {X : Cx} {pos : Pos}
def gName (i : Nat) : TG := fun v σ H Q => Q (σ.set i (some v)) H
theorem pg_name {i : Nat} {x : Str} (hN : X.N.Nodup) (hi : X.N[i]? = some x) (hx : Loc X.env.scope x) (hf : X.fn x = true ∨ X.env.scope.names.lookup x = some .local := by first | exact .inl rfl | exact .inr rfl | assumption) : PG X (.Name x pos) (gName i) := by
  intro pins s σ H v u Q I r h
  exact wpAny_assign_Name (store_ok I hN hi hx r (fun s' I' => ⟨_, H, I', h⟩) hf)
def gNil : TGs := fun vs σ H Q => vs = [] ∧ Q σ H
def gCons (t : TG) (u : TGs) : TGs := fun vs σ H Q => ∃ v r, vs = v :: r ∧ t v σ H fun σ' H' => u r σ' H' Q
theorem pgs_nil : PGs X [] gNil := by
  intro pins s σ H vs us Q I r h
  obtain ⟨e, h⟩ := h
  subst e
  cases r
  exact assignInOrder_nil ⟨σ, H, I, h⟩
theorem pgs_cons {e : Expr} {es : List Expr} {t : TG} {u : TGs} (h1 : PG X e t) (h2 : PGs X es u)
    (hs : (assignEach (e :: es) X.env).map (·.2) = assign e X.env :: (assignEach es X.env).map (·.2) := by rfl) : PGs X (e :: es) (gCons t u) := by
  intro pins s σ H vs us Q I r h
  obtain ⟨v, vr, e1, h⟩ := h
  subst e1
  cases r with
  | cons r rr =>
    rw [hs]
    refine assignInOrder_cons (thn (h1 pins s σ H _ _ _ I r h) fun _ s1 ⟨σ1, H1, I1, q1⟩ => ?_)
    exact h2 pins s1 σ1 H1 _ _ Q I1 rr q1
/-- (a, b, ..) = a tuple of that length -/
def gTup (K : PySem.W.Frag) (n : Nat) (t : TGs) : TG := fun v σ H Q => ∃ a xs, v = .ref a ∧ SqT K H a xs ∧ xs.length = n ∧ t xs σ H Q
theorem pg_tup {es : List Expr} {k : Nat} {t : TGs} {n : Nat} (hc : X.calm = true) (h : PGs X es t)
    (hn : (assignEach es X.env).length = n := by rfl) (hst : (assignEach es X.env).findIdx? (·.1) = none := by rfl) : PG X (.Tuple es k pos) (gTup X.K n t) := by
  intro pins s σ H v u Q I r hw
  obtain ⟨a, xs, e1, hq, hl, hw⟩ := hw
  subst e1
  cases r
  obtain ⟨its, rv, ht, hz⟩ := I.tuple hq
  refine assign_Tuple_tuple (I.ok.hd hc) ht (by simp [hn, ← hl, rv.length]) hst fun h' hx => ?_
  have I1 : Inv X pins σ H { s with heap := h' } := I.kept (t' := s.toks) fun b o e => hx b o (Nat.ne_of_lt (Heap.lt_size e)) e
  exact h pins _ σ H xs _ Q I1 (by simpa using rv) hw
/-- o[i] = .. -/
def gSub (to ti : TE) (t : TSet) : TG := fun v σ H Q => to σ H fun o H1 => ti σ H1 fun i H2 => t o i v H2 fun H3 => Q σ H3
theorem pg_sub {o i : Expr} {to ti : TE} {t : TSet} (ho : PE X o to) (hi : PE X i ti) (hs : PSet X t)
    (ha : ∀ v, assign (.Subscript o i pos) X.env v = (do
      let ov ← holding [v] (eval o X.env)
      let iv ← holding [v, ov] (eval i X.env)
      standAt pos
      holding [v, ov, iv] (setItem ov iv v)
      release [v, ov, iv] []) := by intro _; rfl) : PG X (.Subscript o i pos) (gSub to ti t) := by
  intro pins s σ H v u Q I r h
  rw [ha]
  refine wpAny_bind (wpAny_holding (thn (ho pins s σ H _ I h) fun ov s1 ⟨x, H1, I1, r1, q1⟩ => ?_))
  refine wpAny_bind (wpAny_holding (thn (hi pins s1 σ H1 _ I1 q1) fun iv s2 ⟨y, H2, I2, r2, q2⟩ => ?_))
  refine wpAny_bind (wpAny_standAt (wpAny_bind (wpAny_holding (thn (hs pins s2 σ H2 x y v ov iv u _ I2 r1 r2 r q2) fun _ s3 ⟨H3, I3, q3⟩ => ?_))))
  exact wpAny_release ⟨σ, H3, I3, q3⟩
/-- target = value -/
def tAsg (te : TE) (g : TG) : TS := fun D σ H => te σ H fun x H1 => g x σ H1 D.nx
theorem ps_asg {tg e : Expr} {te : TE} {g : TG} (he : PE X e te) (hg : PG X tg g) (hs : swapsWithSole [tg] e pos.line X.env = pure false := by rfl) (hw : swappedStores [tg] e X.env = pure none := by rfl)
    (h1 : (assignEach [tg] X.env).map (·.2) = [assign tg X.env] := by rfl) : PS X (.Assign [tg] e pos) (tAsg te g) := by
  intro pins s σ H D I h
  refine wpAny_Assign_stores (thn (he pins s σ H _ I h) fun v s1 ⟨x, H1, I1, r1, q1⟩ => ?_) hs hw
  rw [h1]
  exact thn (hg pins s1 σ H1 x v _ I1 r1 q1) fun _ s2 q => q
/-- name = value -/
theorem ps_set {i : Nat} {x : Str} {e : Expr} {te : TE} {pos' : Pos} (hN : X.N.Nodup) (hi : X.N[i]? = some x) (hx : Loc X.env.scope x) (he : PE X e te) (hs : swapsWith e (some (.Name x pos')) pos.line X.env = pure false := by rfl) (hf : X.fn x = true ∨ X.env.scope.names.lookup x = some .local := by first | exact .inl rfl | exact .inr rfl | assumption) :
    PS X (.Assign [.Name x pos'] e pos) (tAsg te (gName i)) := by
  intro pins s σ H D I h
  refine wpAny_Assign_Name (thn (he pins s σ H _ I h) fun v s1 ⟨y, H1, I1, r1, q1⟩ => ?_) hs
  exact store_ok I1 hN hi hx r1 (fun s2 I2 => ⟨_, H1, I2, q1⟩) hf
end

section
variable {X : Cx} {pos : Pos}
end

/-- at turn i: it yields x (the heap may grow), or it stops -/
structure It where
  go : Nat → Hp → Prop
  yld : Nat → Hp → V → Hp → Prop
  stop : Nat → Hp → Prop
/-- the iterator's own objects may turn: they are not the frame's, not pinned, younger than the entry (or a comprehension's own) -/
def FpOk (X : Cx) (pins : List (Addr × Obj)) (H : Hp) (b : Addr) : Prop :=
  H b = none ∧ b ≠ X.env.locals ∧ b ∉ X.fs ∧ (b ∈ X.ex ∨ X.s₀.heap.objs.size ≤ b) ∧ (∀ x c, X.env.cells.lookup x = some c → c ≠ b) ∧ ∀ p ∈ X.pn ++ pins, p.1 ≠ b
theorem Inv.fpOk {X : Cx} {pins : List (Addr × Obj)} {σ : St} {H H' : Hp} {s : Shared} {b : Addr} (I : Inv X pins σ H s) (hb : s.heap.objs.size ≤ b) (hn : H' b = none) : FpOk X pins H' b := by
  refine ⟨hn, Nat.ne_of_gt (Nat.lt_of_lt_of_le I.lt hb), I.nofs hb, .inr (Nat.le_trans I.sz hb), fun x c e z => ?_, fun p hp z => ?_⟩
  · obtain ⟨v, q⟩ := I.cell x c e
    exact absurd (Nat.lt_of_lt_of_le q.lt (by rw [z]; exact hb)) (Nat.lt_irrefl _)
  · exact absurd (Nat.lt_of_lt_of_le (Heap.lt_size (I.pin p hp).1) (by rw [z]; exact hb)) (Nat.lt_irrefl _)
structure Turn (P : Program) (w : World) (K : PySem.W.Frag) (tg : Expr) (J : It) (fp : List Addr) (it : Addr) (tn : Nat → Heap → Prop) : Prop where
  mem : it ∈ fp
  obj : ∀ i h, tn i h → ∀ b ∈ fp, ∃ o, h.get? b = some o ∧ ∀ v, o.data ≠ .cell v
  keep : ∀ i h h', tn i h → (∀ b ∈ fp, ∀ o, h.get? b = some o → h'.get? b = some o) → tn i h'
  item : ∀ (X : Cx), X.prog = P → X.w = w → X.K = K → X.calm = true → ∀ (i : Nat) (pins : List (Addr × Obj)) (s : Shared) (σ : St) (H : Hp) (E : Value → Shared → Prop), Inv X pins σ H s → (∀ b ∈ fp, FpOk X pins H b) → tn i s.heap → J.go i H →
    wpAny (model P w) X.A (pyNext (.ref it)) (fun r s1 => ∃ u, r = some u ∧
      wpAny (model P w) X.A (letOwnedTupleGo tg (.ref it) u) (fun _ s2 => ∃ x H', Inv X pins σ H' s2 ∧ RelV x u ∧ J.yld i H x H' ∧ tn (i + 1) s2.heap ∧ ∀ b ∈ fp, H' b = none) E s1) E s
  done : ∀ (X : Cx), X.prog = P → X.w = w → X.K = K → X.calm = true → ∀ (i : Nat) (pins : List (Addr × Obj)) (s : Shared) (σ : St) (H : Hp) (E : Value → Shared → Prop), Inv X pins σ H s → (∀ b ∈ fp, FpOk X pins H b) → tn i s.heap → J.stop i H →
    wpAny (model P w) X.A (pyNext (.ref it)) (fun r s1 => r = none ∧ Inv X pins σ H s1) E s
  self : ∀ (A : Around) (i : Nat) (s : Shared) (Q : Value → Shared → Prop) (E : Value → Shared → Prop), tn i s.heap → Q (.ref it) s → wpAny (model P w) A (pyIter (.ref it)) Q E s
abbrev TI := St → Hp → (It → Hp → Prop) → Prop
/-- an iterator has come -/
def PIE (X : Cx) (pins : List (Addr × Obj)) (σ : St) (tg : Expr) (R : It → Hp → Prop) (itv : Value) (s2 : Shared) : Prop :=
  ∃ (it : Addr) (fp : List Addr) (tn : Nat → Heap → Prop) (J : It) (H' : Hp), itv = .ref it ∧ Inv X pins σ H' s2 ∧ Turn X.prog X.w X.K tg J fp it tn ∧ tn 0 s2.heap ∧ (∀ b ∈ fp, FpOk X pins H' b) ∧ R J H'
def PI (X : Cx) (tg iter : Expr) (wi : TI) : Prop :=
  ∀ (pins : List (Addr × Obj)) (s : Shared) (σ : St) (H : Hp) (R : It → Hp → Prop), Inv X pins σ H s → wi σ H R →
    wpAny (model X.prog X.w) X.A (eval iter X.env) (fun v s1 => wpAny (model X.prog X.w) X.A (pyIter v) (PIE X pins σ tg R) X.xe s1) X.xe s

/-- the step ahead of the store is nothing for an iterator that keeps no tuple -/
theorem go_of {M : Model} {A : Around} {E : Value → Shared → Prop} {s : Shared} {tg : Expr} {it : Addr} {u : Value} {o : Obj} {n : String} {vs : Array Value} {Q : Unit → Shared → Prop} (ho : s.heap.get? it = some o) (hc : o.cls = .type n) (hd : o.data = .fields vs)
    (hn : ["enumerate", "zip", "dict_itemiterator", "dict_reverseitemiterator", "odict_iterator", "itertools.zip_longest", "itertools.pairwise"].contains n = false) (hQ : Q () s) : wpAny M A (letOwnedTupleGo tg (.ref it) u) Q E s := by
  unfold letOwnedTupleGo
  cases tg <;> first
    | exact wpAny_pure hQ
    | (cases u <;> first
        | exact wpAny_pure hQ
        | (refine wpAny_bind (wpAny_load ho ?_)
           rw [hc, hd]
           show wpAny M A (if (["enumerate", "zip", "dict_itemiterator", "dict_reverseitemiterator", "odict_iterator", "itertools.zip_longest", "itertools.pairwise"].contains n && vs[0]? == some (rawInt _)) = true then _ else _) Q E s
           rw [if_neg (by intro h; rw [hn, Bool.false_and] at h; cases h)]
           exact wpAny_pure hQ))

/-- the list at a, as it stands at each turn (a loop may append to it) -/
def Itl (K : PySem.W.Frag) (a : Addr) : It :=
  ⟨fun i H => ∃ xs x, SqL K H a xs ∧ xs[i]? = some x, fun i H x H' => H' = H ∧ ∀ xs, SqL K H a xs → xs[i]? = some x, fun i H => ∃ xs, SqL K H a xs ∧ xs.length ≤ i⟩
def Itt (K : PySem.W.Frag) (a : Addr) : It :=
  ⟨fun i H => ∃ xs x, SqT K H a xs ∧ xs[i]? = some x, fun i H x H' => H' = H ∧ ∀ xs, SqT K H a xs → xs[i]? = some x, fun i H => ∃ xs, SqT K H a xs ∧ xs.length ≤ i⟩
/-- lo, lo + 1, .. (n of them) -/
def Itr (lo : Int) (n : Nat) : It := ⟨fun i _ => i < n, fun i H x H' => H' = H ∧ x = .int (lo + i), fun i _ => n ≤ i⟩
theorem turn_list {P : Program} {w : World} {K : PySem.W.Frag} {tg : Expr} (a it : Addr) : Turn P w K tg (Itl K a) [it] it (fun i h => h.IsListIter it a i) where
  mem := by simp
  obj := fun i h st b hb => by
    have e : b = it := by simpa using hb
    subst e
    obtain ⟨o, e, c, d⟩ := st
    exact ⟨o, e, fun v z => by rw [d] at z; cases z⟩
  keep := fun i h h' st k => st.at fun o e => k it (by simp) o e
  item := by
    intro X hP hw hK hc i pins s σ H E I hf st hg
    subst hP hw hK
    obtain ⟨xs, x, hq, hx⟩ := hg
    obtain ⟨its, rv, p, hz⟩ := I.list hq
    obtain ⟨u, hu, ru⟩ := rv.get hx
    obtain ⟨f0, f1, f2, f3, f4, f5⟩ := hf it (by simp)
    refine wpAny_pyNext_list_item st p.isList (x := u) (by simpa using hu) fun h' st' sb => ?_
    have I1 : Inv X pins σ H { s with heap := h' } := I.turned (t' := s.toks) (fun b o hb e => (sb.2 b hb).trans e) f0 f1 f3 f4 f5
    obtain ⟨o, e, c, d⟩ := id st'
    exact ⟨u, rfl, go_of (s := { s with heap := h' }) e c d (by decide) ⟨x, H, I1, ru, ⟨rfl, fun ys hy => by rw [I.list_inj hy hq]; exact hx⟩, st', fun b hb => (hf b hb).1⟩⟩
  done := by
    intro X hP hw hK hc i pins s σ H E I hf st hg
    subst hP hw hK
    obtain ⟨xs, hq, hx⟩ := hg
    obtain ⟨its, rv, p, hz⟩ := I.list hq
    obtain ⟨f0, f1, f2, f3, f4, f5⟩ := hf it (by simp)
    have hl := rv.length
    exact wpAny_pyNext_list_end (I.ok.hd hc) st p.isList (by simp; omega) fun h' eb => ⟨rfl, I.turned (t' := s.toks) (fun b o hb e => eb b o hb e) f0 f1 f3 f4 f5⟩
  self := fun _ _ _ _ _ st h => wpAny_pyIter_listiter st h
theorem turn_tuple {P : Program} {w : World} {K : PySem.W.Frag} {tg : Expr} (a it : Addr) : Turn P w K tg (Itt K a) [it] it (fun i h => h.IsTupleIter it a i) where
  mem := by simp
  obj := fun i h st b hb => by
    have e : b = it := by simpa using hb
    subst e
    obtain ⟨o, e, c, d⟩ := st
    exact ⟨o, e, fun v z => by rw [d] at z; cases z⟩
  keep := fun i h h' st k => st.at fun o e => k it (by simp) o e
  item := by
    intro X hP hw hK hc i pins s σ H E I hf st hg
    subst hP hw hK
    obtain ⟨xs, x, hq, hx⟩ := hg
    obtain ⟨its, rv, p, hz⟩ := I.tuple hq
    obtain ⟨u, hu, ru⟩ := rv.get hx
    obtain ⟨f0, f1, f2, f3, f4, f5⟩ := hf it (by simp)
    refine wpAny_pyNext_tuple_item st (show s.heap.IsTuple a its.toArray from p) (x := u) (by simpa using hu) fun h' st' sb => ?_
    have I1 : Inv X pins σ H { s with heap := h' } := I.turned (t' := s.toks) (fun b o hb e => (sb.2 b hb).trans e) f0 f1 f3 f4 f5
    obtain ⟨o, e, c, d⟩ := id st'
    exact ⟨u, rfl, go_of (s := { s with heap := h' }) e c d (by decide) ⟨x, H, I1, ru, ⟨rfl, fun ys hy => by rw [I.tuple_inj hy hq]; exact hx⟩, st', fun b hb => (hf b hb).1⟩⟩
  done := by
    intro X hP hw hK hc i pins s σ H E I hf st hg
    subst hP hw hK
    obtain ⟨xs, hq, hx⟩ := hg
    obtain ⟨its, rv, p, hz⟩ := I.tuple hq
    obtain ⟨f0, f1, f2, f3, f4, f5⟩ := hf it (by simp)
    have hl := rv.length
    exact wpAny_pyNext_tuple_end (I.ok.hd hc) st (show s.heap.IsTuple a its.toArray from p) (by simp; omega) fun h' eb => ⟨rfl, I.turned (t' := s.toks) (fun b o hb e => eb b o hb e) f0 f1 f3 f4 f5⟩
  self := fun _ _ _ _ _ st h => wpAny_pyIter_tupleiter st h
theorem turn_range {P : Program} {w : World} {K : PySem.W.Frag} {tg : Expr} (it : Addr) (lo : Int) (n : Nat) : Turn P w K tg (Itr lo n) [it] it (fun i h => IsRangeIter h it (lo + (i : Nat) * 1) ((n : Int) - (i : Nat)) 1) where
  mem := by simp
  obj := fun i h st b hb => by
    have e : b = it := by simpa using hb
    subst e
    exact ⟨_, st, fun v z => by
      have z' : Data.fields _ = Data.cell v := z
      cases z'⟩
  keep := fun i h h' st k => k it (by simp) _ st
  item := by
    intro X hP hw hK hc i pins s σ H E I hf st hg
    subst hP hw hK
    obtain ⟨f0, f1, f2, f3, f4, f5⟩ := hf it (by simp)
    have W := Walks.range (prog := X.prog) (w := X.w) (I.ok.hd hc) it lo 1 n
    refine W.item i s _ _ hg st fun v h' tk hv st' kk => ?_
    obtain ⟨t, rfl⟩ := hv
    have I1 : Inv X pins σ H { s with heap := h', toks := tk } := I.turned (fun b o hb e => kk b o (by simpa using hb) e) f0 f1 f3 f4 f5
    refine ⟨_, rfl, go_of (s := { s with heap := h', toks := tk }) (n := "range_iterator") st' rfl rfl (by decide) ⟨.int (lo + i), H, I1, ⟨t, ?_⟩, ⟨rfl, rfl⟩, st', fun b hb => (hf b hb).1⟩⟩
    rw [Int.mul_one]
  done := by
    intro X hP hw hK hc i pins s σ H E I hf st hg
    subst hP hw hK
    obtain ⟨f0, f1, f2, f3, f4, f5⟩ := hf it (by simp)
    exact wpAny_pyNext_range_end (I.ok.hd hc) st (by have : n ≤ i := hg; omega) fun h' eb => ⟨rfl, I.turned (t' := s.toks) (fun b o hb e => eb b o hb e) f0 f1 f3 f4 f5⟩
  self := fun _ _ _ _ _ st h => wpAny_pyIter_rangeiter st h
end L2

namespace L2
open PySem PySem.Spec PyProof.Rows
section
variable {X : Cx} {tg : Expr}
def iList (K : PySem.W.Frag) (tl : TE) : TI := fun σ H R => tl σ H fun x H1 => ∃ a, x = .ref a ∧ (∃ xs, SqL K H1 a xs) ∧ R (Itl K a) H1
def iTup (K : PySem.W.Frag) (tl : TE) : TI := fun σ H R => tl σ H fun x H1 => ∃ a, x = .ref a ∧ (∃ xs, SqT K H1 a xs) ∧ R (Itt K a) H1
theorem pi_list {l : Expr} {tl : TE} (hl : PE X l tl) : PI X tg l (iList X.K tl) := by
  intro pins s σ H R I h
  refine thn (hl pins s σ H _ I h) fun v s1 ⟨x, H1, I1, r1, q1⟩ => ?_
  obtain ⟨a, e, ⟨xs, hq⟩, q⟩ := q1
  subst e
  cases r1
  obtain ⟨its, rv, p, hz⟩ := I1.list hq
  refine wpAny_pyIter_list p.isList ?_
  refine ⟨s1.heap.objs.size, [s1.heap.objs.size], _, _, H1, rfl, I1.kept (t' := s1.toks) fun b o e => Heap.get?_push_of_some _ e, turn_list a _, ⟨_, Heap.get?_push_size _ rfl, rfl, rfl⟩, fun b hb => ?_, q⟩
  have e : b = s1.heap.objs.size := by simpa using hb
  subst e
  exact I1.fpOk (Nat.le_refl _) (I1.hok.fresh (Nat.le_refl _))
theorem pi_tup {l : Expr} {tl : TE} (hl : PE X l tl) : PI X tg l (iTup X.K tl) := by
  intro pins s σ H R I h
  refine thn (hl pins s σ H _ I h) fun v s1 ⟨x, H1, I1, r1, q1⟩ => ?_
  obtain ⟨a, e, ⟨xs, hq⟩, q⟩ := q1
  subst e
  cases r1
  obtain ⟨its, rv, p, hz⟩ := I1.tuple hq
  refine wpAny_pyIter_tuple (show s1.heap.IsTuple a its.toArray from p) ?_
  refine ⟨s1.heap.objs.size, [s1.heap.objs.size], _, _, H1, rfl, I1.kept (t' := s1.toks) fun b o e => Heap.get?_push_of_some _ e, turn_tuple a _, ⟨_, Heap.get?_push_size _ rfl, rfl, rfl⟩, fun b hb => ?_, q⟩
  have e : b = s1.heap.objs.size := by simpa using hb
  subst e
  exact I1.fpOk (Nat.le_refl _) (I1.hok.fresh (Nat.le_refl _))
/-- a range object just made, walked -/
theorem range_it {pins : List (Addr × Obj)} {σ : St} {H : Hp} {s : Shared} {R : It → Hp → Prop} {E : Value → Shared → Prop} {lo hi : Int} {t u v : Tok} {tk : Nat} (I : Inv X pins σ H s) (h1 : -(2 ^ 62) ≤ lo) (h2 : lo < 2 ^ 62) (h3 : -(2 ^ 62) ≤ hi) (h4 : hi < 2 ^ 62)
    (q : R (Itr lo (hi - lo).toNat) H) : wpAny (model X.prog X.w) X.A (pyIter (.ref s.heap.objs.size)) (PIE X pins σ tg R) E { s with heap := s.heap.push { cls := .type "range", data := .fields #[.int lo t, .int hi u, .int 1 v] }, toks := tk } := by
  refine wpAny_pyIter_range (IsRange.new ..) (small_one h1 h2 h3 h4) ?_
  have I1 : Inv X pins σ H { s with heap := s.heap.push { cls := .type "range", data := .fields #[.int lo t, .int hi u, .int 1 v] }, toks := tk } := I.kept fun b o e => Heap.get?_push_of_some _ e
  refine ⟨(s.heap.push { cls := .type "range", data := .fields #[.int lo t, .int hi u, .int 1 v] }).objs.size, [(s.heap.push { cls := .type "range", data := .fields #[.int lo t, .int hi u, .int 1 v] }).objs.size], _, _, H, rfl,
    I1.kept (t' := tk) fun b o e => Heap.get?_push_of_some _ e, turn_range _ lo (hi - lo).toNat, ?_, fun b hb => ?_, q⟩
  · have e1 : lo + ((0 : Nat) : Int) * 1 = lo := by simp
    have e2 : (((hi - lo).toNat : Nat) : Int) - ((0 : Nat) : Int) = Builtin.Range.rangeSize lo hi 1 := by rw [rangeSize_one]; split <;> omega
    show IsRangeIter _ _ (lo + ((0 : Nat) : Int) * 1) ((((hi - lo).toNat : Nat) : Int) - ((0 : Nat) : Int)) 1
    rw [e1, e2]
    exact Heap.get?_push_size _ rfl
  · have e : b = (s.heap.push { cls := .type "range", data := .fields #[.int lo t, .int hi u, .int 1 v] }).objs.size := by simpa using hb
    subst e
    exact I1.fpOk (Nat.le_refl _) (I1.hok.fresh (Nat.le_refl _))
def iRng1 (ta : TA) : TI := fun σ H R => ta σ H fun vs H1 => ∃ j : Int, vs = [.int j] ∧ -(2 ^ 62) ≤ j ∧ j < 2 ^ 62 ∧ R (Itr 0 j.toNat) H1
theorem pi_range1 {a : Expr} {ta : TA} {p pos : Pos} (hg : Gl X "range") (hm : X.mg "range" = none) (ha : PA X [a] ta) (hs : starEach [a] X.env = [(false, eval a X.env)] := by rfl) : PI X tg (.Call (.Name "range" p) [a] [] pos) (iRng1 ta) := by
  intro pins s σ H R I h
  refine Call_ (ld_blt I hg hm boot_range (PyProof.Rows.callWith_type1 (thn (ha pos pins s σ H _ I h) fun us s1 ⟨vs, H1, I1, r1, q1⟩ => ?_) hs rfl))
  obtain ⟨j, e, q1, q2, q⟩ := q1
  subst e
  cases r1 with
  | cons r rr =>
    cases rr
    obtain ⟨t, rfl⟩ := r
    exact call_range_1 (range_it I1 (by omega) (by omega) q1 q2 (by simpa using q))
/-- W: the invariant by the turn and a measure; N: what the body is to reach -/
def tFor (wi : TI) (g : TG) (tb : TS) : TS := fun D σ H => wi σ H fun J H1 => ∃ W : Nat → Nat → St → Hp → Prop, (∃ m, W 0 m σ H1) ∧ ∀ i m σ H, W i m σ H →
  (J.stop i H ∧ D.nx σ H) ∨ (J.go i H ∧ ∃ N : St → Hp → Prop, (∀ σ' H', N σ' H' → ∃ m', m' < m ∧ W (i + 1) m' σ' H') ∧ ∀ x H', J.yld i H x H' → g x σ H' fun σ2 H2 => tb { D with nx := N, ct := N, bk := D.nx } σ2 H2)
/-- the records at fp as they stand -/
def pinsAt (fp : List Addr) (h : Heap) : List (Addr × Obj) := fp.filterMap fun b => (h.get? b).map fun o => (b, o)
theorem mem_pinsAt {fp : List Addr} {h : Heap} {b : Addr} {o : Obj} (hb : b ∈ fp) (e : h.get? b = some o) : (b, o) ∈ pinsAt fp h := List.mem_filterMap.mpr ⟨b, hb, by rw [e]; rfl⟩
theorem of_pinsAt {fp : List Addr} {h : Heap} {p : Addr × Obj} (hp : p ∈ pinsAt fp h) : p.1 ∈ fp ∧ h.get? p.1 = some p.2 := by
  obtain ⟨b, hb, e⟩ := List.mem_filterMap.mp hp
  cases q : h.get? b with
  | none => rw [q] at e; cases e
  | some o =>
    rw [q] at e
    have e' : (b, o) = p := Option.some.inj e
    subst e'
    exact ⟨hb, q⟩
theorem Inv.pinned {pins : List (Addr × Obj)} {σ : St} {H : Hp} {s : Shared} {fp : List Addr} (I : Inv X pins σ H s) (hf : ∀ b ∈ fp, FpOk X pins H b) (ho : ∀ b ∈ fp, ∃ o, s.heap.get? b = some o ∧ ∀ v, o.data ≠ .cell v) : Inv X (pins ++ pinsAt fp s.heap) σ H s :=
  I.pins_of fun p hp => (List.mem_append.mp hp).elim (fun z => I.pin p (List.mem_append_right _ z)) fun z => by
    obtain ⟨hb, e⟩ := of_pinsAt z
    obtain ⟨f0, f1, f2, _⟩ := hf p.1 hb
    obtain ⟨o, e', d⟩ := ho p.1 hb
    rw [e] at e'; cases e'
    exact ⟨e, f0, f1, f2, d⟩
theorem Inv.unpinned {pins pl : List (Addr × Obj)} {σ : St} {H : Hp} {s : Shared} (I : Inv X (pins ++ pl) σ H s) : Inv X pins σ H s := I.pins_of fun p hp => I.pin p (List.mem_append_right _ (List.mem_append_left _ hp))
theorem ps_for {iter : Expr} {body : List Stmt} {wi : TI} {g : TG} {tb : TS} {pos : Pos} (hp : PassesOwn (model X.prog X.w) X.A X.env X.xe) (hc : X.calm = true) (hi : PI X tg iter wi) (hg : PG X tg g) (hb : PSs X body tb)
    (hs : ∀ x, foldedSetIterable iter X.env x = pure x := by intro _; rfl) : PS X (.For tg iter body [] pos) (tFor wi g tb) := by
  intro pins s σ H D I h
  refine wpAny_For (thn (hi pins s σ H _ I h) fun v s1 h1 => thn h1 fun itv s2 h2 => ?_) hs
  obtain ⟨it, fp, tn, J, H2, e, I2, T, st2, f2, W, ⟨m0, w0⟩, turn⟩ := h2
  subst e
  -- what stays true of the iterator's objects through the loop
  have stat : ∀ {H' : Hp}, (∀ b ∈ fp, H' b = none) → ∀ b ∈ fp, FpOk X pins H' b := fun hn b hb => ⟨hn b hb, (f2 b hb).2⟩
  refine codeAny_forLoop_any (fun n s' => ∃ i σ' H', Inv X pins σ' H' s' ∧ tn i s'.heap ∧ (∀ b ∈ fp, H' b = none) ∧ W i n σ' H') ?_ m0 ⟨0, σ, H2, I2, st2, fun b hb => (f2 b hb).1, w0⟩
  rintro n s3 ⟨i, σ3, H3, I3, st3, fr3, w3⟩
  rcases turn i n σ3 H3 w3 with ⟨stop, qn⟩ | ⟨go, N, hN, step⟩
  · refine wpAny_passesOwn hp (thn (T.done X rfl rfl rfl hc i pins s3 σ3 H3 X.xe I3 (stat fr3) st3 stop) fun r s4 ⟨hr, I4⟩ => ?_)
    subst hr
    exact wpAny_execs_nil ⟨σ3, H3, I4, qn⟩
  · refine wpAny_passesOwn hp (thn (T.item X rfl rfl rfl hc i pins s3 σ3 H3 X.xe I3 (stat fr3) st3 go) fun r s4 ⟨u, hr, h4⟩ => ?_)
    subst hr
    refine wpAny_passesOwn hp (thn h4 fun _ s5 ⟨x, H5, I5, r5, y5, st5, fr5⟩ => ?_)
    have I5' := I5.pinned (stat fr5) (T.obj _ _ st5)
    refine wpAny_passesOwn hp (thn (hg _ s5 σ3 H5 x u _ I5' r5 (step x H5 y5)) fun _ s6 ⟨σ6, H6, I6, q6⟩ => ?_)
    refine wpAny_passesOwn hp (thn (hb _ s6 σ6 H6 _ I6 q6) fun f s7 q7 => ?_)
    have again : ∀ {σ7 : St} {H7 : Hp}, Inv X (pins ++ pinsAt fp s5.heap) σ7 H7 s7 → N σ7 H7 → ∃ m, m < n ∧ ∃ i σ' H', Inv X pins σ' H' s7 ∧ tn i s7.heap ∧ (∀ b ∈ fp, H' b = none) ∧ W i m σ' H' := fun {σ7 H7} I7 n7 => by
      obtain ⟨m', hm, w7⟩ := hN σ7 H7 n7
      refine ⟨m', hm, i + 1, σ7, H7, I7.unpinned, T.keep _ _ _ st5 fun b hb o e => (I7.pin (b, o) (List.mem_append_right _ (List.mem_append_right _ (mem_pinsAt hb e)))).1, fun b hb => ?_, w7⟩
      obtain ⟨o, e, d⟩ := T.obj _ _ st5 b hb
      exact (I7.pin (b, o) (List.mem_append_right _ (List.mem_append_right _ (mem_pinsAt hb e)))).2.1
    cases f with
    | next => obtain ⟨σ7, H7, I7, n7⟩ := q7; exact again I7 n7
    | cont => obtain ⟨σ7, H7, I7, n7⟩ := q7; exact again I7 n7
    | brk => obtain ⟨σ7, H7, I7, q7⟩ := q7; exact ⟨σ7, H7, I7.unpinned, q7⟩
    | ret v => obtain ⟨x7, σ7, H7, I7, r7, q7⟩ := q7; exact ⟨x7, σ7, H7, I7.unpinned, r7, q7⟩
end

/-- over a list that the body leaves as it is -/
theorem for_list {K : PySem.W.Frag} {a : Addr} {xs : List V} {g : TG} {tb : TS} {D : Ends} {σ : St} {H : Hp} (Pv : Nat → St → Hp → Prop) (h0 : Pv 0 σ H) (hl : ∀ i σ H, i ≤ xs.length → Pv i σ H → SqL K H a xs)
    (hs : ∀ i x σ H, xs[i]? = some x → Pv i σ H → g x σ H fun σ2 H2 => tb { D with nx := Pv (i + 1), ct := Pv (i + 1), bk := D.nx } σ2 H2) (hd : ∀ σ H, Pv xs.length σ H → D.nx σ H) :
    ∃ W : Nat → Nat → St → Hp → Prop, (∃ m, W 0 m σ H) ∧ ∀ i m σ H, W i m σ H →
      ((Itl K a).stop i H ∧ D.nx σ H) ∨ ((Itl K a).go i H ∧ ∃ N : St → Hp → Prop, (∀ σ' H', N σ' H' → ∃ m', m' < m ∧ W (i + 1) m' σ' H') ∧ ∀ x H', (Itl K a).yld i H x H' → g x σ H' fun σ2 H2 => tb { D with nx := N, ct := N, bk := D.nx } σ2 H2) := by
  refine ⟨fun i m σ H => m = xs.length - i ∧ i ≤ xs.length ∧ Pv i σ H, ⟨xs.length, by simp, Nat.zero_le _, h0⟩, ?_⟩
  rintro i m σ H ⟨rfl, hi, p⟩
  have q := hl i σ H hi p
  by_cases hlt : i < xs.length
  · refine .inr ⟨⟨xs, xs[i], q, by simp [hlt]⟩, Pv (i + 1), fun σ' H' p' => ⟨xs.length - (i + 1), by omega, rfl, hlt, p'⟩, fun x H' y => ?_⟩
    obtain ⟨e, y⟩ := y
    subst e
    exact hs i x σ _ (y xs q) p
  · have e : i = xs.length := by omega
    subst e
    exact .inl ⟨⟨xs, q, Nat.le_refl _⟩, hd σ H p⟩
theorem for_tup {K : PySem.W.Frag} {a : Addr} {xs : List V} {g : TG} {tb : TS} {D : Ends} {σ : St} {H : Hp} (Pv : Nat → St → Hp → Prop) (h0 : Pv 0 σ H) (hl : ∀ i σ H, i ≤ xs.length → Pv i σ H → SqT K H a xs)
    (hs : ∀ i x σ H, xs[i]? = some x → Pv i σ H → g x σ H fun σ2 H2 => tb { D with nx := Pv (i + 1), ct := Pv (i + 1), bk := D.nx } σ2 H2) (hd : ∀ σ H, Pv xs.length σ H → D.nx σ H) :
    ∃ W : Nat → Nat → St → Hp → Prop, (∃ m, W 0 m σ H) ∧ ∀ i m σ H, W i m σ H →
      ((Itt K a).stop i H ∧ D.nx σ H) ∨ ((Itt K a).go i H ∧ ∃ N : St → Hp → Prop, (∀ σ' H', N σ' H' → ∃ m', m' < m ∧ W (i + 1) m' σ' H') ∧ ∀ x H', (Itt K a).yld i H x H' → g x σ H' fun σ2 H2 => tb { D with nx := N, ct := N, bk := D.nx } σ2 H2) := by
  refine ⟨fun i m σ H => m = xs.length - i ∧ i ≤ xs.length ∧ Pv i σ H, ⟨xs.length, by simp, Nat.zero_le _, h0⟩, ?_⟩
  rintro i m σ H ⟨rfl, hi, p⟩
  have q := hl i σ H hi p
  by_cases hlt : i < xs.length
  · refine .inr ⟨⟨xs, xs[i], q, by simp [hlt]⟩, Pv (i + 1), fun σ' H' p' => ⟨xs.length - (i + 1), by omega, rfl, hlt, p'⟩, fun x H' y => ?_⟩
    obtain ⟨e, y⟩ := y
    subst e
    exact hs i x σ _ (y xs q) p
  · have e : i = xs.length := by omega
    subst e
    exact .inl ⟨⟨xs, q, Nat.le_refl _⟩, hd σ H p⟩
theorem for_range {lo : Int} {n : Nat} {g : TG} {tb : TS} {D : Ends} {σ : St} {H : Hp} (Pv : Nat → St → Hp → Prop) (h0 : Pv 0 σ H)
    (hs : ∀ i σ H, i < n → Pv i σ H → g (.int (lo + i)) σ H fun σ2 H2 => tb { D with nx := Pv (i + 1), ct := Pv (i + 1), bk := D.nx } σ2 H2) (hd : ∀ σ H, Pv n σ H → D.nx σ H) :
    ∃ W : Nat → Nat → St → Hp → Prop, (∃ m, W 0 m σ H) ∧ ∀ i m σ H, W i m σ H →
      ((Itr lo n).stop i H ∧ D.nx σ H) ∨ ((Itr lo n).go i H ∧ ∃ N : St → Hp → Prop, (∀ σ' H', N σ' H' → ∃ m', m' < m ∧ W (i + 1) m' σ' H') ∧ ∀ x H', (Itr lo n).yld i H x H' → g x σ H' fun σ2 H2 => tb { D with nx := N, ct := N, bk := D.nx } σ2 H2) := by
  refine ⟨fun i m σ H => m = n - i ∧ i ≤ n ∧ Pv i σ H, ⟨n, by simp, Nat.zero_le _, h0⟩, ?_⟩
  rintro i m σ H ⟨rfl, hi, p⟩
  by_cases hlt : i < n
  · refine .inr ⟨hlt, Pv (i + 1), fun σ' H' p' => ⟨n - (i + 1), by omega, rfl, hlt, p'⟩, fun x H' y => ?_⟩
    obtain ⟨e, y⟩ := y
    subst e y
    exact hs i σ _ hlt p
  · have e : i = n := by omega
    subst e
    exact .inl ⟨Nat.le_refl _, hd σ H p⟩
end L2

namespace L2
open PySem PySem.Spec PyProof.Rows

abbrev R2 := V → V → Hp → VK → Prop
/-- a two-place operation on values: f is binaryOp op, inplaceOp op or compareOp op -/
def OpR (X : Cx) (f : Value → Value → Sem Value) (r : R2) : Prop :=
  ∀ (pins : List (Addr × Obj)) (s : Shared) (σ : St) (H : Hp) (x y : V) (v u : Value) (Q : VK), Inv X pins σ H s → RelV x v → RelV y u → r x y H Q →
    wpAny (model X.prog X.w) X.A (f v u) (EP X pins σ Q) X.xe s
/-- a call of a value that is known (a builtin, a type) with values -/
def CallR (X : Cx) (f : Value) (r : List V → Hp → VK → Prop) : Prop :=
  ∀ (pins : List (Addr × Obj)) (s : Shared) (σ : St) (H : Hp) (xs : List V) (us : List Value) (Q : VK), Inv X pins σ H s → Vals xs us → r xs H Q →
    wpAny (model X.prog X.w) X.A (call f us) (EP X pins σ Q) X.xe s
def tOp (r : R2) (ta tb : TE) : TE := fun σ H Q => ta σ H fun x H1 => tb σ H1 fun y H2 => r x y H2 Q
/-- ints in, under C, and a value out -/
def rI (C : Int → Int → Prop) (g : Int → Int → V) : R2 := fun x y H Q => ∃ i j, x = .int i ∧ y = .int j ∧ C i j ∧ Q (g i j) H
def rI0 (g : Int → Int → V) : R2 := fun x y H Q => ∃ i j, x = .int i ∧ y = .int j ∧ Q (g i j) H
section
variable {X : Cx} {a b c : Expr} {ta tb tc : TE} {pos : Pos}

theorem binT (ha : PE X a ta) (hb : PE X b tb) {pins : List (Addr × Obj)} {s : Shared} {σ : St} {H : Hp} {R : V → V → Hp → Prop} (I : Inv X pins σ H s)
    (h : ta σ H fun x H1 => tb σ H1 fun y H2 => R x y H2) {Q : Value → Shared → Prop} {f : Value → Value → Sem Value}
    (hf : ∀ v u s2 x y H2, Inv X pins σ H2 s2 → RelV x v → RelV y u → R x y H2 → wpAny (model X.prog X.w) X.A (f v u) Q X.xe s2) :
    wpAny (model X.prog X.w) X.A (eval a X.env) (fun v s₁ => wpAny (model X.prog X.w) X.A (eval b X.env) (fun u s₂ => wpAny (model X.prog X.w) X.A (f v u) Q X.xe s₂) X.xe s₁) X.xe s := by
  refine thn (ha pins s σ H _ I h) fun v s1 ⟨x, H1, I1, r1, q1⟩ => ?_
  refine thn (hb pins s1 σ H1 _ I1 q1) fun u s2 ⟨y, H2, I2, r2, q2⟩ => ?_
  exact hf v u s2 x y H2 I2 r1 r2 q2

theorem pe_op {op : Operator} {r : R2} (ho : OpR X (binaryOp op) r) (ha : PE X a ta) (hb : PE X b tb) : PE X (.BinOp a op b pos) (tOp r ta tb) := by
  intro pins s σ H Q I h
  exact wpAny_BinOp (binT ha hb I h fun v u s2 x y H2 I2 rx ry q => ho pins s2 σ H2 x y v u Q I2 rx ry q)
theorem opI {f : Value → Value → Sem Value} {C : Int → Int → Prop} {g : Int → Int → Int}
    (rule : ∀ (i j : Int) (t u : Tok) (s : Shared) (Q : Value → Shared → Prop) (E : Value → Shared → Prop), C i j → Q (.int (g i j) s.toks) { s with toks := s.toks + 1 } → wpAny (model X.prog X.w) X.A (f (.int i t) (.int j u)) Q E s) :
    OpR X f (rI C fun i j => .int (g i j)) := by
  intro pins s σ H x y v u Q I rx ry h
  obtain ⟨i, j, rfl, rfl, hc, q⟩ := h
  obtain ⟨t, rfl⟩ := rx
  obtain ⟨t', rfl⟩ := ry
  exact rule i j t t' s _ _ hc ⟨.int (g i j), H, I.tok _, ⟨_, rfl⟩, q⟩
theorem opI0 {f : Value → Value → Sem Value} {g : Int → Int → Int}
    (rule : ∀ (i j : Int) (t u : Tok) (s : Shared) (Q : Value → Shared → Prop) (E : Value → Shared → Prop), Q (.int (g i j) s.toks) { s with toks := s.toks + 1 } → wpAny (model X.prog X.w) X.A (f (.int i t) (.int j u)) Q E s) :
    OpR X f (rI0 fun i j => .int (g i j)) := by
  intro pins s σ H x y v u Q I rx ry h
  obtain ⟨i, j, rfl, rfl, q⟩ := h
  obtain ⟨t, rfl⟩ := rx
  obtain ⟨t', rfl⟩ := ry
  exact rule i j t t' s _ _ ⟨.int (g i j), H, I.tok _, ⟨_, rfl⟩, q⟩
theorem opB0 {f : Value → Value → Sem Value} {g : Int → Int → Bool}
    (rule : ∀ (i j : Int) (t u : Tok) (s : Shared) (Q : Value → Shared → Prop) (E : Value → Shared → Prop), Q (.bool (g i j)) s → wpAny (model X.prog X.w) X.A (f (.int i t) (.int j u)) Q E s) :
    OpR X f (rI0 fun i j => .bl (g i j)) := by
  intro pins s σ H x y v u Q I rx ry h
  obtain ⟨i, j, rfl, rfl, q⟩ := h
  obtain ⟨t, rfl⟩ := rx
  obtain ⟨t', rfl⟩ := ry
  exact rule i j t t' s _ _ ⟨.bl (g i j), H, I, rfl, q⟩

def CDiv (i j : Int) : Prop := 0 < j ∧ j < 1073741824
def CMul (i j : Int) : Prop := (-(2 ^ 64) < i ∧ i < 2 ^ 64) ∨ (-(2 ^ 64) < j ∧ j < 2 ^ 64)
theorem CMul.ok {i j : Int} (h : CMul i j) : IntMulOk i j := by
  rcases h with ⟨h1, h2⟩ | ⟨h1, h2⟩
  · exact .of_left (intBits_le_64 h1 h2)
  · exact .of_right (intBits_le_64 h1 h2)
theorem op_add : OpR X (binaryOp .Add) (rI0 fun i j => .int (i + j)) := opI0 fun _ _ _ _ _ _ _ q => add_int q
theorem op_sub : OpR X (binaryOp .Sub) (rI0 fun i j => .int (i - j)) := opI0 fun _ _ _ _ _ _ _ q => sub_int q
theorem op_mul : OpR X (binaryOp .Mult) (rI CMul fun i j => .int (i * j)) := opI fun _ _ _ _ _ _ _ hc q => mul_int q hc.ok
/-- // by a positive divisor -/
theorem op_fdiv : OpR X (binaryOp .FloorDiv) (rI CDiv fun i j => .int (i / j)) := opI fun i j _ _ _ _ _ hc q => by
  have h1 : (0 : Int) < j := hc.1
  have h2 : j < 1073741824 := hc.2
  exact floordiv_int (by omega) (by rw [Int.fdiv_eq_ediv_of_nonneg i (by omega)]; exact q) (.inl (PyProof.noPylong_small (by omega)))
/-- % by a positive divisor of any size -/
theorem op_mod : OpR X (binaryOp .Mod) (rI (fun _ j => 0 < j) fun i j => .int (i % j)) := opI fun i j _ _ _ _ _ hc q => by
  have h1 : (0 : Int) < j := hc
  exact mod_int' (by omega) (by rw [Int.fmod_eq_emod_of_nonneg i (by omega)]; exact q)
end

/-- the scalars that == tells apart as data does -/
def scal : V → V → Bool
  | .non, .non => true | .non, .int _ => true | .int _, .non => true | .non, .bl _ => true | .bl _, .non => true | .non, .str _ => true | .str _, .non => true
  | .int _, .int _ => true | .bl _, .bl _ => true | .str _, .str _ => true | .byt _, .byt _ => true
  | .int _, .str _ => true | .str _, .int _ => true | .bl _, .str _ => true | .str _, .bl _ => true
  | _, _ => false
def rEq : R2 := fun x y H Q => scal x y = true ∧ Q (.bl (decide (x = y))) H
def rNe : R2 := fun x y H Q => scal x y = true ∧ Q (.bl (!decide (x = y))) H

theorem dec_int {i j : Int} : decide (V.int i = V.int j) = (i == j) := by
  rw [Bool.eq_iff_iff]
  simp
theorem dec_bl {i j : Bool} : decide (V.bl i = V.bl j) = (i == j) := by
  rw [Bool.eq_iff_iff]
  simp
theorem dec_str {i j : Str} : decide (V.str i = V.str j) = (i == j) := by
  rw [Bool.eq_iff_iff]
  simp
theorem dec_byt {i j : Array UInt8} : decide (V.byt i = V.byt j) = (i.toList == j.toList) := by
  rw [Bool.eq_iff_iff]
  cases i
  cases j
  simp

section
variable {X : Cx} {a b c : Expr} {ta tb tc : TE} {pos : Pos}
theorem fin_bl {pins : List (Addr × Obj)} {σ : St} {H : Hp} {s : Shared} {Q : VK} {k k' : Bool} (I : Inv X pins σ H s) (q : Q (.bl k) H) (e : k = k') : EP X pins σ Q (.bool k') s := by
  subst e
  exact ⟨.bl k, H, I, rfl, q⟩
theorem op_eq : OpR X (compareOp .Eq) rEq := by
  intro pins s σ H x y v u Q I rx ry h
  obtain ⟨hs, q⟩ := h
  cases x with
  | non =>
    cases rx
    cases y with
    | non => cases ry; exact PySem.EqNone.eq_none_none (fin_bl I q (by simp))
    | bl j => cases ry; exact PySem.EqNone.eq_none_bool (fin_bl I q (by simp))
    | int j => obtain ⟨t', rfl⟩ := ry; exact PySem.EqNone.eq_none_int (fin_bl I q (by simp))
    | str j => obtain ⟨t', rfl⟩ := ry; exact PySem.EqNone.eq_none_str (fin_bl I q (by simp))
    | _ => exact absurd (show false = true from hs) Bool.false_ne_true
  | bl i =>
    cases rx
    cases y with
    | non => cases ry; exact PySem.EqNone.eq_bool_none (fin_bl I q (by simp))
    | bl j => cases ry; exact eq_bool (fin_bl I q dec_bl)
    | str j => obtain ⟨t', rfl⟩ := ry; exact PySem.EqMixed.eq_bool_str (fin_bl I q (by simp))
    | _ => exact absurd (show false = true from hs) Bool.false_ne_true
  | int i =>
    obtain ⟨t, rfl⟩ := rx
    cases y with
    | non => cases ry; exact PySem.EqNone.eq_int_none (fin_bl I q (by simp))
    | int j => obtain ⟨t', rfl⟩ := ry; exact eq_int (fin_bl I q dec_int)
    | str j => obtain ⟨t', rfl⟩ := ry; exact PySem.EqMixed.eq_int_str (fin_bl I q (by simp))
    | _ => exact absurd (show false = true from hs) Bool.false_ne_true
  | str i =>
    obtain ⟨t, rfl⟩ := rx
    cases y with
    | non => cases ry; exact PySem.EqNone.eq_str_none (fin_bl I q (by simp))
    | bl j => cases ry; exact PySem.EqMixed.eq_str_bool (fin_bl I q (by simp))
    | int j => obtain ⟨t', rfl⟩ := ry; exact PySem.EqMixed.eq_str_int (fin_bl I q (by simp))
    | str j => obtain ⟨t', rfl⟩ := ry; exact eq_str (fin_bl I q dec_str)
    | _ => exact absurd (show false = true from hs) Bool.false_ne_true
  | byt i =>
    obtain ⟨t, rfl⟩ := rx
    cases y with
    | byt j => obtain ⟨t', rfl⟩ := ry; exact PySem.W.eq_bytes (fin_bl I q dec_byt)
    | _ => exact absurd (show false = true from hs) Bool.false_ne_true
  | _ => cases y <;> exact absurd (show false = true from hs) Bool.false_ne_true
theorem op_ne : OpR X (compareOp .NotEq) rNe := by
  intro pins s σ H x y v u Q I rx ry h
  obtain ⟨hs, q⟩ := h
  cases x with
  | non =>
    cases rx
    cases y with
    | non => cases ry; exact PySem.EqNone.ne_none_none (fin_bl I q (by simp))
    | bl j => cases ry; exact PySem.EqNone.ne_none_bool (fin_bl I q (by simp))
    | int j => obtain ⟨t', rfl⟩ := ry; exact PySem.EqNone.ne_none_int (fin_bl I q (by simp))
    | str j => obtain ⟨t', rfl⟩ := ry; exact PySem.EqNone.ne_none_str (fin_bl I q (by simp))
    | _ => exact absurd (show false = true from hs) Bool.false_ne_true
  | bl i =>
    cases rx
    cases y with
    | non => cases ry; exact PySem.EqNone.ne_bool_none (fin_bl I q (by simp))
    | bl j => cases ry; exact ne_bool (fin_bl I q (congrArg not dec_bl))
    | str j => obtain ⟨t', rfl⟩ := ry; exact PySem.EqMixed.ne_bool_str (fin_bl I q (by simp))
    | _ => exact absurd (show false = true from hs) Bool.false_ne_true
  | int i =>
    obtain ⟨t, rfl⟩ := rx
    cases y with
    | non => cases ry; exact PySem.EqNone.ne_int_none (fin_bl I q (by simp))
    | int j => obtain ⟨t', rfl⟩ := ry; exact ne_int (fin_bl I q (congrArg not dec_int))
    | str j => obtain ⟨t', rfl⟩ := ry; exact PySem.EqMixed.ne_int_str (fin_bl I q (by simp))
    | _ => exact absurd (show false = true from hs) Bool.false_ne_true
  | str i =>
    obtain ⟨t, rfl⟩ := rx
    cases y with
    | non => cases ry; exact PySem.EqNone.ne_str_none (fin_bl I q (by simp))
    | bl j => cases ry; exact PySem.EqMixed.ne_str_bool (fin_bl I q (by simp))
    | int j => obtain ⟨t', rfl⟩ := ry; exact PySem.EqMixed.ne_str_int (fin_bl I q (by simp))
    | str j => obtain ⟨t', rfl⟩ := ry; exact ne_str (fin_bl I q (congrArg not dec_str))
    | _ => exact absurd (show false = true from hs) Bool.false_ne_true
  | byt i =>
    obtain ⟨t, rfl⟩ := rx
    cases y with
    | byt j => obtain ⟨t', rfl⟩ := ry; exact PySem.W.ne_bytes (fin_bl I q (congrArg not dec_byt))
    | _ => exact absurd (show false = true from hs) Bool.false_ne_true
  | _ => cases y <;> exact absurd (show false = true from hs) Bool.false_ne_true

theorem op_lt : OpR X (compareOp .Lt) (rI0 fun i j => .bl (decide (i < j))) := opB0 fun _ _ _ _ _ _ _ q => lt_int q
theorem op_gt : OpR X (compareOp .Gt) (rI0 fun i j => .bl (decide (j < i))) := opB0 fun _ _ _ _ _ _ _ q => gt_int q
theorem op_ge : OpR X (compareOp .GtE) (rI0 fun i j => .bl (decide (j ≤ i))) := opB0 fun _ _ _ _ _ _ _ q => ge_int q
theorem nomark (b : Expr) {op : CmpOp} (h : op ≠ .In := by decide) (h2 : op ≠ .NotIn := by decide) : behindInMarks op b = false := by
  have e1 : (op == CmpOp.In) = false := by cases op <;> first | rfl | exact absurd rfl h
  have e2 : (op == CmpOp.NotIn) = false := by cases op <;> first | rfl | exact absurd rfl h2
  cases b <;> simp [behindInMarks, e1, e2]
/-- a comparison as a value; hm: nomark b, or (for in, not in) by with_unfolding_all rfl -/
theorem pe_cmpR {op : CmpOp} {r : R2} (ho : OpR X (compareOp op) r) (ha : PE X a ta) (hb : PE X b tb) (hm : behindInMarks op b = false) : PE X (.Compare a [op] [b] pos) (tOp r ta tb) := by
  intro pins s σ H Q I h
  exact wpAny_Compare1 (binT ha hb I h fun v u s2 x y H2 I2 rx ry q => ho pins s2 σ H2 x y v u Q I2 rx ry q) hm
/-- a reading of a value as a test -/
def tTest (t : TE) : TT := fun σ H Q => t σ H fun x H' => ∃ k, x = .bl k ∧ Q k H'
theorem pt_cmpR {op : CmpOp} {r : R2} (ho : OpR X (compareOp op) r) (ha : PE X a ta) (hb : PE X b tb) (hm : behindInMarks op b = false) : PT X (.Compare a [op] [b] pos) (tTest (tOp r ta tb)) := by
  intro pins s σ H Q I h
  refine wpAny_isTrue_Compare1 (thn (ha pins s σ H _ I h) fun v s1 ⟨x, H1, I1, r1, q1⟩ => thn (hb pins s1 σ H1 _ I1 q1) fun u s2 ⟨y, H2, I2, r2, q2⟩ =>
    thn (ho pins s2 σ H2 x y v u _ I2 r1 r2 q2) fun c s3 ⟨z, H3, I3, r3, k, e, q3⟩ => ?_) hm
  subst e
  cases r3
  exact wpAny_truthy_bool ⟨H3, I3, q3⟩
/-- a op1 b op2 c -/
def tChain (r r' : R2) (ta tb tc : TE) : TE := fun σ H Q => ta σ H fun x H1 => tb σ H1 fun y H2 => r x y H2 fun z H3 => ∃ k, z = .bl k ∧
  (if k = true then tc σ H3 fun w' H4 => r' y w' H4 Q else Q (.bl false) H3)
theorem pt_chain {op op' : CmpOp} {r r' : R2} (ho : OpR X (compareOp op) r) (ho' : OpR X (compareOp op') r') (ha : PE X a ta) (hb : PE X b tb) (hc : PE X c tc)
    (hm : lastMarks [op, op'] [b, c] = false := by with_unfolding_all rfl) : PT X (.Compare a [op, op'] [b, c] pos) (tTest (tChain r r' ta tb tc)) := by
  intro pins s σ H Q I h
  refine isTrue_chain (thn (ha pins s σ H _ I h) fun v s1 ⟨x, H1, I1, r1, q1⟩ => test_link (thn (hb pins s1 σ H1 _ I1 q1) fun u s2 ⟨y, H2, I2, r2, q2⟩ =>
    thn (ho pins s2 σ H2 x y v u _ I2 r1 r2 q2) fun d s3 ⟨z, H3, I3, r3, k, e, q3⟩ => ?_)) hm
  subst e
  cases r3
  refine wpAny_truthy_bool ?_
  cases k with
  | false =>
    obtain ⟨k', e', q'⟩ := q3
    cases e'
    exact ite_ff ⟨H3, I3, q'⟩
  | true =>
    refine ite_tt (test_last (thn (hc pins s3 σ H3 _ I3 q3) fun w' s4 ⟨z', H4, I4, r4, q4⟩ => thn (ho' pins s4 σ H4 y z' u w' _ I4 r2 r4 q4) fun d' s5 ⟨z2, H5, I5, r5, k2, e2, q5⟩ => ?_))
    subst e2
    cases r5
    exact wpAny_truthy_bool ⟨H5, I5, q5⟩

theorem line63 : (sizeLine : Nat) < 2 ^ 63 := by rw [sizeLine_eq]; decide
theorem vals1 {x : V} {us : List Value} (r : Vals [x] us) : ∃ u, us = [u] ∧ RelV x u := by
  cases r with
  | cons r1 r2 => cases r2; exact ⟨_, rfl, r1⟩
theorem vals2 {x y : V} {us : List Value} (r : Vals [x, y] us) : ∃ u w', us = [u, w'] ∧ RelV x u ∧ RelV y w' := by
  cases r with
  | cons r1 r2 =>
    cases r2 with
    | cons r3 r4 => cases r4; exact ⟨_, _, rfl, r1, r3⟩
theorem call_max2 (hc : X.calm = true) : CallR X (.builtin "max") (fun xs H Q => ∃ i j, xs = [.int i, .int j] ∧ Q (.int (if j > i then j else i)) H) := by
  intro pins s σ H xs us Q I r h
  obtain ⟨i, j, rfl, q⟩ := h
  obtain ⟨u, w', rfl, ⟨t, rfl⟩, ⟨t', rfl⟩⟩ := vals2 r
  refine max_two_ints (I.ok.hd hc) fun h' tk k => ⟨_, H, I.kept k, ?_, q⟩
  by_cases hj : j > i
  · rw [if_pos hj, if_pos hj]; exact ⟨_, rfl⟩
  · rw [if_neg hj, if_neg hj]; exact ⟨_, rfl⟩
theorem call_int1 : CallR X (.type "int") (fun xs H Q => (∃ i, xs = [.int i] ∧ Q (.int i) H) ∨ ∃ k, xs = [.bl k] ∧ Q (.int (if k then 1 else 0)) H) := by
  intro pins s σ H xs us Q I r h
  rcases h with ⟨i, rfl, q⟩ | ⟨k, rfl, q⟩
  · obtain ⟨u, rfl, t, rfl⟩ := vals1 r
    exact call_int_int ⟨.int i, H, I, ⟨_, rfl⟩, q⟩
  · obtain ⟨u, rfl, r1⟩ := vals1 r
    cases r1
    exact call_int_bool ⟨.int (if k then 1 else 0), H, I.tok _, ⟨_, rfl⟩, q⟩
end
end L2

namespace L2
open PySem PySem.Spec PyProof.Rows

structure ObjM (h : Heap) (x dx C : Addr) (mA : Str → Option Value) : Prop where
  obj : h.get? x = some (PySem.W.instObj C dx)
  ns : h.Ns1 dx mA
  ne : dx ≠ x

theorem lookIn_ns {h : Heap} {dx : Addr} {mA : Str → Option Value} (n : h.Ns1 dx mA) : ∃ od, h.get? dx = some od ∧ ∀ name, PySem.W.lookIn name od = some (mA name) := by
  obtain ⟨o, es, ep, ho, hd, hk, _, hm⟩ := n
  refine ⟨o, ho, fun name => ?_⟩
  have e := hm name
  unfold nsFind findBy at e
  rw [← Array.find?_toList] at e
  unfold PySem.W.lookIn
  rw [hd]
  dsimp only
  split
  · rename_i y q
    rw [q] at e
    exact congrArg some e
  · rename_i q
    rw [q] at e
    have a : es.toList.any (·.refKey) = false := by
      rw [List.any_eq_false]
      intro y hy
      obtain ⟨z, t, hkey⟩ := hk y (Array.mem_toList_iff.mp hy)
      simp [DictEntry.refKey, hkey]
    have a' : ¬ es.toList.any (·.refKey) = true := by rw [a]; exact Bool.false_ne_true
    rw [if_neg a']
    exact congrArg some e

theorem ObjM.look {h : Heap} {x dx C : Addr} {mA : Str → Option Value} (I : ObjM h x dx C mA) : ∃ od, PySem.W.InstAt h x (PySem.W.instObj C dx) C (some od) ∧ ∀ name, PySem.W.lookIn name od = some (mA name) :=
  let ⟨od, ho, hl⟩ := lookIn_ns I.ns
  ⟨od, ⟨I.obj, rfl, rfl, ho⟩, hl⟩

section
variable {prog : Program} {w : World} {A : Around} {E : Value → Shared → Prop} {s : Shared} {K : PySem.W.Frag} {x dx C f : Addr} {mA : Str → Option Value} {name : Str} {v : Value}

theorem get_map {expr : Bool} {Q : Value → Shared → Prop} (X : K.In s.heap) (I : ObjM s.heap x dx C mA) (hg : PySem.W.plainGet K C name = true) (hh : PySem.W.hasDictIn K C = true)
    (ha : PySem.W.findIn K (.ref C) name = some none) (hv : mA name = some v) (hv' : PySem.W.handedIn v = true) (h : Q v { s with toks := s.toks + 1 }) :
    wpAny (model prog w) A (getAttr (.ref x) name expr) Q E s := by
  obtain ⟨od, J, hl⟩ := I.look
  exact PySem.W.get_value X J (PySem.W.plainGet_of hg).1 (PySem.W.findObj_own hh ha rfl (by rw [hl, hv])) hv' h

theorem get_meth {pl : Sem Bool} {Q : Value × List Value → Shared → Prop} (X : K.In s.heap) (I : ObjM s.heap x dx C mA) (hg : PySem.W.plainGet K C name = true)
    (hf : PySem.W.findIn K (.ref C) name = some (some (.ref f))) (ht : PySem.W.isFn K (.ref f) = true) (hv : mA name = none) (h : Q (.ref f, [.ref x]) s) :
    wpAny (model prog w) A (getMethod (.ref x) name pl) Q E s := by
  obtain ⟨od, J, hl⟩ := I.look
  exact PySem.W.method_fn X J (PySem.W.plainGet_of hg).1 (PySem.W.plainGet_of hg).2 hf (beq_iff_eq.mp ht) (by show (PySem.W.lookIn name od).map (·.isSome) = some false; rw [hl, hv]; rfl) h

theorem set_map {ns : List Str} {Q : Unit → Shared → Prop} (X : K.In s.heap) (I : ObjM s.heap x dx C mA)
    (hs : PySem.W.findIn K (.ref C) "__setattr__" = some (some (.builtin "object.__setattr__"))) (hp : PySem.W.plainOver K C = true) (ht : PySem.W.takerIn K C name = some none) (hh : PySem.W.hasDictIn K C = true)
    (hw : PySem.Within mA ns) (hsz : ns.length ≤ sizeLine)
    (h : ∀ h', ObjM h' x dx C (fun y => if y = name then some v else mA y) → Heap.SameBut dx s.heap h' → Q () { s with heap := h', toks := s.toks + 2 }) :
    wpAny (model prog w) A (setAttr (.ref x) name v) Q E s := by
  obtain ⟨od, J, hl⟩ := I.look
  refine PySem.W.set_plain X J hs (PySem.W.osa_open (s := { s with toks := s.toks + 1 }) (r := none) X J hp ht fun b => ?_)
  obtain ⟨cd, hc, hd'⟩ := PySem.W.any_some hh
  have hx : s.heap.get? x = some ⟨.ref C, some dx, .plain, #[]⟩ := I.obj
  refine wpAny_bind (wpAny_pure (wpAny_bind (wpAny_bind (wpAny_loadPart hx (wpAny_bind (PySem.W.Looks.here (s := { s with toks := s.toks + 1 }) (PySem.W.looks_clsIn X hc) ?_))))))
  rw [hd']
  refine wpAny_pure (a := some dx) (wpAny_bind (wpAny_pure (wpAny_bind ?_)))
  refine wpAny_nsSet1 (s := { s with toks := s.toks + 1 }) I.ns fun h' hn2 hs2 => ?_
  obtain ⟨oD, esD, epD, hoD, hdD, hcD⟩ := hn2.count (PySem.Within.cons name v hw)
  refine wpAny_bind (wpAny_lookBehind hoD (by rw [hdD]; exact pastItsLine_dict (Nat.le_trans hcD (by rw [List.length_cons]; omega))) ?_)
  exact wpAny_pure (h _ ⟨(hs2.2 _ (Ne.symm I.ne)).trans I.obj, hn2, I.ne⟩ hs2)

/-- C(..): the dict at the heap's end, the instance behind it; then its __init__ -/
theorem make_map {R : Result → Shared → Prop} {vs : List Value} {kw : List (Str × Value)} (X : K.In s.heap) (hm : PySem.W.makesIn K C = true)
    (hi : PySem.W.findIn K (.ref C) "__init__" = some (some (.ref f))) (hf : PySem.W.typeIn K (.ref f) = some (.type "function"))
    (h : codeAny (model prog w) (A.under (.builtin "type.__call__" ⟨.ref C :: vs, kw⟩)) (.call (.ref f) ⟨.ref (s.heap.objs.size + 1) :: vs, kw⟩) (PySem.W.InitBack (s.heap.objs.size + 1) R)
      { s with heap := (s.heap.push PySem.W.emptyDict).push (PySem.W.instObj C s.heap.objs.size) }) :
    codeAny (model prog w) A (.call (.ref C) ⟨vs, kw⟩) R s := by
  obtain ⟨hh, g, d, t, os⟩ := s
  exact PySem.W.make_core (PySem.W.makes_of X hm) (PySem.W.looks_findIn X hi) (fun self => PySem.W.bind_fn X self hf) (.inl rfl) h
end

def putF (f : Str) (v : V) : List (Str × V) → List (Str × V)
  | [] => [(f, v)]
  | (g, x) :: r => if g = f then (g, v) :: r else (g, x) :: putF f v r
theorem lookup_putF (f g : Str) (v : V) : ∀ fs : List (Str × V), (putF f v fs).lookup g = if g = f then some v else fs.lookup g
  | [] => by
    show List.lookup g [(f, v)] = _
    by_cases h : g = f
    · have hb : (g == f) = true := beq_iff_eq.mpr h
      simp only [List.lookup, hb, if_pos h]
    · have hb : (g == f) = false := beq_eq_false_iff_ne.mpr h
      simp only [List.lookup, hb, if_neg h]
  | (k, x) :: r => by
    have ih := lookup_putF f g v r
    rw [show putF f v ((k, x) :: r) = (if k = f then (k, v) :: r else (k, x) :: putF f v r) from rfl]
    by_cases hk : k = f
    · rw [if_pos hk]
      by_cases h : g = k
      · have hb : (g == k) = true := beq_iff_eq.mpr h
        simp only [List.lookup, hb, if_pos (h.trans hk)]
      · have hb : (g == k) = false := beq_eq_false_iff_ne.mpr h
        simp only [List.lookup, hb, if_neg (fun e : g = f => h (e.trans hk.symm))]
    · rw [if_neg hk]
      by_cases h : g = k
      · have hb : (g == k) = true := beq_iff_eq.mpr h
        simp only [List.lookup, hb, if_neg (fun e : g = f => hk (h.symm.trans e))]
      · have hb : (g == k) = false := beq_eq_false_iff_ne.mpr h
        simp only [List.lookup, hb]
        exact ih
theorem keys_putF (f : Str) (v : V) : ∀ fs : List (Str × V), f ∈ (putF f v fs).map (·.1) ∧ ∀ g, g ∈ fs.map (·.1) → g ∈ (putF f v fs).map (·.1)
  | [] => ⟨by simp [putF], fun g h => by simp at h⟩
  | (k, x) :: r => by
    obtain ⟨i1, i2⟩ := keys_putF f v r
    rw [show putF f v ((k, x) :: r) = (if k = f then (k, v) :: r else (k, x) :: putF f v r) from rfl]
    by_cases hk : k = f
    · rw [if_pos hk]
      subst hk
      exact ⟨by simp, fun g h => by simpa using h⟩
    · rw [if_neg hk]
      refine ⟨?_, fun g h => ?_⟩
      · rw [List.map_cons]
        exact List.mem_cons_of_mem _ i1
      · rw [List.map_cons] at h ⊢
        rcases List.mem_cons.mp h with e | e
        · exact List.mem_cons.mpr (.inl e)
        · exact List.mem_cons_of_mem _ (i2 g e)
theorem length_putF (f : Str) (v : V) : ∀ fs : List (Str × V), (putF f v fs).length ≤ fs.length + 1
  | [] => by simp [putF]
  | (k, x) :: r => by
    have ih := length_putF f v r
    rw [show putF f v ((k, x) :: r) = (if k = f then (k, v) :: r else (k, x) :: putF f v r) from rfl]
    by_cases hk : k = f
    · rw [if_pos hk, List.length_cons, List.length_cons]; omega
    · rw [if_neg hk, List.length_cons, List.length_cons]; omega

theorem RelO.some_of {v : V} {o : Option Value} (r : RelO (some v) o) : ∃ u, o = some u ∧ RelV v u := by
  cases o with
  | none => exact (show False from r).elim
  | some u => exact ⟨u, rfl, r⟩
theorem RelO.none_of {o : Option Value} (r : RelO none o) : o = none := by
  cases o with
  | none => rfl
  | some u => exact (show False from r).elim
theorem handed_of {v : V} {u : Value} (r : RelV v u) : PySem.W.handedIn u = true := by
  cases v with
  | non => cases (show u = Value.none from r); rfl
  | bl b => cases (show u = Value.bool b from r); rfl
  | int i => obtain ⟨t, e⟩ := (show ∃ t, u = Value.int i t from r); cases e; rfl
  | str x => obtain ⟨t, e⟩ := (show ∃ t, u = Value.str x t from r); cases e; rfl
  | byt b => obtain ⟨t, e⟩ := (show ∃ t, u = Value.bytes b t from r); cases e; rfl
  | flt b => obtain ⟨t, e⟩ := (show ∃ t, u = Value.float b t from r); cases e; rfl
  | ref a => cases (show u = Value.ref a from r); rfl
  | ty n => cases (show u = Value.type n from r); rfl

section
variable {P : Program} {w : World} {H H' : Hp} {h h' : Heap} {a C dx : Addr} {fs fs' : List (Str × V)}
theorem ins_get (hok : HOk P w H h) (e : H a = some (.ins C dx fs)) : ∃ mA, ObjM h a dx C mA ∧ (∀ f, RelO (fs.lookup f) (mA f)) ∧ PySem.Within mA (fs.map (·.1)) ∧ fs.length ≤ 1000 ∧ H dx = some (.own a) := by
  obtain ⟨d, z, ne, ob, mA, n, r, q⟩ := (show ObjOk P w H h a (.ins C dx fs) from hok a _ e)
  exact ⟨mA, ⟨ob, n, ne⟩, r, q, z, d⟩
end

structure Cls (K : PySem.W.Frag) (C : Addr) : Prop where
  pg : PySem.W.plainGet K C Str.empty = true
  hd : PySem.W.hasDictIn K C = true
  po : PySem.W.plainOver K C = true
  sa : PySem.W.findIn K (.ref C) "__setattr__" = some (some (.builtin "object.__setattr__"))
theorem Cls.get {K : PySem.W.Frag} {C : Addr} (c : Cls K C) (f : Str) : PySem.W.plainGet K C f = true := c.pg
/-- no class of it has the name -/
def NoAttr (K : PySem.W.Frag) (C : Addr) (f : Str) : Prop := PySem.W.findIn K (.ref C) f = some none
theorem NoAttr.taker {K : PySem.W.Frag} {C : Addr} {f : Str} (n : NoAttr K C f) : PySem.W.takerIn K C f = some none := by
  unfold PySem.W.takerIn
  rw [show PySem.W.findIn K (.ref C) f = some none from n]
  rfl
/-- a constant of the class -/
structure Con (K : PySem.W.Frag) (C : Addr) (f : Str) (v : V) (u : Value) : Prop where
  at_ : PySem.W.findIn K (.ref C) f = some (some u)
  rel : RelV v u
  get : PySem.W.specialIn K u "__get__" = some none
  cp : PySem.W.copiedNames.contains f = false
/-- a method: a plain def of the class or of one above it -/
structure Meth (K : PySem.W.Frag) (C : Addr) (m : Str) (f : Addr) : Prop where
  at_ : PySem.W.findIn K (.ref C) m = some (some (.ref f))
  fn : PySem.W.isFn K (.ref f) = true
  kp : PySem.W.keepIn K (.ref f) = true

section
variable {X : Cx} {pins : List (Addr × Obj)} {σ : St} {H : Hp} {s : Shared} {a C dx : Addr} {fs : List (Str × V)} {f : Str} {v : V} {A : Around} {E : Value → Shared → Prop}

theorem getattr_ok {b : Bool} {Q : Value → Shared → Prop} (I : Inv X pins σ H s) (e : H a = some (.ins C dx fs)) (c : Cls X.K C) (n : NoAttr X.K C f) (l : fs.lookup f = some v)
    (h : ∀ u s', Inv X pins σ H s' → RelV v u → Q u s') : wpAny (model X.prog X.w) A (getAttr (.ref a) f b) Q E s := by
  obtain ⟨mA, O, r, _, _, _⟩ := ins_get I.hok e
  obtain ⟨u, hu, ru⟩ := RelO.some_of (v := v) (o := mA f) (by rw [← l]; exact r f)
  exact get_map I.kIn O (c.get f) c.hd n hu (handed_of ru) (h u _ (I.tok _) ru)

theorem getmeth_ok {m : Str} {g : Addr} {pl : Sem Bool} {Q : Value × List Value → Shared → Prop} (I : Inv X pins σ H s) (e : H a = some (.ins C dx fs)) (c : Cls X.K C) (k : Meth X.K C m g) (l : fs.lookup m = none)
    (h : Q (.ref g, [.ref a]) s) : wpAny (model X.prog X.w) A (getMethod (.ref a) m pl) Q E s := by
  obtain ⟨mA, O, r, _, _, _⟩ := ins_get I.hok e
  have hn : mA m = none := RelO.none_of (by rw [← l]; exact r m)
  exact get_meth I.kIn O (c.get m) k.at_ k.fn hn h

theorem setattr_ok {y : V} {u : Value} {Q : Unit → Shared → Prop} (I : Inv X pins σ H s) (e : H a = some (.ins C dx fs)) (c : Cls X.K C) (n : NoAttr X.K C f) (hl : fs.length < 1000) (ry : RelV y u)
    (h : ∀ s', Inv X pins σ (upd H a (.ins C dx (putF f y fs))) s' → Q () s') : wpAny (model X.prog X.w) A (setAttr (.ref a) f u) Q E s := by
  obtain ⟨mA, O, r, wi, _, ho⟩ := ins_get I.hok e
  have hz : (fs.map (·.1)).length ≤ sizeLine := by rw [List.length_map, sizeLine_eq]; omega
  refine set_map I.kIn O c.sa c.po n.taker c.hd wi hz fun h' O' sb => h _ ?_
  have hd : ∃ o, h'.get? dx = some o := let ⟨o, _, _, e', _⟩ := O'.ns; ⟨o, e'⟩
  refine I.write (x := a) (e := dx) (by rw [e]; exact True.intro) (.inr ho) (fun b q hb z => (sb.2 b hb).trans z) hd ?_
  refine ⟨by rw [upd_ne O.ne]; exact ho, ?_, O.ne, O'.obj, _, O'.ns, fun g => ?_, fun g hg => ?_⟩
  · have := length_putF f y fs; omega
  · show RelO ((putF f y fs).lookup g) (if g = f then some u else mA g)
    rw [lookup_putF]
    by_cases q : g = f
    · rw [if_pos q, if_pos q]; exact ry
    · rw [if_neg q, if_neg q]; exact r g
  · by_cases q : g = f
    · rw [q]; exact (keys_putF f y fs).1
    · refine (keys_putF f y fs).2 g (wi g fun z => hg ?_)
      show (if g = f then some u else mA g) = none
      rw [if_neg q]; exact z

/-- a new instance, tracked, without attributes -/
theorem Inv.made (I : Inv X pins σ H s) : Inv X pins σ (upd (upd H s.heap.objs.size (.own (s.heap.objs.size + 1))) (s.heap.objs.size + 1) (.ins C s.heap.objs.size []))
    { s with heap := (s.heap.push PySem.W.emptyDict).push (PySem.W.instObj C s.heap.objs.size) } := by
  have e1 : (s.heap.push PySem.W.emptyDict).get? s.heap.objs.size = some PySem.W.emptyDict := Heap.get?_push_size s.heap rfl
  have e2 : ((s.heap.push PySem.W.emptyDict).push (PySem.W.instObj C s.heap.objs.size)).get? (s.heap.objs.size + 1) = some (PySem.W.instObj C s.heap.objs.size) := by
    have := Heap.get?_push_size (s.heap.push PySem.W.emptyDict) (o := PySem.W.instObj C s.heap.objs.size) rfl
    rwa [Heap.size_push] at this
  have e3 : (s.heap.push PySem.W.emptyDict).Ns s.heap.objs.size (fun _ => none) := ⟨PySem.W.emptyDict, #[], _, e1, rfl, (fun e he => absurd he (by simp)), fun _ => rfl⟩
  have I1 := I.laid (a := s.heap.objs.size) (o := .own (s.heap.objs.size + 1)) (h' := s.heap.push PySem.W.emptyDict) (t' := s.toks) (fun b u q => Heap.get?_push_of_some _ q) (Nat.le_refl _) ⟨_, e1⟩
  refine I1.laid (a := s.heap.objs.size + 1) (o := .ins C s.heap.objs.size []) (t' := s.toks) (fun b u q => Heap.get?_push_of_some _ q) (Nat.le_of_eq (Heap.size_push _ _)) ?_
  have ne : s.heap.objs.size ≠ s.heap.objs.size + 1 := Nat.ne_of_lt (Nat.lt_succ_self _)
  refine ⟨by rw [upd_ne ne, upd_same], Nat.zero_le _, ne, e2, fun _ => none, (Heap.Ns1.of_empty e3).at fun o q => Heap.get?_push_of_some _ q, fun _ => True.intro, fun y hy => absurd rfl hy⟩

/-- e.f where nothing but the object is asked: through attributeBase (super) and the last hold -/
theorem attr_of {prog : Program} {w : World} {env : Env} {e : Expr} {f : Str} {pos : Pos} {s : Shared} {Q : Value → Shared → Prop} (hb : attributeBase e f env (eval e env) = eval e env)
    (h : wpAny (model prog w) A (eval e env) (fun o s₁ => wpAny (model prog w) A (getAttr o f true) Q E s₁) E s) : wpAny (model prog w) A (eval (.Attribute e f pos) env) Q E s :=
  Attribute_any_ h (by rw [arm_eval_Attribute, hb])
end

/-- e.f, an attribute of the instance -/
def tFld (K : PySem.W.Frag) (ta : TE) (f : Str) : TE := fun σ H Q => ta σ H fun x H1 => ∃ a C dx fs v, x = .ref a ∧ H1 a = some (.ins C dx fs) ∧ Cls K C ∧ NoAttr K C f ∧ fs.lookup f = some v ∧ Q v H1
/-- e.f = value -/
def sFld (K : PySem.W.Frag) (ta tv : TE) (f : Str) : TS := fun D σ H => tv σ H fun y H1 => ta σ H1 fun x H2 => ∃ a C dx fs, x = .ref a ∧ H2 a = some (.ins C dx fs) ∧ Cls K C ∧ NoAttr K C f ∧ fs.length < 1000 ∧
  D.nx σ (upd H2 a (.ins C dx (putF f y fs)))
section
variable {X : Cx} {o e value : Expr} {f : Str} {pos pos' tpos : Pos} {ta tv : TE}
theorem pe_fld (he : PE X e ta) (hb : attributeBase e f X.env (eval e X.env) = eval e X.env) : PE X (.Attribute e f pos) (tFld X.K ta f) := by
  intro pins s σ H Q I h
  refine attr_of hb (thn (he pins s σ H _ I h) fun u s1 ⟨x, H1, I1, rx, a, C, dx, fs, v, ex, ea, c, n, l, q⟩ => ?_)
  subst ex
  obtain rfl : u = Value.ref a := rx
  exact getattr_ok I1 ea c n l fun u' s2 I2 ru => ⟨v, H1, I2, ru, q⟩
theorem ps_fld (ha : PE X o ta) (hv : PE X value tv) (hs : swapsWith value (some (.Attribute o f pos')) pos.line X.env = pure false) : PS X (.Assign [.Attribute o f pos'] value pos) (sFld X.K ta tv f) := by
  intro pins s σ H D I h
  refine plainObj_wpAny_Assign_Attribute (thn (hv pins s σ H _ I h) fun u s1 ⟨y, H1, I1, ry, q⟩ => thn (ha pins s1 σ H1 _ I1 q) fun ov s2 ⟨x, H2, I2, rx, a, C, dx, fs, ex, ea, c, n, l, q2⟩ => ?_) hs
  subst ex
  obtain rfl : ov = Value.ref a := rx
  exact setattr_ok I2 ea c n l ry fun s3 I3 => ⟨σ, _, I3, q2⟩
end

section
variable {X : Cx} {pins : List (Addr × Obj)} {σ : St} {H : Hp} {s : Shared} {A : Around} {E : Value → Shared → Prop} {Q : Value → Shared → Prop} {c : Value} {b : Bool}
/-- the type of a value, as the fragment's deciders take it; for an instance its class -/
inductive TyOf (K : PySem.W.Frag) (H : Hp) : V → Value → Prop where
  | non : TyOf K H .non (.type "NoneType")
  | bl (x : Bool) : TyOf K H (.bl x) (.type "bool")
  | int (i : Int) : TyOf K H (.int i) (.type "int")
  | str (x : Str) : TyOf K H (.str x) (.type "str")
  | flt (x : UInt64) : TyOf K H (.flt x) (.type "float")
  | lst {a : Addr} {xs : List V} (e : H a = some (.lst xs)) : TyOf K H (.ref a) (.type "list")
  | frz {a : Addr} {o : Obj} {xs : List V} (e : H a = some (.frz o (.lst xs))) : TyOf K H (.ref a) (.type "list")
  | tup {a : Addr} {xs : List V} (e : H a = some (.tup xs)) : TyOf K H (.ref a) (.type "tuple")
  | dK {a : Addr} {kvs : List (Key × V)} (e : H a = some (.dK kvs)) : TyOf K H (.ref a) (.type "dict")
  | dT {a : Addr} {kvs : List (List Key × V)} (e : H a = some (.dT kvs)) : TyOf K H (.ref a) (.type "dict")
  | ins {a C dx : Addr} {fs : List (Str × V)} (e : H a = some (.ins C dx fs)) (cl : Cls K C) (ha : PySem.W.findIn K (.ref C) "__class__" = some (some (.builtin "object.__class__")))
      (hn : PySem.W.specialIn K (.builtin "object.__class__") "__get__" = some (some (.builtin "getset_descriptor.__get__"))) (htk : PySem.W.takesIn K (.builtin "object.__class__") = some true)
      (hm : PySem.W.mroIn K C (.type "object") = some true) : TyOf K H (.ref a) (.ref C)
end
end L2

namespace L2
open PySem PySem.Spec PyProof.Rows

structure Room (k : Nat) (A : Around) : Prop where
  hd : A.handled = none
  dp : A.depth + 3 * k + 5 < recursionLimit
  un : A.units + 16 * k + 200 < cLine
  gd : A.guards = some []
theorem Room.mono {j k : Nat} {A : Around} (r : Room k A) (h : j ≤ k) : Room j A := ⟨r.hd, by have := r.dp; omega, by have := r.un; omega, r.gd⟩
theorem Room.deeper {k : Nat} {A : Around} (r : Room (k + 1) A) (env : Env) : Room k (A.deeper env) :=
  ⟨r.hd, by have := r.dp; show A.depth + 1 + 3 * k + 5 < _; omega, by have := r.un; show A.units + 3 + 16 * k + 200 < _; omega, r.gd⟩
theorem make_depth {A : Around} {C : Addr} {us : List Value} {kw : List (Str × Value)} : (A.under (.builtin "type.__call__" ⟨.ref C :: us, kw⟩)).depth = A.depth + 1 := by
  first | rfl | simp [Around.under, Code.weight, Code.isCreation, Code.isGuard, Code.isCaller, Code.frames, Code.isFrame, guardIds]
theorem make_units {A : Around} {C : Addr} {us : List Value} {kw : List (Str × Value)} : (A.under (.builtin "type.__call__" ⟨.ref C :: us, kw⟩)).units = A.units + 1 := by
  first | rfl | simp [Around.under, Code.cUnits, Code.frames, Code.isFrame]
theorem make_guards {A : Around} {C : Addr} {us : List Value} {kw : List (Str × Value)} (hg : A.guards = some []) : (A.under (.builtin "type.__call__" ⟨.ref C :: us, kw⟩)).guards = some [] := by
  have h : (Code.builtin "type.__call__" ⟨.ref C :: us, kw⟩).isGuard = false := by
    show guardIds.contains "type.__call__" = false
    decide +kernel
  simp [Around.under, Code.guards, h, pushGuards, hg]
theorem Room.make {k : Nat} {A : Around} (r : Room (k + 1) A) (C : Addr) (us : List Value) (kw : List (Str × Value)) : Room k (A.under (.builtin "type.__call__" ⟨.ref C :: us, kw⟩)) :=
  ⟨r.hd, by have := r.dp; rw [make_depth]; omega, by have := r.un; rw [make_units]; omega, make_guards r.gd⟩
theorem Room.depth {k : Nat} {A : Around} (r : Room k A) : A.depth < recursionLimit := by have := r.dp; omega
theorem Room.units {k : Nat} {A : Around} (r : Room k A) : A.units + 64 < cLine := by have := r.un; omega
def tNil : TA := fun _ H Q => Q [] H
def tCons (ta : TE) (tr : TA) : TA := fun σ H Q => ta σ H fun x H1 => tr σ H1 fun xs H2 => Q (x :: xs) H2
section
variable {X : Cx} {e : Expr} {es : List Expr} {te : TE} {t : TA} {pos : Pos}
theorem pa_nil : PA X [] tNil := fun _ _ _ _ H Q I h => Calls.spliced_nil ⟨[], H, I, .nil, h⟩
theorem pa_cons (ha : PE X e te) (hr : PA X es t) (hs : starEach (e :: es) X.env = (false, eval e X.env) :: starEach es X.env := by rfl) : PA X (e :: es) (tCons te t) := by
  intro pos pins s σ H Q I h
  rw [hs]
  show wpAny _ _ (spliced ((false, eval e X.env) :: backTo pos (starEach es X.env))) _ _ s
  refine Calls.spliced_cons (thn (ha pins s σ H _ I h) fun u s1 ⟨x, H1, I1, r1, q1⟩ => ?_)
  exact thn (hr pos pins s1 σ H1 _ I1 q1) fun us s2 ⟨xs, H2, I2, r2, q2⟩ => ⟨x :: xs, H2, I2, .cons r1 r2, q2⟩

/-- a tuple, a list of written items -/
def tTup (t : TA) : TE := fun σ H Q => t σ H fun xs H1 => xs.length ≤ sizeLine ∧ ∀ p, H1 p = none → Q (.ref p) (upd H1 p (.tup xs))
def tLst (t : TA) : TE := fun σ H Q => t σ H fun xs H1 => xs.length ≤ sizeLine ∧ ∀ p, H1 p = none → Q (.ref p) (upd H1 p (.lst xs))
theorem pe_tup {x1} (h : PA X es t) : PE X (.Tuple es x1 pos) (tTup t) := by
  intro pins s σ H Q I hq
  refine wpAny_Tuple_spliced (thn (h pos pins s σ H _ I hq) fun us s1 ⟨xs, H1, I1, r, z, q⟩ => ⟨by rw [← r.length]; exact z, ?_⟩)
  have hf : H1 s1.heap.objs.size = none := I1.hok.fresh (Nat.le_refl _)
  refine ⟨.ref s1.heap.objs.size, upd H1 s1.heap.objs.size (.tup xs), I1.laid (t' := s1.toks) (fun b u e => Heap.get?_push_of_some _ e) (Nat.le_refl _) ?_, rfl, q _ hf⟩
  exact ⟨z, us, r, ⟨_, Heap.get?_push_size _ rfl, rfl, _, rfl⟩⟩
theorem pe_lst (h : PA X es t) : PE X (.List es pos) (tLst t) := by
  intro pins s σ H Q I hq
  refine wpAny_List_spliced (thn (h pos pins s σ H _ I hq) fun us s1 ⟨xs, H1, I1, r, z, q⟩ => ⟨by rw [← r.length]; exact z, ?_⟩)
  have hf : H1 s1.heap.objs.size = none := I1.hok.fresh (Nat.le_refl _)
  refine ⟨.ref s1.heap.objs.size, upd H1 s1.heap.objs.size (.lst xs), I1.laid (t' := s1.toks) (fun b u e => Heap.get?_push_of_some _ e) (Nat.le_refl _) ?_, rfl, q _ hf⟩
  exact ⟨z, us, 0, r, Heap.get?_push_size _ rfl⟩
end

/-- a def's promise: the bound arguments in the parameters' order, the heap, the wanted end, the wanted exception -/
abbrev Sp := List V → Hp → VK → XK → Prop
/-- how an exception lies behind a call (file 08 gives it): the callers' frames, abstract heap and state ahead of the call, the wish, the exception, the state -/
abbrev CXT := List Env → Hp → Shared → XK → Value → Shared → Prop

/-- the state at a call -/
structure Env0 (P : Program) (w : World) (K : PySem.W.Frag) (mg : Str → Option Value) (base : Heap) (A : Around) (outer : List Env) (s : Shared) (H : Hp) : Prop where
  frames : A.frames = some outer
  mod : Mod K mg base
  bs : ∀ b o, base.get? b = some o → s.heap.get? b = some o ∧ H b = none
  bsz : base.objs.size ≤ s.heap.objs.size
  funs : s.heap.FunFrames base outer
  frf : ∀ b ∈ frs outer, H b = none
  hok : HOk P w H s.heap
  bare : AllBare s.gens
/-- a call's end -/
def CE (outer : List Env) (P : Program) (w : World) (H : Hp) (s : Shared) (Q : VK) (u : Value) (s' : Shared) : Prop :=
  ∃ v H', s'.os = s.os ∧ AllBare s'.gens ∧ Un (frs outer) [] H H' s.heap s'.heap ∧ HOk P w H' s'.heap ∧ RelV v u ∧ Q v H'
def CR (CX : CXT) (outer : List Env) (P : Program) (w : World) (H : Hp) (s : Shared) (Q : VK) (E : XK) (r : Result) (s' : Shared) : Prop :=
  match r with
  | .ok (.ret u) => CE outer P w H s Q u s'
  | .ok _ => False
  | .error e => CX outer H s E e s'
structure FnOk (P : Program) (w : World) (K : PySem.W.Frag) (mg : Str → Option Value) (base : Heap) (CX : CXT) (k : Nat) (f : Addr) (fd : FuncData) (ps : List Str) (sp : Sp) : Prop where
  len : ∀ vs H Q E, sp vs H Q E → vs.length = ps.length
  run : ∀ (A : Around) (outer : List Env) (s : Shared) (H : Hp) (args : Args) (us : List Value) (vs : List V) (Q : VK) (E : XK), Room k A → Env0 P w K mg base A outer s H → BindsTo s fd args (ps.zip us) → Vals vs us → sp vs H Q E →
    codeAny (model P w) A (.call (.ref f) args) (CR CX outer P w H s Q E) s
theorem Env0.make {P : Program} {w : World} {K : PySem.W.Frag} {mg : Str → Option Value} {base : Heap} {A : Around} {outer : List Env} {s : Shared} {H : Hp} (e : Env0 P w K mg base A outer s H) (C : Addr) (us : List Value) (kw : List (Str × Value)) :
    Env0 P w K mg base (A.under (.builtin "type.__call__" ⟨.ref C :: us, kw⟩)) outer s H := ⟨by first | exact e.frames | (simpa [Around.under, Code.envs, Code.isFrame, pushEnvs] using e.frames), e.mod, e.bs, e.bsz, e.funs, e.frf, e.hok, e.bare⟩
section
variable {X : Cx} {pins : List (Addr × Obj)} {σ : St} {H : Hp} {s s' : Shared}
/-- from a body: what a callee wants -/
theorem Inv.env0 (I : Inv X pins σ H s) : Env0 X.prog X.w X.K X.mg X.base X.A X.stack s H :=
  ⟨I.ok.frames, I.ok.mod, I.bs, Nat.le_trans I.ok.bsz I.sz, I.stack, I.stkFree, I.hok, I.bare⟩
/-- behind a call -/
theorem Inv.after {Q : VK} {u : Value} (I : Inv X pins σ H s) (h : CE X.stack X.prog X.w H s Q u s') : EP X pins σ Q u s' := by
  obtain ⟨v, H', os, bare, un, hok, r, q⟩ := h
  obtain ⟨hh, g, d, t, os'⟩ := s'
  obtain rfl : os' = s.os := os
  exact ⟨v, H', I.call (h' := hh) (g' := g) (d' := d) (t' := t) (ch := []) un hok bare (fun b z => absurd z (by simp)), r, q⟩
end

/-- f(..): the written arguments, then the defaults dvs; E: what is wanted of an exception -/
def tCall (sp : Sp) (dvs : List V) (E : XK) (t : TA) : TE := fun σ H Q => t σ H fun vs H1 => sp (vs ++ dvs) H1 Q E
/-- o.m(..) of an instance of the class at C -/
def tMeth (C : Addr) (m : Str) (sp : Sp) (dvs : List V) (E : XK) (ta : TE) (t : TA) : TE := fun σ H Q => ta σ H fun x H1 => ∃ a dx fs, x = .ref a ∧ H1 a = some (.ins C dx fs) ∧ fs.lookup m = none ∧
  t σ H1 fun vs H2 => sp (x :: (vs ++ dvs)) H2 Q E
/-- C(..): a new instance and its dict, then __init__ -/
def tMake (C : Addr) (sp : Sp) (dvs : List V) (E : XK) (t : TA) : TE := fun σ H Q => t σ H fun vs H1 => ∀ x dx, H1 x = none → H1 dx = none → dx ≠ x →
  sp (.ref x :: (vs ++ dvs)) (upd (upd H1 dx (.own x)) x (.ins C dx [])) (fun v H2 => v = .non ∧ Q (.ref x) H2) E

/-- how the parameters are bound: us the positional arguments, kw the keywords' values by name, ds the defaults that fill up -/
def Binds (K : PySem.W.Frag) (fd : FuncData) (ps : List Str) (ds : List Value) : Prop :=
  ∀ (s : Shared) (us : List Value), K.In s.heap → (us ++ ds).length = ps.length → BindsTo s fd ⟨us, []⟩ (ps.zip (us ++ ds))
/-- every parameter is given -/
theorem Binds.all {K : PySem.W.Frag} {fd : FuncData} {ps : List Str} (h : ∀ us : List Value, us.length = ps.length → bindArgs fd ⟨us, []⟩ = pure (ps.zip us)) : Binds K fd ps [] := fun s us _ hl => by
  rw [List.append_nil] at hl ⊢
  exact .of_eq (h us hl)

/-- an exception of a callee reaches what this body wants of exceptions -/
def Passes (CX : CXT) (X : Cx) (E : XK) : Prop := ∀ (pins : List (Addr × Obj)) (σ : St) (H : Hp) (s : Shared) (e : Value) (s' : Shared), Inv X pins σ H s → CX X.stack H s E e s' → X.xe e s'

section
variable {X : Cx} {CX : CXT} {k : Nat} {f C : Addr} {fd : FuncData} {ps : List Str} {sp : Sp} {dvs : List V} {ds : List Value} {E : XK} {x m : Str} {p pos apos : Pos} {e o : Expr} {es : List Expr} {ta : TE} {t : TA}

/-- the callee runs -/
theorem run_fn {pins : List (Addr × Obj)} {σ : St} {H : Hp} {s : Shared} {Q : VK} {us : List Value} {vs : List V} (F : FnOk X.prog X.w X.K X.mg X.base CX k f fd ps sp) (hr : Room k X.A) (hb : Binds X.K fd ps ds) (hd : Vals dvs ds) (hx : Passes CX X E)
    (I : Inv X pins σ H s) (r : Vals vs us) (h : sp (vs ++ dvs) H Q E) : wpAny (model X.prog X.w) X.A (call (.ref f) us) (EP X pins σ Q) X.xe s := by
  have r2 : Vals (vs ++ dvs) (us ++ ds) := r.append hd
  have hl : (us ++ ds).length = ps.length := by rw [← r2.length]; exact F.len _ _ _ _ h
  refine wpAny_call (codeAny_mono (F.run X.A X.stack s H ⟨us, []⟩ (us ++ ds) (vs ++ dvs) Q E hr I.env0 (hb s us I.kIn hl) r2 h) fun r s' hq => ?_)
  cases r with
  | error e => exact hx pins σ H s e s' I hq
  | ok fl =>
    cases fl with
    | ret u => exact I.after hq
    | next => exact False.elim hq
    | brk => exact False.elim hq
    | cont => exact False.elim hq

theorem pe_call (F : FnOk X.prog X.w X.K X.mg X.base CX k f fd ps sp) (hr : Room k X.A) (hg : Gl X x) (hm : X.mg x = some (.ref f)) (hk : PySem.W.keepIn X.K (.ref f) = true) (hb : Binds X.K fd ps ds) (hd : Vals dvs ds) (hx : Passes CX X E)
    (ha : PA X (e :: es) t) (hdb : (x == ("__debug__" : Str)) = false := by decide) (he : starEach (e :: es) X.env = (false, eval e X.env) :: starEach es X.env := by rfl) (hpl : (backTo pos (starEach es X.env)).any (·.1) = false := by rfl) :
    PE X (.Call (.Name x p) (e :: es) [] pos) (tCall sp dvs E t) := by
  intro pins s σ H Q I h
  refine wpAny_Call_Name_kw (ld_glob I hg hm ?_ hdb)
  refine PySem.W.callWith_K (h₀ := X.base) I.ok.mod.kin hk (thn (ha pos pins s σ H _ I h) fun us s1 ⟨vs, H1, I1, r, q⟩ => ⟨I1.kIn, ?_⟩) he hpl
  exact run_fn F hr hb hd hx I1 r q
/-- o.m(e, ..) -/
theorem pe_meth {pl : Sem Bool} (he : PE X o ta) (c : Cls X.K C) (hm : Meth X.K C m f) (F : FnOk X.prog X.w X.K X.mg X.base CX k f fd ps sp) (hr : Room k X.A) (hb : Binds X.K fd ps ds) (hd : Vals dvs ds) (hx : Passes CX X E) (ha : PA X (e :: es) t)
    (hst : starEach (e :: es) X.env = (false, eval e X.env) :: starEach es X.env := by rfl) (hpl : (backTo pos (starEach es X.env)).any (·.1) = false := by rfl)
    (ht : eval (.Call (.Attribute o m apos) (e :: es) [] pos) X.env = (do
      let ov ← eval o X.env
      standAt apos.atName
      let (f, first) ← holding [ov] (getMethod ov m pl)
      callWith pos f first (backTo pos (starEach (e :: es) X.env)) (backToKw pos (keywordEach [] X.env))) := by rfl) :
    PE X (.Call (.Attribute o m apos) (e :: es) [] pos) (tMeth C m sp dvs E ta t) := by
  intro pins s σ H Q I h
  refine PySem.W.methodCall_KW (pl := pl) (thn (he pins s σ H _ I h) fun u s1 ⟨x, H1, I1, rx, a, dx, fs, ex, ea, l, q⟩ => ?_) ht
  subst ex
  obtain rfl : u = Value.ref a := rx
  refine getmeth_ok I1 ea c hm l ?_
  refine PySem.W.callWith_K (first := [.ref a]) (h₀ := X.base) I.ok.mod.kin hm.kp (thn (ha pos pins s1 σ H1 _ I1 q) fun us s2 ⟨vs, H2, I2, r, q2⟩ => ⟨I2.kIn, ?_⟩) hst hpl
  exact run_fn (us := .ref a :: us) (vs := .ref a :: vs) F hr hb hd hx I2 (.cons rfl r) q2
/-- o.m() -/
theorem pe_meth0 {pl : Sem Bool} (he : PE X o ta) (c : Cls X.K C) (hm : Meth X.K C m f) (F : FnOk X.prog X.w X.K X.mg X.base CX k f fd ps sp) (hr : Room k X.A) (hb : Binds X.K fd ps ds) (hd : Vals dvs ds) (hx : Passes CX X E)
    (ht : eval (.Call (.Attribute o m apos) [] [] pos) X.env = (do
      let ov ← eval o X.env
      standAt apos.atName
      let (f, first) ← holding [ov] (getMethod ov m pl)
      callWith pos f first (backTo pos (starEach [] X.env)) (backToKw pos (keywordEach [] X.env))) := by rfl) :
    PE X (.Call (.Attribute o m apos) [] [] pos) (tMeth C m sp dvs E ta tNil) := by
  intro pins s σ H Q I h
  refine PySem.W.methodCall_KW (pl := pl) (thn (he pins s σ H _ I h) fun u s1 ⟨x, H1, I1, rx, a, dx, fs, ex, ea, l, q⟩ => ?_) ht
  subst ex
  obtain rfl : u = Value.ref a := rx
  refine getmeth_ok I1 ea c hm l ?_
  exact PySem.W.callWith_K0 (first := [.ref a]) I1.kIn hm.kp (run_fn (us := [.ref a]) (vs := [.ref a]) F hr hb hd hx I1 (.cons rfl .nil) q)

/-- what a class must have to be made -/
structure Mk (K : PySem.W.Frag) (C f : Addr) : Prop where
  makes : PySem.W.makesIn K C = true
  init : PySem.W.findIn K (.ref C) "__init__" = some (some (.ref f))
  fn : PySem.W.isFn K (.ref f) = true
  kp : PySem.W.keepIn K (.ref C) = true

theorem run_make {pins : List (Addr × Obj)} {σ : St} {H : Hp} {s : Shared} {Q : VK} {us : List Value} {vs : List V} (M : Mk X.K C f) (F : FnOk X.prog X.w X.K X.mg X.base CX k f fd ps sp) (hr : Room (k + 1) X.A) (hb : Binds X.K fd ps ds) (hd : Vals dvs ds)
    (hx : Passes CX X E) (I : Inv X pins σ H s) (r : Vals vs us)
    (h : ∀ x dx, H x = none → H dx = none → dx ≠ x → sp (.ref x :: (vs ++ dvs)) (upd (upd H dx (.own x)) x (.ins C dx [])) (fun v H2 => v = .non ∧ Q (.ref x) H2) E) :
    wpAny (model X.prog X.w) X.A (call (.ref C) us) (EP X pins σ Q) X.xe s := by
  have hq := h (s.heap.objs.size + 1) s.heap.objs.size (I.hok.fresh (Nat.le_succ _)) (I.hok.fresh (Nat.le_refl _)) (Nat.ne_of_lt (Nat.lt_succ_self _))
  have I2 := Inv.made (C := C) I
  have r2 : Vals (V.ref (s.heap.objs.size + 1) :: (vs ++ dvs)) (Value.ref (s.heap.objs.size + 1) :: (us ++ ds)) := .cons rfl (r.append hd)
  have hl : (Value.ref (s.heap.objs.size + 1) :: us ++ ds).length = ps.length := by
    have e := r2.length
    rw [F.len _ _ _ _ hq] at e
    exact e.symm
  refine wpAny_call (make_map (f := f) I.kIn M.makes M.init (beq_iff_eq.mp M.fn) (codeAny_mono (F.run _ X.stack _ _ ⟨Value.ref (s.heap.objs.size + 1) :: us, []⟩ (Value.ref (s.heap.objs.size + 1) :: (us ++ ds)) _ _ E (hr.make C us [])
    (I2.env0.make C us []) (hb _ (Value.ref (s.heap.objs.size + 1) :: us) I2.kIn hl) r2 hq) fun r s' hq' => ?_))
  cases r with
  | error e => exact hx pins σ _ _ e s' I2 hq'
  | ok fl =>
    cases fl with
    | ret u =>
      obtain ⟨v, H', I3, rv, ev, q3⟩ := I2.after hq'
      subst ev
      exact ⟨rv, ⟨V.ref (s.heap.objs.size + 1), H', I3, rfl, q3⟩⟩
    | next => exact False.elim hq'
    | brk => exact False.elim hq'
    | cont => exact False.elim hq'
theorem pe_make (M : Mk X.K C f) (F : FnOk X.prog X.w X.K X.mg X.base CX k f fd ps sp) (hr : Room (k + 1) X.A) (hg : Gl X x) (hm : X.mg x = some (.ref C)) (hb : Binds X.K fd ps ds) (hd : Vals dvs ds) (hx : Passes CX X E)
    (ha : PA X (e :: es) t) (hdb : (x == ("__debug__" : Str)) = false := by decide) (he : starEach (e :: es) X.env = (false, eval e X.env) :: starEach es X.env := by rfl) (hpl : (backTo pos (starEach es X.env)).any (·.1) = false := by rfl) :
    PE X (.Call (.Name x p) (e :: es) [] pos) (tMake C sp dvs E t) := by
  intro pins s σ H Q I h
  refine wpAny_Call_Name_kw (ld_glob I hg hm ?_ hdb)
  refine PySem.W.callWith_K (h₀ := X.base) I.ok.mod.kin M.kp (thn (ha pos pins s σ H _ I h) fun us s1 ⟨vs, H1, I1, r, q⟩ => ⟨I1.kIn, ?_⟩) he hpl
  exact run_make M F hr hb hd hx I1 r q
end

section
variable {X : Cx} {CX : CXT} {k : Nat} {f C : Addr} {fd : FuncData} {ps ks : List Str} {sp : Sp} {E : XK} {x m : Str} {p pos apos kpos : Pos} {e o : Expr} {es : List Expr} {kws : List Keyword} {te ta : TE} {t tk : TA} {nm : Option Str}
/-- how a call with keywords binds: g puts the positional values us and the keywords' values ws (names ks) in the parameters' order, defaults among them -/
structure KBinds (K : PySem.W.Frag) (fd : FuncData) (ps ks : List Str) (g : List Value → List Value → List Value) (gV : List V → List V → List V) : Prop where
  to : ∀ (s : Shared) (us ws : List Value), K.In s.heap → (g us ws).length = ps.length → BindsTo s fd ⟨us, ks.zip ws⟩ (ps.zip (g us ws))
  rel : ∀ {vs : List V} {us : List Value} {zs : List V} {ws : List Value}, Vals vs us → Vals zs ws → Vals (gV vs zs) (g us ws)
variable {g : List Value → List Value → List Value} {gV : List V → List V → List V}
end

/-- names: the parameters first -/
structure FnScope (N P : List Str) (sc : Scope) : Prop where
  kind : sc.kind = .function
  co : sc.isCoroutine = false
  gen : sc.isGenerator = false
  nd : N.Nodup
  pre : N.take P.length = P
  par : ∀ x ∈ P, sc.names.lookup x = some .local ∨ sc.names.lookup x = some .cell
  nofree : ∀ y ∈ sc.names, y.2 ≠ .free

theorem bindL_out {kindOf : Str → Option NameKind} {x : Str} : ∀ {binds : List (Str × Value)} {m : Str → Option Value}, (∀ v, (x, v) ∉ binds) → bindL kindOf binds m x = m x
  | [], _, _ => rfl
  | (n, v) :: r, m, h => by
    unfold bindL
    rw [bindL_out fun w hw => h w (List.mem_cons_of_mem _ hw)]
    split
    · have : x ≠ n := by rintro rfl; exact h v List.mem_cons_self
      simp [this]
    · rfl
theorem bindC_out {kindOf : Str → Option NameKind} {x : Str} : ∀ {binds : List (Str × Value)} {m : Str → Option Value}, (∀ v, (x, v) ∉ binds) → bindC kindOf binds m x = m x
  | [], _, _ => rfl
  | (n, v) :: r, m, h => by
    unfold bindC
    rw [bindC_out fun w hw => h w (List.mem_cons_of_mem _ hw)]
    split
    · rfl
    · have : x ≠ n := by rintro rfl; exact h v List.mem_cons_self
      simp [this]
theorem bindL_get {kindOf : Str → Option NameKind} {x : Str} {v : Value} : ∀ {P : List Str} {vs : List Value} {i : Nat} {m : Str → Option Value}, P.Nodup → P[i]? = some x → vs[i]? = some v → kindOf x = some .local →
    bindL kindOf (P.zip vs) m x = some v
  | [], _, _, _, _, h, _, _ => by simp at h
  | _ :: _, [], _, _, _, _, h, _ => by simp at h
  | p :: P, w :: vs, 0, m, nd, h1, h2, hk => by
    simp at h1 h2; subst h1; subst h2
    show bindL kindOf ((p, w) :: P.zip vs) m p = _
    unfold bindL
    rw [bindL_out fun v hv => (List.nodup_cons.mp nd).1 (List.of_mem_zip hv).1, if_pos hk]
    simp
  | p :: P, w :: vs, i + 1, m, nd, h1, h2, hk => by
    show bindL kindOf ((p, w) :: P.zip vs) m x = _
    unfold bindL
    exact bindL_get (i := i) (List.nodup_cons.mp nd).2 (by simpa using h1) (by simpa using h2) hk
theorem bindC_get {kindOf : Str → Option NameKind} {x : Str} {v : Value} : ∀ {P : List Str} {vs : List Value} {i : Nat} {m : Str → Option Value}, P.Nodup → P[i]? = some x → vs[i]? = some v → kindOf x ≠ some .local →
    bindC kindOf (P.zip vs) m x = some v
  | [], _, _, _, _, h, _, _ => by simp at h
  | _ :: _, [], _, _, _, _, h, _ => by simp at h
  | p :: P, w :: vs, 0, m, nd, h1, h2, hk => by
    simp at h1 h2; subst h1; subst h2
    show bindC kindOf ((p, w) :: P.zip vs) m p = _
    unfold bindC
    rw [bindC_out fun v hv => (List.nodup_cons.mp nd).1 (List.of_mem_zip hv).1, if_neg hk]
    simp
  | p :: P, w :: vs, i + 1, m, nd, h1, h2, hk => by
    show bindC kindOf ((p, w) :: P.zip vs) m x = _
    unfold bindC
    exact bindC_get (i := i) (List.nodup_cons.mp nd).2 (by simpa using h1) (by simpa using h2) hk

/-- the names' values at the entry -/
def start (N : List Str) (vs : List V) : St := vs.map some ++ List.replicate (N.length - vs.length) none

/-- the context of a def's body, at its entry; an exception leaves the frame, then lies as CX says -/
def cxOf (CX : CXT) (P : Program) (w : World) (K : PySem.W.Frag) (mg : Str → Option Value) (base : Heap) (N : List Str) (qual : Str) (scope : Scope) (f : Addr) (cd : Value) (A : Around) (outer : List Env) (s : Shared) (H : Hp) (E : XK) : Cx where
  prog := P
  w := w
  K := K
  mg := mg
  base := base
  A := A.deeper (envOfC qual scope s.heap.objs.size f cd)
  N := N
  s₀ := s
  H₀ := H
  env := envOfC qual scope s.heap.objs.size f cd
  outer := outer
  stack := envOfC qual scope s.heap.objs.size f cd :: outer
  ex := []
  calm := true
  fn := fun _ => true
  pn := []
  xe := fun e s' => wpAny (model P w) (A.deeper (envOfC qual scope s.heap.objs.size f cd)) (leaving (envOfC qual scope s.heap.objs.size f cd) e) (fun _ s'' => CX outer H s E e s'') (fun e' s'' => CX outer H s E e' s'') s'

theorem cell_has {sc : Scope} {n : Nat} {x : Str} (h : sc.names.lookup x = some .cell) : ∃ c, (cellsFrom n sc.names []).lookup x = some c := by
  have q := PySem.W.cellsFrom_some sc.names n [] (.inl h)
  exact Option.isSome_iff_exists.mp q

theorem inv_start {CX : CXT} {P : Program} {w : World} {K : PySem.W.Frag} {mg : Str → Option Value} {base : Heap} {N ps : List Str} {qual : Str} {scope : Scope} {f : Addr} {cd : Value} {A : Around} {outer : List Env} {s s1 : Shared} {H : Hp} {E : XK} {us : List Value} {vs : List V}
    (S : FnScope N ps scope) (hd : A.handled = none) (e0 : Env0 P w K mg base A outer s H) (hl : vs.length = ps.length) (r : Vals vs us)
    (x : InCallC s s.heap.objs.size (bindL (envOfC qual scope s.heap.objs.size f cd).kindOf (ps.zip us) fun _ => none) (cellsFrom (s.heap.objs.size + 1) scope.names []) (bindC (envOfC qual scope s.heap.objs.size f cd).kindOf (ps.zip us) fun _ => none) s1) :
    Inv (cxOf CX P w K mg base N qual scope f cd A outer s H E) [] (start N vs) H s1 := by
  have hpl : ps.length ≤ N.length := by have := congrArg List.length S.pre; rw [List.length_take] at this; omega
  obtain ⟨h1, tk, rfl, hk⟩ := x.done
  have noA : ∀ b : Addr, b ∉ (cxOf CX P w K mg base N qual scope f cd A outer s H E).ex := fun b z => absurd (show b ∈ ([] : List Addr) from z) (by simp)
  refine ⟨⟨e0.mod, S.kind, rfl, rfl, Nat.le_refl _, fun y z c h1 h2 => ?_, fun y hy => ?_, fun y c _ h => ?_, fun _ => hd, Around.frames_deeper e0.frames, .inr ⟨rfl, rfl⟩, fun b z => absurd z (noA b), e0.bs, e0.bsz, fun b _ _ => noA b, fun b z => absurd z (noA b), e0.funs, e0.frf⟩,
    rfl, e0.bare, Un.kept hk, ⟨_, x.toInCall.ns, fun i y v h1 h2 h3 => ?_⟩, fun y c h => ⟨_, x.cell y c h⟩, e0.hok.fresh (Nat.le_refl _), fun y c h => ?_, fun p hp => absurd (show p ∈ ([] : List (Addr × Obj)) from hp) (by simp), e0.hok.kept hk, ?_⟩
  · exact name_of_addr x.apart (PySem.mem_of_lookup h1) (PySem.mem_of_lookup h2)
  · have hy : scope.names.lookup y = some .cell ∨ scope.names.lookup y = some .free := hy
    rcases hy with hy | hy
    · exact cell_has hy
    · exact absurd rfl (S.nofree _ (PySem.mem_of_lookup hy))
  · exact Nat.le_of_lt (x.above y c (PySem.mem_of_lookup h))
  · have hi : i < vs.length := by
      unfold start at h2
      by_cases hi : i < vs.length
      · exact hi
      · rw [List.getElem?_append_right (by simpa using hi)] at h2
        rw [List.getElem?_replicate] at h2
        split at h2 <;> cases h2
    have ha : vs[i]? = some v := by
      unfold start at h2
      rw [List.getElem?_append_left (by simpa using hi), List.getElem?_map] at h2
      cases e : vs[i]? with
      | none => rw [e] at h2; cases h2
      | some a => rw [e] at h2; cases h2; rfl
    obtain ⟨u, hu, rv⟩ := r.get ha
    have hp : ps[i]? = some y := by
      rw [← S.pre, List.getElem?_take_of_lt (by omega)]; exact h1
    have ndP : ps.Nodup := by rw [← S.pre]; exact S.nd.sublist (List.take_sublist _ _)
    refine ⟨u, rv, ?_⟩
    rcases S.par y (List.mem_of_getElem? hp) with k | k
    · exact .inl ⟨k, bindL_get ndP hp hu k⟩
    · obtain ⟨c, e⟩ := cell_has (n := s.heap.objs.size + 1) k
      refine .inr ⟨.inl k, c, e, ?_⟩
      have q := x.cell y c e
      rw [bindC_get ndP hp hu (by show scope.names.lookup y ≠ _; rw [k]; decide)] at q
      exact q
  · exact e0.hok.fresh (Nat.le_of_lt (x.above y c (PySem.mem_of_lookup h)))
  · unfold start
    show _ = N.length
    rw [List.length_append, List.length_map, List.length_replicate]
    omega

/-- THE RULE: a def (or a method) of the text, by its body. The body's reading t is chosen for each entry; it is run at the parameters' values -/
theorem fn_of {CX : CXT} {P : Program} {w : World} {K : PySem.W.Frag} {mg : Str → Option Value} {base : Heap} {k : Nat} {f : Addr} {name qual : Str} {params : Arguments} {body : List Stmt} {scope : Scope} {dV kV doc pm cdv ct oc : Value} {an od : Option Addr}
    {osl : Array (Option Value)} {N ps : List Str} {sp : Sp} (lk : K.lookup f = some ⟨oc, od, .func (PySem.W.fnOf name qual params body scope dV kV doc pm an cdv ct), osl⟩) (hcd : PySem.W.codeIn K cdv qual = true) (S : FnScope N ps scope)
    (len : ∀ vs H Q E, sp vs H Q E → vs.length = ps.length)
    (hbody : ∀ (A : Around) (outer : List Env) (s : Shared) (H : Hp) (vs : List V) (Q : VK) (E : XK), Room k (A.deeper (envOfC qual scope s.heap.objs.size f cdv)) → sp vs H Q E →
      ∃ t, PSs (cxOf CX P w K mg base N qual scope f cdv A outer s H E) body t ∧ t { nx := fun _ H' => Q .non H', rt := Q } (start N vs) H) :
    FnOk P w K mg base CX (k + 1) f (PySem.W.fnOf name qual params body scope dV kV doc pm an cdv ct) ps sp := by
  refine ⟨len, fun A outer s H args us vs Q E hr e0 hb r hsp => ?_⟩
  have hl := len _ _ _ _ hsp
  have KX : K.In s.heap := e0.mod.kin.keeps fun b o e => (e0.bs b o e).1
  have lim : s.heap.NoLimit := e0.mod.nolimit.keeps fun b o e => (e0.bs b o e).1
  have hkind : ∀ y ∈ ps.zip us, scope.names.lookup y.1 = some .local ∨ (scope.names.lookup y.1 = some .cell ∧ ((cellsFrom (s.heap.objs.size + 1) scope.names []).lookup y.1).isSome = true) := fun ⟨n, v⟩ hy => by
    rcases S.par n (List.of_mem_zip hy).1 with q | q
    · exact .inl q
    · exact .inr ⟨q, PySem.W.cellsFrom_some _ _ _ (.inl q)⟩
  refine codeAny_call_function hr.depth (KX _ _ lk) rfl S.co S.gen rfl (PySem.W.codeRec_of KX hcd) (hb _ _ _ _ ?_)
  refine wpAny_newFunctionEnv_cells S.kind hkind fun env he s1 x => ?_
  subst he
  refine ⟨lim.keeps x.toInCall.keep, codeAny_func ?_⟩
  obtain ⟨t, ht, hq⟩ := hbody A outer s H vs Q E (hr.deeper _) hsp
  have I : Inv (cxOf CX P w K mg base N qual scope f cdv A outer s H E) [] (start N vs) H s1 := inv_start S hr.hd e0 hl r x
  refine wpAny_mono (ht [] s1 (start N vs) H _ I hq) (fun fl s' hs => ?_) fun e s' hs => hs
  have fin : ∀ {σ' : St} {H' : Hp} {v : V} {u : Value}, Inv (cxOf CX P w K mg base N qual scope f cdv A outer s H E) [] σ' H' s' → RelV v u → Q v H' → CE outer P w H s Q u s' :=
    fun {σ' H' v u} J rv q => ⟨v, H', J.os, J.bare, J.base, J.hok, rv, q⟩
  cases fl with
  | ret u =>
    obtain ⟨v, σ', H', J, rv, q⟩ := hs
    exact fin J rv q
  | next =>
    obtain ⟨σ', H', J, q⟩ := hs
    exact fin (v := V.non) (u := Value.none) J rfl q
  | brk =>
    obtain ⟨_, _, _, q⟩ := hs
    exact False.elim q
  | cont =>
    obtain ⟨_, _, _, q⟩ := hs
    exact False.elim q
end L2

namespace L2
open PySem PySem.Spec PyProof.Rows
section
variable {X : Cx} {x : Str} {p pos : Pos} {e : Expr} {es : List Expr} {t : TA} {id T : String} {r : List V → Hp → VK → Prop}

def tCB (r : List V → Hp → VK → Prop) (t : TA) : TE := fun σ H Q => t σ H fun vs H1 => r vs H1 Q
/-- f(e, ..), f a built-in function -/
theorem pe_callB (hc : CallR X (.builtin id) r) (hg : Gl X x) (hm : X.mg x = none) (hv : bootBuiltins x = some (.builtin id)) (ha : PA X (e :: es) t) (hn : x ≠ "__name__" := by decide) (hdb : (x == ("__debug__" : Str)) = false := by decide)
    (he : starEach (e :: es) X.env = (false, eval e X.env) :: starEach es X.env := by rfl) (hpl : (backTo pos (starEach es X.env)).any (·.1) = false := by rfl) : PE X (.Call (.Name x p) (e :: es) [] pos) (tCB r t) := by
  intro pins s σ H Q I h
  refine wpAny_Call_Name_kw (ld_blt I hg hm hv ?_ hn hdb)
  exact PyProof.Rows.callWith_builtin1 (thn (ha pos pins s σ H _ I h) fun us s1 ⟨vs, H1, I1, r1, q1⟩ => hc pins s1 σ H1 vs us Q I1 r1 q1) he hpl
/-- T(e, ..), T a built-in type -/
theorem pe_callTy (hc : CallR X (.type T) r) (hg : Gl X x) (hm : X.mg x = none) (hv : bootBuiltins x = some (.type T)) (ha : PA X (e :: es) t) (hn : x ≠ "__name__" := by decide) (hdb : (x == ("__debug__" : Str)) = false := by decide)
    (he : starEach (e :: es) X.env = (false, eval e X.env) :: starEach es X.env := by rfl) (hpl : (backTo pos (starEach es X.env)).any (·.1) = false := by rfl) : PE X (.Call (.Name x p) (e :: es) [] pos) (tCB r t) := by
  intro pins s σ H Q I h
  refine wpAny_Call_Name_kw (ld_blt I hg hm hv ?_ hn hdb)
  exact PyProof.Rows.callWith_type1 (thn (ha pos pins s σ H _ I h) fun us s1 ⟨vs, H1, I1, r1, q1⟩ => hc pins s1 σ H1 vs us Q I1 r1 q1) he hpl
end
end L2

namespace HT
open PySem PyProof.Rows

/-- t < u of tuples of ints -/
def lexLt : List Int → List Int → Bool
  | [], [] => false
  | [], _ :: _ => true
  | _ :: _, [] => false
  | x :: xs, y :: ys => if x = y then lexLt xs ys else decide (x < y)
theorem lexLt_cons (x y : Int) (xs ys : List Int) : lexLt (x :: xs) (y :: ys) = if x = y then lexLt xs ys else decide (x < y) := rfl
theorem lexLt_nil_nil : lexLt [] [] = false := rfl
theorem lexLt_nil_cons (y : Int) (ys : List Int) : lexLt [] (y :: ys) = true := rfl
theorem lexLt_cons_nil (x : Int) (xs : List Int) : lexLt (x :: xs) [] = false := rfl

theorem eqAt_int (A : Around) (s : Shared) (a : Int) (t : Tok) (c : Int) (u : Tok) : ∃ e, SeqAt.EqAt A s (.int a t) (.int c u) e ∧ (e = true ↔ a = c) :=
  ⟨(a == c), SeqAt.EqAt.int_int a t c u, by simp⟩
theorem rcLt_int (A : Around) (s : Shared) (a : Int) (t : Tok) (c : Int) (u : Tok) (prog : Program) (w : World) (E : Value → Shared → Prop) (Q : Value → Shared → Prop) (h : Q (.bool (decide (a < c))) s) :
    wpAny (model prog w) A (richCompare .Lt (.int a t) (.int c u)) Q E s :=
  (PyProof.Rows.lt_int h : wpAny (model prog w) A (compareOp .Lt (.int a t) (.int c u)) Q E s)

section
open PySem.SeqAt
open PySem.AutoSeq1 (wpAny_loadPart')
open PySem.MeetsSeq PySem.MeetsSeq2 PySem.MeetsSeq3

theorem tuple_lt_ints (l b : Addr) (items items2 : Array Value) (n n2 : Nat) (dd dd2 : Option Addr) (sl sl2 : Array (Option Value)) (ns ms : List Int) (hi : IntsAre items.toList ns) (hj : IntsAre items2.toList ms) :
    Meets (Builtin.«tuple.__lt__» ⟨[.ref l, .ref b], []⟩)
      (fun _ R s => s.heap.get? l = some { cls := .type "tuple", dict := dd, data := .seq items n, slots := sl } ∧ s.heap.get? b = some { cls := .type "tuple", dict := dd2, data := .seq items2 n2, slots := sl2 } ∧
        R (.ok (.ret (.bool (lexLt ns ms)))) s) :=
  .of_wp fun prog w A R s h => by
    obtain ⟨hp, g, d, tk, os⟩ := s; obtain ⟨hl, hb, h⟩ := h
    have f2 := AutoSeq1.sub_tuple_tuple
    have z1 : items.size = ns.length := by rw [← hi.length]; simp
    have z2 : items2.size = ms.length := by rw [← hj.length]; simp
    wp_walk using wpAny_loadPart' hl, wpAny_loadPart' hb, wpAny_forIn_list _ (fun rest b s' => b.1 = none ∧ s' = ⟨hp, g, d, tk, os⟩ ∧ ∃ (vs ws : List Value) (ns' ms' : List Int), rest = vs.zip ws ∧
      IntsAre vs ns' ∧ IntsAre ws ms' ∧ ns'.length + items2.size = ms'.length + items.size ∧ R (.ok (.ret (.bool (lexLt ns' ms')))) ⟨hp, g, d, tk, os⟩) _
    case turn =>
      rintro ⟨y, x⟩ rest b s' ⟨hb', rfl, vs, ws, ns', ms', hz, hvi, hwi, hlen, hR⟩
      cases hvi with
      | nil => rw [List.zip_nil_left] at hz; cases hz
      | cons a t hvi' =>
        cases hwi with
        | nil => rw [List.zip_nil_right] at hz; cases hz
        | cons c u hwi' =>
          rw [List.zip_cons_cons] at hz
          injection hz with hyx hrest
          injection hyx with hy hx
          subst hy hx
          rw [lexLt_cons] at hR
          simp only [List.length_cons] at hlen
          obtain ⟨e, he, hiff⟩ := eqAt_int A.in1 ⟨hp, g, d, tk, os⟩ a t c u
          refine wpAny_bind (he prog w _ _ ?_)
          cases e with
          | true =>
            rw [if_pos (hiff.mp rfl)] at hR
            wp_walk
            exact ⟨rfl, rfl, _, _, _, _, hrest, hvi', hwi', by omega, hR⟩
          | false =>
            rw [if_neg (fun q => absurd (hiff.mpr q) Bool.false_ne_true)] at hR
            have hri := rcLt_int A.in1 ⟨hp, g, d, tk, os⟩ a t c u prog w
            wp_walk using hri
            exact ⟨_, rfl, by simpa using hR⟩
    case fin =>
      rintro ⟨b1, b2⟩ s' ⟨hb', rfl, vs, ws, ns', ms', hz, hvi, hwi, hlen, hR⟩
      simp only at hb'
      subst hb'
      have hv : lexLt ns' ms' = decide (items.size < items2.size) := by
        cases hvi with
        | nil =>
          cases hwi with
          | nil =>
            simp only [List.length_nil] at hlen
            rw [lexLt_nil_nil]
            exact (decide_eq_false (by omega)).symm
          | cons c u hw =>
            simp only [List.length_nil, List.length_cons] at hlen
            rw [lexLt_nil_cons]
            exact (decide_eq_true (by omega)).symm
        | cons a t hv =>
          cases hwi with
          | nil =>
            simp only [List.length_nil, List.length_cons] at hlen
            rw [lexLt_cons_nil]
            exact (decide_eq_false (by omega)).symm
          | cons c u hw =>
            rw [List.zip_cons_cons] at hz
            cases hz
      rw [hv] at hR
      wp_walk
      exact ⟨_, rfl, by simpa [Builtin.Tuple.tupleCompareSizes] using hR⟩
    case h =>
      exact ⟨rfl, rfl, items.toList, items2.toList, ns, ms, rfl, hi, hj, by omega, h⟩
end

section
variable {prog : Program} {w : World} {A : Around} {E : Value → Shared → Prop} {s : Shared}

theorem lt_tupInts {l b : Addr} {items items2 : Array Value} {ns ms : List Int} {Q : Value → Shared → Prop} (hl : IsTup s.heap l items) (hb : IsTup s.heap b items2) (hi : IntsAre items.toList ns) (hj : IntsAre items2.toList ms)
    (hu : A.units < cLine) (h : Q (.bool (lexLt ns ms)) s) : wpAny (model prog w) A (compareOp .Lt (.ref l) (.ref b)) Q E s := by
  obtain ⟨⟨cls, dd, data, sl⟩, ho, hc, n, hd⟩ := id hl
  obtain ⟨⟨cls2, dd2, data2, sl2⟩, ho2, hc2, n2, hd2⟩ := id hb
  simp only at hc hd hc2 hd2
  subst hc hd hc2 hd2
  exact richCompare_meets_room (op := .Lt) ⟨_, ho, rfl⟩ ⟨_, ho2, rfl⟩ PySem.F.slot_tuple_lt PySem.F.entry_tuple_lt (PySem.F.args_tuple_lt_2 _ _) (tuple_lt_ints l b items items2 n n2 dd dd2 sl sl2 ns ms hi hj)
    ⟨ho, ho2, show Value.bool (lexLt ns ms) ≠ Value.notImplemented ∧ Q (.bool (lexLt ns ms)) s from ⟨(fun x => nomatch x), h⟩⟩ hu

/-- t + u, t not empty -/
theorem cat_tup {t b : Addr} {vs ws : List Value} {Q : Value → Shared → Prop} (ht : IsTup s.heap t vs.toArray) (hb : IsTup s.heap b ws.toArray) (hv : vs ≠ [])
    (h1 : ws = [] → Q (.ref t) s) (h2 : ws ≠ [] → Q (.ref s.heap.objs.size) { s with heap := s.heap.push { cls := .type "tuple", data := .seq (vs ++ ws).toArray } })
    (hsz : vs.length + ws.length ≤ sizeLine) : wpAny (model prog w) A (binaryOp .Add (.ref t) (.ref b)) Q E s := by
  obtain ⟨⟨cls, dd, data, sl⟩, ho, hc, n, hd⟩ := id ht
  obtain ⟨⟨cls2, dd2, data2, sl2⟩, ho2, hc2, n2, hd2⟩ := id hb
  simp only at hc hd hc2 hd2
  subst hc hd hc2 hd2
  have e : vs.toArray ++ ws.toArray = (vs ++ ws).toArray := by simp
  by_cases hw : ws = []
  · exact concat_meets ⟨_, ho, rfl⟩ ⟨_, ho2, rfl⟩ noFill_tuple_add seq_tuple_add PySem.F.slot_tuple_add PySem.F.entry_tuple_add (PySem.F.args_tuple_add_2 _ _)
      (tuple_addW1 t b vs.toArray ws.toArray n n2 dd dd2 sl sl2 (by simpa using hv) (by simp [hw])) ⟨ho, ho2, h1 hw⟩
  · refine concat_meets ⟨_, ho, rfl⟩ ⟨_, ho2, rfl⟩ noFill_tuple_add seq_tuple_add PySem.F.slot_tuple_add PySem.F.entry_tuple_add (PySem.F.args_tuple_add_2 _ _)
      (tuple_addW2 t b vs.toArray ws.toArray n n2 dd dd2 sl sl2 (by simpa using hv) (by simpa using hw) (by rw [List.size_toArray, List.size_toArray]; exact hsz)) ⟨ho, ho2, ?_⟩
    rw [e]
    exact h2 hw

/-- a slice's bound as a place among n (d where it is left out) -/
def sIx (n d : Nat) : Option Int → Nat
  | none => d
  | some v => if v < 0 then (v + (n : Int)).toNat else min v.toNat n
end
end HT

namespace L2
open PySem PySem.Spec PyProof.Rows

abbrev TO := St → Hp → (Option Int → Hp → Prop) → Prop
/-- a slice's part (left out, or an int) -/
def PO (X : Cx) (e : Option Expr) (t : TO) : Prop :=
  ∀ (pins : List (Addr × Obj)) (s : Shared) (σ : St) (H : Hp) (Q : Option Int → Hp → Prop), Inv X pins σ H s → t σ H Q →
    wpAny (model X.prog X.w) X.A (evalPart e X.env) (fun u s' => ∃ o H', Inv X pins σ H' s' ∧ IsPart u o ∧ Q o H') X.xe s
def tNoPart : TO := fun _ H Q => Q none H
def tPart (t : TE) : TO := fun σ H Q => t σ H fun x H1 => ∃ i, x = .int i ∧ Q (some i) H1

theorem intsAre_of {ns : List Int} : ∀ {us : List Value}, Vals (ns.map V.int) us → IntsAre us ns := by
  induction ns with
  | nil => intro us r; rw [List.map_nil] at r; cases r; exact .nil
  | cons n ns ih =>
    intro us r
    rw [List.map_cons] at r
    cases r with
    | cons r1 r2 =>
      obtain ⟨t, e⟩ := r1
      subst e
      exact .cons n t (ih r2)

section
variable {X : Cx} {e : Expr} {te : TE} {lo hi : Option Expr} {tl th : TO} {pos p2 : Pos}

theorem po_none : PO X none tNoPart := by
  intro pins s σ H Q I h
  rw [evalPart_none]
  exact wpAny_pure ⟨none, H, I, .none, h⟩
theorem po_some (h : PE X e te) : PO X (some e) (tPart te) := by
  intro pins s σ H Q I hw
  rw [evalPart_some]
  refine thn (h pins s σ H _ I hw) fun u s1 ⟨x, H1, I1, r1, q1⟩ => ?_
  obtain ⟨i, rfl, q⟩ := q1
  obtain ⟨t, rfl⟩ := r1
  exact ⟨some i, H1, I1, .int i t, q⟩

/-- what a slice of a value is, by values: the slice object stands at sl -/
def SlR (X : Cx) (r : V → Option Int → Option Int → Hp → VK → Prop) : Prop :=
  ∀ (pins : List (Addr × Obj)) (s : Shared) (σ : St) (H : Hp) (x : V) (v vl vu : Value) (lo hi : Option Int) (sl : Addr) (Q : VK), Inv X pins σ H s → RelV x v → s.heap.IsSliceOf sl vl vu .none → IsPart vl lo → IsPart vu hi → r x lo hi H Q →
    ∃ T id, typeLookup (.type T) "__getitem__" = pure (some (.builtin id)) ∧ s.TypeIs v T ∧ wpAny (model X.prog X.w) X.A (getItem v (.ref sl)) (EP X pins σ Q) X.xe s
def tSl (r : V → Option Int → Option Int → Hp → VK → Prop) (te : TE) (tl th : TO) : TE := fun σ H Q => te σ H fun x H1 => tl σ H1 fun l H2 => th σ H2 fun u H3 => r x l u H3 Q
/-- a[lo:hi], any a -/
theorem pe_slice {r : V → Option Int → Option Int → Hp → VK → Prop} (hr : SlR X r) (he : PE X e te) (hl : PO X lo tl) (hu : PO X hi th) : PE X (.Subscript e (.Slice lo hi none p2) pos) (tSl r te tl th) := by
  intro pins s σ H Q I h
  refine Subscript_ (thn (he pins s σ H _ I h) fun v s1 ⟨x, H1, I1, r1, q1⟩ => ?_)
  refine wpAny_Slice (thn (hl pins s1 σ H1 _ I1 q1) fun vl s2 ⟨l, H2, I2, pl, q2⟩ => thn (hu pins s2 σ H2 _ I2 q2) fun vu s3 ⟨u, H3, I3, pu, q3⟩ => ?_)
  rw [evalPart_none]
  refine wpAny_pure ?_
  have I4 : Inv X pins σ H3 { s3 with heap := s3.heap.push { cls := .type "slice", data := .fields #[vl, vu, .none] } } := I3.kept (t' := s3.toks) fun b ob q => Heap.get?_push_of_some _ q
  obtain ⟨T, id, hT, ht, hg⟩ := hr pins { s3 with heap := s3.heap.push { cls := .type "slice", data := .fields #[vl, vu, .none] } } σ H3 x v vl vu l u s3.heap.objs.size Q I4 r1 (Heap.IsSliceOf.new ..) pl pu q3
  show wpAny (model X.prog X.w) X.A (subscriptTail e (.Slice lo hi none p2) v (.ref s3.heap.objs.size)) (EP X pins σ Q) X.xe { s3 with heap := s3.heap.push { cls := .type "slice", data := .fields #[vl, vu, .none] } }
  exact tail_any (ops := [.ref s3.heap.objs.size, v]) ht hT hg (by with_unfolding_all rfl)

/-- the items of xs[lo:hi] -/
def cutV (xs : List V) (lo hi : Option Int) : List V := (xs.drop (HT.sIx xs.length 0 lo)).take (HT.sIx xs.length xs.length hi - HT.sIx xs.length 0 lo)
theorem cutV_length (xs : List V) (lo hi : Option Int) : (cutV xs lo hi).length ≤ xs.length := by
  unfold cutV
  rw [List.length_take, List.length_drop]
  omega
/-- t + u, t not empty: u empty gives t itself -/
def rCatT (K : PySem.W.Frag) : R2 := fun x y H Q => ∃ a b xs ys, x = .ref a ∧ y = .ref b ∧ SqT K H a xs ∧ SqT K H b ys ∧ xs ≠ [] ∧ xs.length + ys.length ≤ sizeLine ∧
  (ys = [] → Q (.ref a) H) ∧ (ys ≠ [] → ∀ p, H p = none → Q (.ref p) (upd H p (.tup (xs ++ ys))))
theorem Vals.nil_iff {xs : List V} {us : List Value} (r : Vals xs us) : us = [] ↔ xs = [] := by
  cases r with
  | nil => simp
  | cons _ _ => simp
theorem op_catT : OpR X (binaryOp .Add) (rCatT X.K) := by
  intro pins s σ H x y v u Q I rx ry h
  obtain ⟨a, b, xs, ys, rfl, rfl, ha, hb, hx, hz, q1, q2⟩ := h
  cases rx
  cases ry
  obtain ⟨its, r1, p1, _⟩ := I.tuple ha
  obtain ⟨its2, r2, p2, _⟩ := I.tuple hb
  refine HT.cat_tup p1 p2 (fun z => hx (r1.nil_iff.mp z)) (fun z => ⟨.ref a, H, I, rfl, q1 (r2.nil_iff.mp z)⟩) (fun z => ?_) (by rw [← r1.length, ← r2.length]; exact hz)
  refine ⟨.ref s.heap.objs.size, _, I.laid (t' := s.toks) (o := .tup (xs ++ ys)) (fun b ob q => Heap.get?_push_of_some _ q) (Nat.le_refl _) ?_, rfl, q2 (fun w => z (r2.nil_iff.mpr w)) _ (I.hok.fresh (Nat.le_refl _))⟩
  exact ⟨by rw [List.length_append]; exact hz, _, r1.append r2, IsTup.new _ _⟩
end
end L2

namespace L2
open PySem PySem.Spec PyProof.Rows

/-- the place that an index of any sign means -/
def ixN (n : Nat) (i : Int) : Option Nat := if 0 ≤ i then (if i < n then some i.toNat else none) else if -(n : Int) ≤ i then some (i + n).toNat else none
def atI {α : Type} (xs : List α) (i : Int) : Option α := (ixN xs.length i).bind fun j => xs[j]?
theorem ixN_seq {n : Nat} {i : Int} {j : Nat} (h : ixN n i = some j) : seqIndex? i n = some j ∧ j < n ∧ -(n : Int) ≤ i ∧ i < n := by
  unfold ixN at h
  by_cases h0 : 0 ≤ i
  · rw [if_pos h0] at h
    by_cases h1 : i < n
    · rw [if_pos h1] at h
      have e : i.toNat = j := Option.some.inj h
      exact ⟨by rw [seqIndex_of h0 h1, e], by omega, by omega, h1⟩
    · rw [if_neg h1] at h; cases h
  · rw [if_neg h0] at h
    by_cases h1 : -(n : Int) ≤ i
    · rw [if_pos h1] at h
      have e : (i + n).toNat = j := Option.some.inj h
      exact ⟨by rw [seqIndex_neg (by omega) h1, e], by omega, h1, by omega⟩
    · rw [if_neg h1] at h; cases h
theorem atI_get {α : Type} {xs : List α} {i : Int} {v : α} (h : atI xs i = some v) : ∃ j, seqIndex? i xs.length = some j ∧ xs[j]? = some v ∧ j < xs.length ∧ -(xs.length : Int) ≤ i ∧ i < xs.length := by
  unfold atI at h
  cases e : ixN xs.length i with
  | none => rw [e] at h; cases h
  | some j =>
    rw [e] at h
    obtain ⟨h1, h2, h3, h4⟩ := ixN_seq e
    exact ⟨j, h1, h, h2, h3, h4⟩
theorem atI_nat {α : Type} {xs : List α} {j : Nat} {v : α} (h : xs[j]? = some v) : atI xs (j : Int) = some v := by
  have hj : j < xs.length := (List.getElem?_eq_some_iff.mp h).1
  have e : ixN xs.length (j : Int) = some j := by
    unfold ixN
    rw [if_pos (by omega), if_pos (by omega)]; simp
  unfold atI; rw [e]; exact h
/-- what stands as an index of a plain subscript -/
def PlainIx (b : Expr) : Prop := ∀ o i, subscripted b false o i = operate [o, i] (getItem o i)
/-- a subscript by values -/
def IxR (X : Cx) (r : R2) : Prop :=
  ∀ (value slice : Expr) (pins : List (Addr × Obj)) (s : Shared) (σ : St) (H : Hp) (x y : V) (v u : Value) (Q : VK), Inv X pins σ H s → RelV x v → RelV y u → r x y H Q →
    subscripted slice false v u = operate [v, u] (getItem v u) → wpAny (model X.prog X.w) X.A (subscriptTail value slice v u) (EP X pins σ Q) X.xe s
/-- a call of a builtin's method by values: the receiver, the arguments -/
def MtR (X : Cx) (id : String) (r : V → List V → Hp → VK → Prop) : Prop :=
  ∀ (pins : List (Addr × Obj)) (s : Shared) (σ : St) (H : Hp) (x : V) (xs : List V) (v : Value) (us : List Value) (Q : VK), Inv X pins σ H s → RelV x v → Vals xs us → r x xs H Q →
    wpAny (model X.prog X.w) X.A (call (.builtin id) (v :: us)) (EP X pins σ Q) X.xe s
section
variable {X : Cx} {a b : Expr} {ta tb : TE} {pos : Pos}
/-- a[b] -/
theorem pe_ix {r : R2} (hr : IxR X r) (ha : PE X a ta) (hb : PE X b tb) (hs : PlainIx b) : PE X (.Subscript a b pos) (tOp r ta tb) := by
  intro pins s σ H Q I h
  exact Subscript_ (binT ha hb I h fun v u s2 x y H2 I2 rx ry q => hr a b pins s2 σ H2 x y v u Q I2 rx ry q (hs _ _))

def rIxL (K : PySem.W.Frag) : R2 := fun x y H Q => ∃ p xs i v, x = .ref p ∧ y = .int i ∧ SqL K H p xs ∧ atI xs i = some v ∧ Q v H
def rIxT (K : PySem.W.Frag) : R2 := fun x y H Q => ∃ p xs i v, x = .ref p ∧ y = .int i ∧ SqT K H p xs ∧ atI xs i = some v ∧ Q v H
theorem ix_list : IxR X (rIxL X.K) := by
  intro value slice pins s σ H x y v u Q I rx ry h hs
  obtain ⟨p, xs, i, z, rfl, rfl, hq, he, q⟩ := h
  cases rx
  obtain ⟨t, rfl⟩ := ry
  obtain ⟨its, r, pl, hz⟩ := I.list hq
  obtain ⟨j, h1, h2, h3, h4, h5⟩ := atI_get he
  obtain ⟨w, ew, rw'⟩ := r.get h2
  have hl := r.length
  have hn := line63
  have fin : EP X pins σ Q w s := ⟨z, H, I, rw', q⟩
  by_cases h0 : 0 ≤ i
  · have hj : i.toNat = j := by
      rw [seqIndex_of h0 h5] at h1
      exact Option.some.inj h1
    exact item_listR pl.isList h0 (by omega) (by rw [hj]; simpa using ew) fin hs
  · have hj : (i + (its.toArray.size : Int)).toNat = j := by
      rw [seqIndex_neg (by omega) h4] at h1
      rw [List.size_toArray, ← hl]
      exact Option.some.inj h1
    exact subscriptTail_builtinR (x := w) pl.isList.typeIs slot_list_getitem.lookup
      (wpAny_getItem_list_neg (Q := fun r s' => r = w ∧ EP X pins σ Q r s') pl.isList (by omega) (by rw [List.size_toArray] <;> omega) (by omega) (by rw [hj]; simpa using ew) ⟨rfl, fin⟩) hs
theorem ix_tup : IxR X (rIxT X.K) := by
  intro value slice pins s σ H x y v u Q I rx ry h hs
  obtain ⟨p, xs, i, z, rfl, rfl, hq, he, q⟩ := h
  cases rx
  obtain ⟨t, rfl⟩ := ry
  obtain ⟨its, r, pl, hz⟩ := I.tuple hq
  obtain ⟨j, h1, h2, h3, h4, h5⟩ := atI_get he
  obtain ⟨w, ew, rw'⟩ := r.get h2
  have hl := r.length
  have hn := line63
  have fin : EP X pins σ Q w s := ⟨z, H, I, rw', q⟩
  exact subscriptTail_builtinR (x := w) pl.typeIs slot_tuple_getitem.lookup
    (getItem_tuple (j := j) (Q := fun r s' => r = w ∧ EP X pins σ Q r s') pl (by omega) (by omega) (by rw [List.size_toArray, ← hl]; exact h1) (by simpa using ew) ⟨rfl, fin⟩) hs
/-- the list's object behind a store -/
theorem mapSeq_set (its : List Value) (n j : Nat) (u : Value) : Obj.mapSeq (·.setIfInBounds j u) { cls := .type "list", data := .seq its.toArray n } = { cls := .type "list", data := .seq (its.set j u).toArray n } := by
  simp [Obj.mapSeq]
theorem Inv.lst {pins : List (Addr × Obj)} {σ : St} {H : Hp} {s : Shared} {p : Addr} {xs : List V} (I : Inv X pins σ H s) (h : H p = some (.lst xs)) :
    ∃ (its : List Value) (n : Nat), Vals xs its ∧ s.heap.get? p = some { cls := .type "list", data := .seq its.toArray n } ∧ xs.length ≤ sizeLine := by
  obtain ⟨z, its, n, r, e⟩ := I.hok p _ h
  exact ⟨its, n, r, e, z⟩
/-- the list at p is written by an update of its object -/
theorem Inv.lstUpd {pins : List (Addr × Obj)} {σ : St} {H : Hp} {s : Shared} {p : Addr} {xs ys : List V} {its its' : List Value} {n n' : Nat} {f : Obj → Obj} (I : Inv X pins σ H s) (h : H p = some (.lst xs))
    (ho : s.heap.get? p = some { cls := .type "list", data := .seq its.toArray n }) (hf : f { cls := .type "list", data := .seq its.toArray n } = { cls := .type "list", data := .seq its'.toArray n' }) (r : Vals ys its') (hz : ys.length ≤ sizeLine) (t : Nat) :
    Inv X pins σ (upd H p (.lst ys)) { s with heap := s.heap.update p f, toks := t } := by
  have e : (s.heap.update p f).get? p = some { cls := .type "list", data := .seq its'.toArray n' } := by
    rw [Heap.get?_update_self f ho (by rw [hf] <;> rfl), hf]
  refine I.write (x := p) (e := p) (by rw [h]; trivial) (.inl rfl) (fun b u hb q => (Heap.get?_update_other _ _ (Ne.symm hb)).trans q) ⟨_, e⟩ ?_
  exact ⟨hz, its', n', r, e⟩
def rSetL : V → V → V → Hp → (Hp → Prop) → Prop := fun o i v H Q => ∃ p xs k j, o = .ref p ∧ i = .int k ∧ H p = some (.lst xs) ∧ ixN xs.length k = some j ∧ Q (upd H p (.lst (xs.set j v)))
theorem set_list : PSet X rSetL := by
  intro pins s σ H o i v ov iv u Q I ro ri rv h
  obtain ⟨p, xs, k, j, rfl, rfl, hp, hj, q⟩ := h
  cases ro
  obtain ⟨t, rfl⟩ := ri
  obtain ⟨its, n, r, ho, hz⟩ := I.lst hp
  obtain ⟨h1, h2, h3, h4⟩ := ixN_seq hj
  have hl := r.length
  have hn := line63
  have I' : Inv X pins σ (upd H p (.lst (xs.set j v))) { s with heap := s.heap.update p (Obj.mapSeq (·.setIfInBounds j u)) } :=
    I.lstUpd hp ho (mapSeq_set its n j u) (r.set rv j) (by rw [List.length_set]; exact hz) s.toks
  by_cases h0 : 0 ≤ k
  · have hk : k.toNat = j := by
      rw [seqIndex_of h0 h4] at h1
      exact Option.some.inj h1
    exact PySem.W.ki_setAt ho h0 (by omega) (by rw [List.size_toArray, ← hl]; exact h4) (by rw [hk]; exact ⟨_, I', q⟩)
  · have hk : (k + (its.toArray.size : Int)).toNat = j := by
      rw [seqIndex_neg (by omega) h3] at h1
      rw [List.size_toArray, ← hl]
      exact Option.some.inj h1
    exact PySem.W.ki_setBack ho (by omega) (by rw [List.size_toArray, ← hl]; exact h3) (by omega) (by rw [hk]; exact ⟨_, I', q⟩)

theorem slice_bounds (lo hi : Option Int) (n : Nat) : (sliceBounds lo hi none n).1 = ((HT.sIx n 0 lo : Nat) : Int) ∧ (sliceBounds lo hi none n).2.1 = ((HT.sIx n n hi : Nat) : Int) ∧ (sliceBounds lo hi none n).2.2 = 1 := by
  refine ⟨?_, ?_, rfl⟩
  · cases lo with
    | none => simp [sliceBounds, HT.sIx]
    | some i =>
      simp only [sliceBounds, HT.sIx, Option.getD_none, show (1 : Int) > 0 by decide, if_true]
      by_cases h : i < 0
      · simp only [h, if_true] <;> omega
      · simp only [h, if_false] <;> omega
  · cases hi with
    | none => simp [sliceBounds, HT.sIx]
    | some i =>
      simp only [sliceBounds, HT.sIx, Option.getD_none, show (1 : Int) > 0 by decide, if_true]
      by_cases h : i < 0
      · simp only [h, if_true] <;> omega
      · simp only [h, if_false] <;> omega
theorem slicePick_cut (its : List Value) (lo hi : Option Int) : slicePick its.toArray lo hi none = ((its.drop (HT.sIx its.length 0 lo)).take (HT.sIx its.length its.length hi - HT.sIx its.length 0 lo)).toArray := by
  obtain ⟨h1, h2, h3⟩ := slice_bounds lo hi its.toArray.size
  unfold slicePick
  rw [h1, h2, h3]
  simp only [sliceRange_one, pick_run, List.size_toArray] <;> rfl
/-- xs[lo:hi] of a list: a new list -/
def rSlL (K : PySem.W.Frag) : V → Option Int → Option Int → Hp → VK → Prop := fun x lo hi H Q => ∃ a xs, x = .ref a ∧ SqL K H a xs ∧ ∀ p, H p = none → Q (.ref p) (upd H p (.lst (cutV xs lo hi)))
theorem sl_list : SlR X (rSlL X.K) := by
  intro pins s σ H x v vl vu lo hi sl Q I rx hs pl pu h
  obtain ⟨a, xs, rfl, hx, q⟩ := h
  cases rx
  obtain ⟨its, r, ht, hz⟩ := I.list hx
  have hlen := r.length
  refine ⟨"list", _, slot_list_getitem.lookup, ht.isList.typeIs, ?_⟩
  refine wpAny_getItem_list_slice ht.isList hs pl pu .none (by simp) ?_ (by rw [List.size_toArray] <;> omega)
  rw [slicePick_cut, ← hlen]
  refine ⟨.ref s.heap.objs.size, _, I.laid (t' := s.toks) (o := .lst (cutV xs lo hi)) (fun b ob q => Heap.get?_push_of_some _ q) (Nat.le_refl _) ?_, rfl, q _ (I.hok.fresh (Nat.le_refl _))⟩
  exact ⟨Nat.le_trans (cutV_length xs lo hi) hz, _, 0, (r.drop (HT.sIx xs.length 0 lo)).take (HT.sIx xs.length xs.length hi - HT.sIx xs.length 0 lo), Heap.get?_push_size _ rfl⟩

def flatV : V → Bool
  | .non => true
  | .bl _ => true
  | .int _ => true
  | .str _ => true
  | _ => false
/-- == of flat values -/
def eqV : V → V → Bool
  | .non, .non => true
  | .bl a, .bl b => a == b
  | .bl a, .int b => (if a then 1 else 0) == b
  | .int a, .bl b => a == (if b then 1 else 0)
  | .int a, .int b => a == b
  | .str a, .str b => a == b
  | _, _ => false
theorem eqAt_V {A : Around} {s : Shared} {y x : V} {u v : Value} (ry : RelV y u) (rx : RelV x v) (fy : flatV y = true) (fx : flatV x = true) : SeqAt.EqAt A s u v (eqV y x) := by
  cases y with
  | non =>
    cases ry
    cases x with
    | non => cases rx; exact SeqAt.EqAt.same _
    | bl b => cases rx; exact SeqAt.EqAt.none_bool b
    | int b => obtain ⟨t, rfl⟩ := rx; exact SeqAt.EqAt.none_int b t
    | str b => obtain ⟨t, rfl⟩ := rx; exact SeqAt.EqAt.none_str b t
    | _ => exact absurd (show false = true from fx) Bool.false_ne_true
  | bl a =>
    cases ry
    cases x with
    | non => cases rx; exact SeqAt.EqAt.bool_none a
    | bl b => cases rx; exact SeqAt.EqAt.bool_bool a b
    | int b => obtain ⟨t, rfl⟩ := rx; exact SeqAt.EqAt.bool_int a b t
    | str b => obtain ⟨t, rfl⟩ := rx; exact SeqAt.EqAt.bool_str a b t
    | _ => exact absurd (show false = true from fx) Bool.false_ne_true
  | int a =>
    obtain ⟨t', rfl⟩ := ry
    cases x with
    | non => cases rx; exact SeqAt.EqAt.int_none a t'
    | bl b => cases rx; exact SeqAt.EqAt.int_bool a t' b
    | int b => obtain ⟨t, rfl⟩ := rx; exact SeqAt.EqAt.int_int a t' b t
    | str b => obtain ⟨t, rfl⟩ := rx; exact SeqAt.EqAt.int_str a t' b t
    | _ => exact absurd (show false = true from fx) Bool.false_ne_true
  | str a =>
    obtain ⟨t', rfl⟩ := ry
    cases x with
    | non => cases rx; exact SeqAt.EqAt.str_none a t'
    | bl b => cases rx; exact SeqAt.EqAt.str_bool a t' b
    | int b => obtain ⟨t, rfl⟩ := rx; exact SeqAt.EqAt.str_int a t' b t
    | str b => obtain ⟨t, rfl⟩ := rx; exact SeqAt.EqAt.str_str a t' b t
    | _ => exact absurd (show false = true from fx) Bool.false_ne_true
  | _ => exact absurd (show false = true from fy) Bool.false_ne_true
/-- the items' answers, read off the values (a value's own answer does not lean on its token) -/
def eqU (x : V) (u : Value) : Bool := match u with
  | .none => eqV .non x
  | .bool b => eqV (.bl b) x
  | .int i _ => eqV (.int i) x
  | .str z _ => eqV (.str z) x
  | _ => false
theorem eqU_of {x y : V} {u : Value} (r : RelV y u) (f : flatV y = true) : eqU x u = eqV y x := by
  cases y with
  | non => cases r; rfl
  | bl b => cases r; rfl
  | int i => obtain ⟨t, rfl⟩ := r; rfl
  | str z => obtain ⟨t, rfl⟩ := r; rfl
  | _ => exact absurd (show false = true from f) Bool.false_ne_true
theorem any_eqU {x : V} : ∀ {xs : List V} {us : List Value}, Vals xs us → xs.all flatV = true → us.any (eqU x) = xs.any fun y => eqV y x
  | _, _, .nil, _ => rfl
  | y :: xs, u :: us, .cons r t, f => by
    rw [List.all_cons, Bool.and_eq_true] at f
    rw [List.any_cons, List.any_cons, eqU_of r f.1, any_eqU t f.2]
theorem mem_eqAt {A : Around} {s : Shared} {x : V} {v : Value} (rx : RelV x v) (fx : flatV x = true) : ∀ {xs : List V} {us : List Value}, Vals xs us → xs.all flatV = true → ∀ u ∈ us, SeqAt.EqAt A s u v (eqU x u)
  | _, _, .nil, _ => fun u hu => by cases hu
  | y :: xs, u :: us, .cons r t, f => fun u' hu => by
    rw [List.all_cons, Bool.and_eq_true] at f
    rcases List.mem_cons.mp hu with rfl | hu
    · rw [eqU_of r f.1]; exact eqAt_V r rx f.1 fx
    · exact mem_eqAt rx fx t f.2 u' hu
def inV (x : V) (xs : List V) : Bool := xs.any fun y => eqV y x
/-- x in a list or tuple of flat items -/
def rIn (K : PySem.W.Frag) (neg : Bool) : R2 := fun x y H Q => ∃ p xs, y = .ref p ∧ (SqL K H p xs ∨ SqT K H p xs) ∧ flatV x = true ∧ xs.all flatV = true ∧ Q (.bl (if neg then !inV x xs else inV x xs)) H
theorem op_in_seq : OpR X (compareOp .In) (rIn X.K false) := by
  intro pins s σ H x y v u Q I rx ry h
  obtain ⟨p, xs, rfl, hq, fx, fs, q⟩ := h
  cases ry
  rcases hq with hq | hq
  · obtain ⟨its, r, pl, hz⟩ := I.list hq
    refine SeqAt.in_listAt (eqU x) pl.isList (fun w hw => mem_eqAt rx fx r fs w (by simpa using hw)) ⟨.bl _, H, I, rfl, ?_⟩
    rw [show its.toArray.any (eqU x) = its.any (eqU x) by simp, any_eqU r fs]
    exact q
  · obtain ⟨its, r, pl, hz⟩ := I.tuple hq
    refine SeqAt.in_tupleAt (eqU x) pl (fun w hw => mem_eqAt rx fx r fs w (by simpa using hw)) ⟨.bl _, H, I, rfl, ?_⟩
    rw [show its.toArray.any (eqU x) = its.any (eqU x) by simp, any_eqU r fs]
    exact q
theorem op_notIn_seq : OpR X (compareOp .NotIn) (rIn X.K true) := by
  intro pins s σ H x y v u Q I rx ry h
  obtain ⟨p, xs, rfl, hq, fx, fs, q⟩ := h
  cases ry
  rcases hq with hq | hq
  · obtain ⟨its, r, pl, hz⟩ := I.list hq
    refine SeqAt.notIn_listAt (eqU x) pl.isList (fun w hw => mem_eqAt rx fx r fs w (by simpa using hw)) ⟨.bl _, H, I, rfl, ?_⟩
    rw [show its.toArray.any (eqU x) = its.any (eqU x) by simp, any_eqU r fs]
    exact q
  · obtain ⟨its, r, pl, hz⟩ := I.tuple hq
    refine SeqAt.notIn_tupleAt (eqU x) pl (fun w hw => mem_eqAt rx fx r fs w (by simpa using hw)) ⟨.bl _, H, I, rfl, ?_⟩
    rw [show its.toArray.any (eqU x) = its.any (eqU x) by simp, any_eqU r fs]
    exact q
theorem call_len_seq : CallR X (.builtin "len") (fun xs H Q => ∃ p ys, xs = [.ref p] ∧ (SqL X.K H p ys ∨ SqT X.K H p ys) ∧ Q (.int ys.length) H) := by
  intro pins s σ H xs us Q I r h
  obtain ⟨p, ys, rfl, hq, q⟩ := h
  obtain ⟨u, rfl, rx⟩ := vals1 r
  cases rx
  have hn := line63
  rcases hq with hq | hq
  · obtain ⟨its, r', pl, hz⟩ := I.list hq
    have hlen := r'.length
    exact Calls.call_len_list pl.isList (by simp only [List.size_toArray] <;> omega) ⟨.int ys.length, H, I.tok _, ⟨s.toks + 1, by rw [List.size_toArray, hlen]⟩, q⟩
  · obtain ⟨its, r', pl, hz⟩ := I.tuple hq
    have hlen := r'.length
    exact len_tuple pl (by simp only [List.size_toArray] <;> omega) ⟨.int ys.length, H, I.tok _, ⟨s.toks + 1, by rw [List.size_toArray, hlen]⟩, q⟩
theorem call_list_of : CallR X (.type "list") (fun xs H Q => ∃ p ys, xs = [.ref p] ∧ (SqL X.K H p ys ∨ SqT X.K H p ys) ∧ ∀ l, H l = none → Q (.ref l) (upd H l (.lst ys))) := by
  intro pins s σ H xs us Q I r h
  obtain ⟨p, ys, rfl, hq, q⟩ := h
  obtain ⟨u, rfl, rx⟩ := vals1 r
  cases rx
  have fin : ∀ (its : List Value), Vals ys its → ys.length ≤ sizeLine → ∀ (h' : Heap) (c' : Nat), (∀ b o', s.heap.get? b = some o' → h'.get? b = some o') →
      h'.get? s.heap.objs.size = some { cls := .type "list", dict := none, data := .seq its.toArray c', slots := #[] } → EP X pins σ Q (.ref s.heap.objs.size) { s with heap := h' } := fun its r' hz h' c' kp e =>
    ⟨.ref s.heap.objs.size, _, I.laid (t' := s.toks) kp (Nat.le_refl _) (show ObjOk X.prog X.w _ h' _ (.lst ys) from ⟨hz, its, c', r', e⟩), rfl, q _ (I.hok.fresh (Nat.le_refl _))⟩
  rcases hq with hq | hq
  · obtain ⟨its, r', pl, hz⟩ := I.list hq
    have hlen := r'.length
    obtain ⟨o, ho, hc, n, hd⟩ := pl.isList
    exact call_list_seq p (.inl rfl) ho hc hd (fun h' c' kp e => fin its r' hz h' c' kp e) (by simp only [List.size_toArray] <;> omega)
  · obtain ⟨its, r', pl, hz⟩ := I.tuple hq
    have hlen := r'.length
    obtain ⟨o, ho, hc, n, hd⟩ := pl
    exact call_list_seq p (.inr rfl) ho hc hd (fun h' c' kp e => fin its r' hz h' c' kp e) (by simp only [List.size_toArray] <;> omega)
theorem call_tuple_of : CallR X (.type "tuple") (fun xs H Q => ∃ p ys, xs = [.ref p] ∧ ((SqL X.K H p ys ∧ ∀ l, H l = none → Q (.ref l) (upd H l (.tup ys))) ∨ (SqT X.K H p ys ∧ Q (.ref p) H))) := by
  intro pins s σ H xs us Q I r h
  obtain ⟨p, ys, rfl, h⟩ := h
  obtain ⟨u, rfl, rx⟩ := vals1 r
  cases rx
  rcases h with ⟨hq, q⟩ | ⟨hq, q⟩
  · obtain ⟨its, r', pl, hz⟩ := I.list hq
    have hlen := r'.length
    refine call_tuple_list pl.isList (fun h' kp => ?_) (by simp only [List.size_toArray] <;> omega)
    have I1 : Inv X pins σ H { s with heap := h' } := I.kept (t' := s.toks) kp
    have I2 : Inv X pins σ (upd H h'.objs.size (.tup ys)) { s with heap := h'.push { cls := .type "tuple", data := .seq its.toArray } } :=
      I1.laid (t' := s.toks) (fun b o e => Heap.get?_push_of_some _ e) (Nat.le_refl _) (show ObjOk X.prog X.w _ _ _ (.tup ys) from ⟨hz, its, r', IsTup.new _ _⟩)
    exact ⟨.ref h'.objs.size, _, I2, rfl, q _ (I1.hok.fresh (Nat.le_refl _))⟩
  · obtain ⟨its, r', pl, hz⟩ := I.tuple hq
    exact call_tuple_same pl ⟨.ref p, H, I, rfl, q⟩

/-- the value is of that builtin type -/
def tyV (K : PySem.W.Frag) (T : String) (x : V) (H : Hp) : Prop := match x with
  | .str _ => T = "str"
  | .int _ => T = "int"
  | .ref p => (T = "list" ∧ ∃ xs, SqL K H p xs) ∨ (T = "tuple" ∧ ∃ o, K.lookup p = some o ∧ o.cls = .type "tuple" ∧ o.dict = none) ∨
      (T = "dict" ∧ ((∃ kvs, H p = some (.dK kvs)) ∨ ∃ kvs, H p = some (.dT kvs))) ∨ (T = "set" ∧ ∃ S n, H p = some (.set S n))
  | _ => False
theorem tyV_is {pins : List (Addr × Obj)} {σ : St} {H : Hp} {s : Shared} {T : String} {x : V} {v : Value} (I : Inv X pins σ H s) (r : RelV x v) (ty : tyV X.K T x H) :
    s.TypeIs v T ∧ ∀ a, v = .ref a → ∃ ob, s.heap.get? a = some ob ∧ ob.dict = none := by
  cases x with
  | str z =>
    obtain ⟨t, rfl⟩ := r
    cases (show T = "str" from ty)
    exact ⟨typeIs_str s z t, fun _ e => nomatch e⟩
  | int i =>
    obtain ⟨t, rfl⟩ := r
    cases (show T = "int" from ty)
    exact ⟨typeIs_int s i t, fun _ e => nomatch e⟩
  | ref p =>
    cases r
    rcases ty with ⟨rfl, xs, hq⟩ | ⟨rfl, o, hk, hc, hd⟩ | ⟨rfl, hk⟩ | ⟨rfl, S, n, hk⟩
    · obtain ⟨its, _, pl, _⟩ := I.list hq
      refine ⟨pl.isList.typeIs, fun a e => ?_⟩
      cases e
      obtain ⟨o, n, e, c, hd, _⟩ := pl
      exact ⟨o, e, hd⟩
    · refine ⟨⟨o, I.kIn p o hk, hc⟩, fun a e => ?_⟩
      cases e
      exact ⟨o, I.kIn _ o hk, hd⟩
    · have z : ∃ o, s.heap.get? p = some o ∧ o.ExactDict := by
        rcases hk with ⟨kvs, hk⟩ | ⟨kvs, hk⟩
        · obtain ⟨_, _, _, _, o, _, _, e, ex, _⟩ := I.hok p _ hk
          exact ⟨o, e, ex⟩
        · obtain ⟨_, _, _, _, o, _, _, e, ex, _⟩ := I.hok p _ hk
          exact ⟨o, e, ex⟩
      obtain ⟨o, e, ex⟩ := z
      refine ⟨⟨o, e, ex.1⟩, fun a e2 => ?_⟩
      cases e2
      exact ⟨o, e, ex.2.1⟩
    · obtain ⟨o, _, _, _, e, ex, _⟩ := I.hok p _ hk
      refine ⟨⟨o, e, ex.1⟩, fun a e2 => ?_⟩
      cases e2
      exact ⟨o, e, ex.2.1⟩
  | _ => exact False.elim ty
def tBM0 (K : PySem.W.Frag) (T : String) (r : V → List V → Hp → VK → Prop) (to : TE) : TE := fun σ H Q => to σ H fun x H1 => tyV K T x H1 ∧ r x [] H1 Q
def tBM (K : PySem.W.Frag) (T : String) (r : V → List V → Hp → VK → Prop) (to : TE) (t : TA) : TE := fun σ H Q => to σ H fun x H1 => tyV K T x H1 ∧ t σ H1 fun xs H2 => r x xs H2 Q
variable {o e : Expr} {es : List Expr} {to : TE} {t : TA} {name : Str} {apos cpos : Pos} {T id : String} {r : V → List V → Hp → VK → Prop}
theorem pe_bm0 (pa : PlainAttrs T) (slot : Slot T name id) (hty : typeOf (.builtin id) = pure (.type "method_descriptor")) (hm : MtR X id r) (ho : PE X o to)
    (hbase : attributeBase o name X.env (eval o X.env) = eval o X.env := by rfl) (hline : (apos.endLine == cpos.line) = true := by rfl) : PE X (.Call (.Attribute o name apos) [] [] cpos) (tBM0 X.K T r to) := by
  intro pins s σ H Q I h
  refine wpAny_Call_method0_late hbase hline (thn (ho pins s σ H _ I h) fun v s1 ⟨x, H1, I1, r1, ty, q1⟩ => ?_)
  obtain ⟨h1, h2⟩ := tyV_is I1 r1 ty
  exact ⟨T, id, pa, slot, hty, h1, h2, Calls.callWith_builtin rfl (PySem.evalArgs_none (hm pins s1 σ H1 x [] v [] Q I1 r1 .nil q1))⟩
theorem pe_bm (pa : PlainAttrs T) (slot : Slot T name id) (hty : typeOf (.builtin id) = pure (.type "method_descriptor")) (hm : MtR X id r) (ho : PE X o to) (ha : PA X (e :: es) t)
    (hbase : attributeBase o name X.env (eval o X.env) = eval o X.env := by rfl)
    (hfew : ((backTo cpos (starEach (e :: es) X.env)).all (fun x => !x.1) && (backToKw cpos (keywordEach [] X.env)).all (fun x => x.1.isSome)
      && decide ((e :: es).length + ([] : List Keyword).length + (if ([] : List Keyword).isEmpty then 0 else 1) < 30)) = true := by rfl)
    (hline : (apos.endLine == cpos.line) = true := by rfl) (hs : starEach (e :: es) X.env = (false, eval e X.env) :: starEach es X.env := by rfl) (hplain : (backTo cpos (starEach es X.env)).any (·.1) = false := by rfl) :
    PE X (.Call (.Attribute o name apos) (e :: es) [] cpos) (tBM X.K T r to t) := by
  intro pins s σ H Q I h
  refine wpAny_Call_method_late hbase hfew hline rfl (thn (ho pins s σ H _ I h) fun v s1 ⟨x, H1, I1, r1, ty, q1⟩ => ?_)
  obtain ⟨h1, h2⟩ := tyV_is I1 r1 ty
  refine ⟨T, id, pa, slot, hty, h1, h2, ?_⟩
  have hA := ha cpos pins s1 σ H1 _ I1 q1
  rw [hs] at hA ⊢
  refine Calls.callWith_builtin (by show (false || (backTo cpos (starEach es X.env)).any (·.1)) = false; rw [hplain] <;> rfl) (Calls.evalArgs_plain ?_)
  exact thn hA fun us s2 ⟨vs, H2, I2, r2, q2⟩ => hm pins s2 σ H2 x vs v us Q I2 r1 r2 q2
end
end L2

namespace L2
open PySem PySem.Spec PyProof.Rows

def MtM (X : Cx) (id : String) (r : V → List V → Hp → VK → Prop) : Prop :=
  ∀ (pins : List (Addr × Obj)) (s : Shared) (σ : St) (H : Hp) (x : V) (xs : List V) (v : Value) (us : List Value) (Q : VK), Inv X pins σ H s → RelV x v → Vals xs us → r x xs H Q →
    wpAny (model X.prog X.w) X.A (call (.builtin id) (v :: us)) (EP X pins σ Q) X.xe s

theorem Vals.one : ∀ {x : V} {us : List Value}, Vals [x] us → ∃ u, us = [u] ∧ RelV x u
  | _, _, .cons r .nil => ⟨_, rfl, r⟩
theorem Vals.two : ∀ {x y : V} {us : List Value}, Vals [x, y] us → ∃ u v, us = [u, v] ∧ RelV x u ∧ RelV y v
  | _, _, _, .cons r (.cons q .nil) => ⟨_, _, rfl, r, q⟩
theorem Vals.zero : ∀ {us : List Value}, Vals [] us → us = []
  | _, .nil => rfl
theorem Vals.eraseIdx : ∀ {xs : List V} {us : List Value} (i : Nat), Vals xs us → Vals (xs.eraseIdx i) (us.eraseIdx i)
  | _, _, _, .nil => .nil
  | _, _, 0, .cons _ t => t
  | _, _, i + 1, .cons r t => .cons r (Vals.eraseIdx i t)
theorem len_erase {α : Type} : ∀ (l : List α) (i : Nat), (l.eraseIdx i).length ≤ l.length
  | [], _ => Nat.le_refl _
  | _ :: _, 0 => Nat.le_succ _
  | _ :: r, i + 1 => Nat.succ_le_succ (len_erase r i)
section
variable {X : Cx} {pins : List (Addr × Obj)} {σ : St} {H : Hp} {s : Shared} {l b : Addr} {xs ys zs : List V}

theorem Inv.lset {its its' : List Value} {n : Nat} {f : Array Value → Array Value} {t' : Nat} (I : Inv X pins σ H s) (hH : H l = some (.lst xs))
    (e : s.heap.get? l = some { cls := .type "list", data := .seq its.toArray n }) (hf : f its.toArray = its'.toArray) (hv : Vals ys its') (hz : ys.length ≤ sizeLine) :
    Inv X pins σ (upd H l (.lst ys)) { s with heap := s.heap.update l (Obj.mapSeq f), toks := t' } := by
  have q := PySem.IsL.update e f
  rw [hf] at q
  refine I.write (x := l) (e := l) (by rw [hH]; exact trivial) (.inl rfl) (fun b' u hb hu => (Heap.get?_update_other s.heap (Obj.mapSeq f) (Ne.symm hb)).trans hu) ⟨_, q⟩ ?_
  exact ⟨hz, its', _, hv, q⟩
theorem Inv.lstM (I : Inv X pins σ H s) (hH : H l = some (.lst xs)) : xs.length ≤ sizeLine ∧ ∃ (its : List Value) (n : Nat), Vals xs its ∧ xs.length = its.length ∧ s.heap.get? l = some { cls := .type "list", data := .seq its.toArray n } := by
  obtain ⟨z, its, n, r, e⟩ := I.hok l _ hH
  exact ⟨z, its, n, r, r.length, e⟩

end

section
variable {X : Cx}

def rAppend : V → List V → Hp → VK → Prop := fun x vs H Q => ∃ l xs y, x = .ref l ∧ vs = [y] ∧ H l = some (.lst xs) ∧ xs.length < sizeLine ∧ Q .non (upd H l (.lst (xs ++ [y])))
theorem mt_append : MtM X "list.append" rAppend := by
  intro pins s σ H x vs v us Q I rx rv h
  obtain ⟨l, xs, y, rfl, rfl, hH, hz, q⟩ := h
  cases rx
  obtain ⟨u, rfl, ru⟩ := rv.one
  obtain ⟨z, its, n, r, hl, e⟩ := I.lstM hH
  refine call_meets F.slot_list_append ⟨_, e, rfl⟩ F.entry_list_append (F.args_list_append_2 _ _) (PySem.list_append l its.toArray n u (by rw [List.size_toArray]; omega)) ⟨e, ?_⟩
  refine ⟨.non, _, I.lset (its' := its ++ [u]) hH e (by simp) (r.append (.cons ru .nil)) ?_, rfl, q⟩
  rw [List.length_append, List.length_singleton]
  omega

def rPopAt : V → List V → Hp → VK → Prop := fun x vs H Q => ∃ l xs i k y, x = .ref l ∧ vs = [.int i] ∧ H l = some (.lst xs) ∧ -(2 ^ 63) ≤ i ∧ i < 2 ^ 63 ∧ seqIndex? i xs.length = some k ∧ xs[k]? = some y ∧ Q y (upd H l (.lst (xs.eraseIdx k)))
theorem mt_popAt : MtM X "list.pop" rPopAt := by
  intro pins s σ H x vs v us Q I rx rv h
  obtain ⟨l, xs, i, k, y, rfl, rfl, hH, h1, h2, hk, hy, q⟩ := h
  cases rx
  obtain ⟨u, rfl, ru⟩ := rv.one
  obtain ⟨t, rfl⟩ := ru
  obtain ⟨z, its, n, r, hl, e⟩ := I.lstM hH
  obtain ⟨w, hw, rw'⟩ := r.get hy
  refine call_meets F.slot_list_pop ⟨_, e, rfl⟩ F.entry_list_pop (F.args_list_pop_2 _ _)
    (MeetsSeq.list_pop_at l its.toArray n i t k w (fitsIndex_both h1 h2) (by rw [List.size_toArray, ← hl]; exact hk) (by rw [← Array.getElem?_toList]; exact hw) (by rw [List.size_toArray]; omega)) ⟨e, ?_⟩
  refine ⟨y, _, I.lset (its' := its.eraseIdx k) hH e ?_ (r.eraseIdx k) ?_, rw', q⟩
  · show its.toArray.eraseIdxIfInBounds k = (its.eraseIdx k).toArray
    rw [List.eraseIdxIfInBounds_toArray]
  · have := len_erase xs k
    omega

def rClear : V → List V → Hp → VK → Prop := fun x vs H Q => ∃ l xs, x = .ref l ∧ vs = [] ∧ H l = some (.lst xs) ∧ Q .non (upd H l (.lst []))
theorem mt_clear : MtM X "list.clear" rClear := by
  intro pins s σ H x vs v us Q I rx rv h
  obtain ⟨l, xs, rfl, rfl, hH, q⟩ := h
  cases rx
  have hus := rv.zero
  subst hus
  obtain ⟨z, its, n, r, hl, e⟩ := I.lstM hH
  refine call_meets F.slot_list_clear ⟨_, e, rfl⟩ F.entry_list_clear (F.args_list_clear_1 _) (AutoSeq1.list_clear_list_0 l its.toArray n (by rw [List.size_toArray]; omega)) ⟨e, ?_⟩
  exact ⟨.non, _, I.lset (its' := []) (ys := []) hH e rfl .nil (Nat.zero_le _), rfl, q⟩

end

section
variable {prog : Program} {w : World} {A : Around} {E : Value → Shared → Prop} {s : Shared}
end

section
variable {X : Cx}
end
end L2

namespace Att
open PySem PySem.W PySem.Calls PyProof.Rows

theorem ints_of_wellAll {P : Params} {h : Heap} : ∀ (ns : List Int) (vs : List Value), WellAll P h vs (ns.map WData.int) → IntsAre vs ns := by
  intro ns
  induction ns with
  | nil =>
    intro vs w
    rw [List.map_nil] at w
    cases w
    exact .nil
  | cons n ns ih =>
    intro vs w
    rw [List.map_cons] at w
    cases w with
    | cons a b =>
      cases a
      exact .cons _ _ (ih _ b)

theorem script_of {l : OpenLaw} {n : Nat} (hn : l.most = some n) {P : Params} {h : Heap} {args : List WData} {vals : List Value}
    (hpre : l.row.toRowW.claim.pre args = true) (hwl : WellAll P h vals args) :
    ∃ a vs ns, vals = [Value.ref a] ∧ args = [WData.list (ns.map WData.int)] ∧ h.get? a = some { cls := .type "list", data := .seq vs.toArray } ∧ IntsAre vs ns ∧ ns.length ≤ n := by
  have hsh : WShape.hasAll [] args [.list .int] = true := (pre_splitW hpre).1
  have hc : l.pre.holds [] { args := args } = true := (pre_splitW hpre).2
  obtain ⟨d, r, rfl, h1, h2⟩ := hasAllW_cons hsh
  obtain rfl := hasAllW_nil h2
  obtain ⟨xs, rfl, h3⟩ := hasW_list h1
  obtain ⟨ns, rfl⟩ := items_int h3
  have hlen : ns.length ≤ n := by
    unfold OpenLaw.pre at hc
    have h4 : (WTm.not (.lt (.lit (.int (n : Int))) (.len (.arg 0)))).holds [] { args := [.list (ns.map .int)] } = true := by
      have h4 := (holds_andW hc).1
      rw [hn] at h4
      exact h4
    have h5 := condW_of h4 (w_not (w_lt w_lit (w_len_list (w_arg rfl))))
    rw [List.length_map] at h5
    refine Nat.le_of_not_lt fun q => ?_
    have q' : (n : Int) < ((ns.length : Nat) : Int) := by omega
    first
      | (rw [decide_eq_true q'] at h5; exact absurd h5 (by decide))
      | (simp at h5; omega)
  cases hwl with
  | cons w1 w2 =>
    cases w2
    cases w1 with
    | list ho hall => exact ⟨_, _, ns, rfl, rfl, ho, ints_of_wellAll ns _ hall, hlen⟩

theorem post_true (l : OpenLaw) (args : List WData) : l.row.toRowW.claim.post args (.bool true) args = true :=
  postW_of (r := l.row.toRowW) (X := (true == true))
    (show WShape.has [] (.bool true) .bool = true by first | rfl | decide | simp [WShape.has, WShape.arms, WShape.armsAll])
    (show (WTm.eq .res (.lit (.bool true))).value [] { args := args, res := some (.bool true), after := args } = some (.bool (true == true)) from w_eq_bool (w_res rfl) w_lit) rfl

/-- the same from a codeAny of the CALL (for a layer whose function contracts speak of calls) -/
theorem attach_call {l : OpenLaw} {n : Nat} {q : Program} {loose : List Str} {XP : (Str → Option Value) → Heap → Prop} {YP : World → Heap → Prop} {d : DefRec}
    (hn : l.most = some n) (hdf : d.params.defaults = [])
    (call : ∀ (w : World) (s₀ s₁ : Shared) (mg mb : Str → Option Value) (fa : Addr) (o : Obj) (pm cd doc : Value) (a : Addr) (vs : List Value) (ns : List Int),
      Ground q loose [] XP w s₀ mg mb s₁.heap → YP w s₁.heap →
      s₁.heap.get? fa = some o → o.data = .func (docDef d.name d.params d.body d.scope pm cd doc) → s₁.heap.CodeRec cd d.name → mg d.name = some (.ref fa) →
      s₁.heap.get? a = some { cls := .type "list", data := .seq vs.toArray } → IntsAre vs ns → ns.length ≤ n → s₁.gens = #[] →
      codeAny (model l.prog w) callerA (.call (.ref fa) ⟨[.ref a], []⟩) (fun r s' => r = .ok (.ret (.bool true)) ∧ OldK s₁.heap s'.heap ∧ s'.os = s₁.os ∧ AllBare s'.gens) s₁) :
    WalkO q loose XP YP l.row.toRowW d [] (fun f vs => PySem.call f vs) := by
  intro w s₀ s₁ mg mb G Y fa o pm cd doc dV kV ho hd hcd hD hmg hg args vals as hpre hlay hrd hwl hlo
  obtain rfl : dV = .none := Dflts.none hD hdf
  obtain rfl : kV = .none := Dflts.noKw hD
  obtain ⟨a, vs, ns, rfl, rfl, hobj, hints, hlen⟩ := script_of hn hpre hwl
  refine enter_call (codeAny_mono (call w s₀ s₁ mg mb fa o pm cd doc a vs ns G Y ho (fd_plain hd) hcd hmg hobj hints hlen hg) fun r s' hq => ?_)
  obtain ⟨rfl, h2, h3, h4⟩ := hq
  exact ⟨.inl ⟨.bool true, .bool true, [], rfl, fun _ => rfl, .bool true, post_true l _, fun _ => ⟨List.Pairwise.nil, fun _ hm => (nomatch hm)⟩⟩, h2, h3, h4⟩

section
variable {prog : Program} {w : World} {A : Around} {E : Value → Shared → Prop} {s : Shared} {K : Frag}

end
end Att

namespace L2
open PySem PySem.Spec PyProof.Rows

theorem vals_ints : ∀ {vs : List Value} {ns : List Int}, IntsAre vs ns → Vals (ns.map V.int) vs
  | _, _, .nil => .nil
  | _, _, .cons n t h => .cons ⟨t, rfl⟩ (vals_ints h)

/-- nothing is tracked but the script, known to the object (or it is an object of the module) -/
def Only (H : Hp) : Prop := ∀ b, H b = none ∨ ∃ o xs, H b = some (.frz o (.lst xs))

/-- THE HEAD: the law's promise, at the heap behind the top. F, the promise of the law's def, may use that base is part of the heap (so K.In base, base.Ns mainGlobals mg stand in Mod) -/
theorem law_call {P : Program} {w : World} {K : PySem.W.Frag} {mg mb : Str → Option Value} {CX : CXT} {k : Nat} {fa a : Addr} {fd : FuncData} {x : Str} {sp : Sp} {s₁ : Shared} {vs : List Value} {ns : List Int}
    (KX : K.In s₁.heap) (hns : s₁.heap.Ns mainGlobals mg) (hb : s₁.heap.Ns builtinsNs mb) (hbb : ∀ x : Str, x ≠ "__name__" → mb x = bootBuiltins x) (hlim : s₁.heap.NoLimit) (hg : s₁.gens = #[])
    (ha : s₁.heap.get? a = some { cls := .type "list", data := .seq vs.toArray }) (hi : IntsAre vs ns) (hl : ns.length ≤ sizeLine) (hr : Room k callerA)
    (F : ∀ base : Heap, K.In base → base.Ns mainGlobals mg → FnOk P w K mg base CX k fa fd [x] sp) (hbind : ∀ (s : Shared) (u : Value), BindsTo s fd ⟨[u], []⟩ [(x, u)])
    (hsp : ∀ H : Hp, Only H → SqL K H a (ns.map V.int) → sp [.ref a] H (fun v _ => v = .bl true) fun _ _ _ => False)
    (hCX : ∀ H e s', CX [] H s₁ (fun _ _ _ => False) e s' → False) :
    codeAny (model P w) callerA (.call (.ref fa) ⟨[.ref a], []⟩) (fun r s' => r = .ok (.ret (.bool true)) ∧ OldK s₁.heap s'.heap ∧ s'.os = s₁.os ∧ AllBare s'.gens) s₁ := by
  have rv := vals_ints hi
  have lenV := hi.length
  -- from an abstract heap in which nothing but the script may be tracked
  have core : ∀ H : Hp, Only H → SqL K H a (ns.map V.int) → HOk P w H s₁.heap → (∀ b, H b ≠ none → b = a) → (H a ≠ none → K.lookup a = none) →
      codeAny (model P w) callerA (.call (.ref fa) ⟨[.ref a], []⟩) (fun r s' => r = .ok (.ret (.bool true)) ∧ OldK s₁.heap s'.heap ∧ s'.os = s₁.os ∧ AllBare s'.gens) s₁ := by
    intro H hO hS hok hA hK
    have base_of : ∀ {b : Addr} {o : Obj}, s₁.heap.get? b = some o → H b = none → (hidT s₁.heap H).get? b = some o := fun e n => hidT_get e n
    have noA : ∀ {b : Addr} {o : Obj} {es : Array DictEntry} {ep : Nat}, s₁.heap.get? b = some o → o.data = .dict es ep → H b = none := fun {b o es ep} e d => by
      cases q : H b with
      | none => rfl
      | some u =>
        have e' : b = a := hA b (by rw [q]; simp)
        subst e'
        rw [ha] at e; cases e
        have d' : Data.seq vs.toArray _ = Data.dict es ep := d
        cases d'
    have nsK : ∀ {b : Addr} {m : Str → Option Value}, s₁.heap.Ns b m → (hidT s₁.heap H).Ns b m := fun {b m} ⟨o, es, ep, e, d, r⟩ => ⟨o, es, ep, base_of e (noA e d), d, r⟩
    have hKb : K.In (hidT s₁.heap H) := fun b o e => base_of (KX b o e) (by
      cases q : H b with
      | none => rfl
      | some u =>
        have e' : b = a := hA b (by rw [q]; simp)
        subst e'
        rw [hK (by rw [q]; simp)] at e; cases e)
    have hM : Mod K mg (hidT s₁.heap H) := ⟨hKb, nsK hns, ⟨mb, nsK hb, hbb⟩, let ⟨mc, h1, h2⟩ := hlim; ⟨mc, nsK h1, h2⟩⟩
    have e0 : Env0 P w K mg (hidT s₁.heap H) callerA [] s₁ H := ⟨rfl, hM, fun b o e => of_hidT e, Nat.le_of_eq (hidT_size _ _), trivial, fun b hb => absurd (show b ∈ ([] : List Addr) from hb) (by simp), hok, .of_eq hg⟩
    refine codeAny_mono ((F _ hKb (nsK hns)).run callerA [] s₁ H ⟨[.ref a], []⟩ [.ref a] [.ref a] _ _ hr e0 (hbind s₁ (.ref a)) (.cons rfl .nil) (hsp H hO hS)) fun r s' h => ?_
    cases r with
    | error e => exact (hCX H e s' h).elim
    | ok fl =>
      cases fl with
      | next => exact False.elim h
      | brk => exact False.elim h
      | cont => exact False.elim h
      | ret u =>
        obtain ⟨v, H', os, bare, un, hok', r', q⟩ := h
        have q' : v = .bl true := q
        subst q'
        obtain rfl : u = Value.bool true := r'
        refine ⟨rfl, OldK.of_keep fun b o e => ?_, os, bare⟩
        cases q : H b with
        | none => exact un.keep b o e q (by intro z; exact absurd (show b ∈ ([] : List Addr) from z) (by simp)) (by simp)
        | some u =>
          rcases hO b with z | ⟨ob, xs, z⟩
          · rw [q] at z; cases z
          · have z2 := un.frzs b ob _ z
            obtain ⟨e1, _⟩ := hok b _ z
            obtain ⟨e2, _⟩ := hok' b _ z2
            rw [e] at e1; cases e1
            exact e2
  cases hk : K.lookup a with
  | some o =>
    -- the script is one of the module's own objects
    have e := KX a o hk
    rw [ha] at e
    cases e
    refine core (fun _ => none) (fun _ => .inl rfl) (.inr ⟨_, vs.toArray, _, hk, rfl, rfl, rfl, by rw [List.size_toArray, lenV]; exact hl, by simpa using rv⟩) (fun b u z => by have z' : (none : Option HO) = some u := z; cases z') (fun b z => absurd rfl z) fun z => absurd rfl z
  | none =>
    refine core (fun b => if b = a then some (.frz { cls := .type "list", data := .seq vs.toArray } (.lst (ns.map V.int))) else none) (fun b => ?_) (.inl (.inr ⟨{ cls := .type "list", data := .seq vs.toArray }, if_pos rfl⟩)) (fun b u z => ?_) (fun b z => ?_) fun _ => hk
    · by_cases hb : b = a
      · exact .inr ⟨_, _, if_pos hb⟩
      · exact .inl (if_neg hb)
    · by_cases hb : b = a
      · have z' := (if_pos hb).symm.trans z
        cases z'
        subst hb
        exact ⟨ha, by rw [List.length_map]; exact hl, vs, _, rv, ha⟩
      · have z' := (if_neg hb).symm.trans z
        cases z'
    · by_cases hb : b = a
      · exact hb
      · exact absurd (if_neg hb) z
end L2

namespace L2
open PySem PySem.Spec PyProof.Rows

/-- the goal that k_head leaves (case hc), from the law's promise. F gives the function object fd (K's own) once, then the promise over every base -/
theorem walk_of {l : PySem.W.OpenLaw} {n k : Nat} {q : Program} {loose : List Str} {XP : (Str → Option Value) → Heap → Prop} {YP : World → Heap → Prop} {d : DefRec} {K : Params → PySem.W.Frag} {CX : World → CXT} {sp : World → Sp} {x : Str}
    (hn : l.most = some n) (hn2 : n ≤ sizeLine) (hdf : d.params.defaults = []) (hr : Room k callerA)
    (hY : ∀ (w : World) (h : Heap), YP w h → (K w.params).In h)
    (F : ∀ (w : World) (mg : Str → Option Value) (fa : Addr) (h : Heap), (K w.params).In h → h.Ns mainGlobals mg → mg d.name = some (.ref fa) →
      ∃ fd : FuncData, (∀ (s : Shared) (u : Value), BindsTo s fd ⟨[u], []⟩ [(x, u)]) ∧
        ∀ base : Heap, (K w.params).In base → base.Ns mainGlobals mg → FnOk l.prog w (K w.params) mg base (CX w) k fa fd [x] (sp w))
    (hsp : ∀ (w : World) (H : Hp) (a : Addr) (ns : List Int), ns.length ≤ n → Only H → SqL (K w.params) H a (ns.map V.int) → sp w [.ref a] H (fun v _ => v = .bl true) fun _ _ _ => False)
    (hCX : ∀ (w : World) (H : Hp) (s : Shared) (e : Value) (s' : Shared), CX w [] H s (fun _ _ _ => False) e s' → False) :
    PySem.W.WalkO q loose XP YP l.row.toRowW d [] (fun f vs => PySem.call f vs) := by
  refine Att.attach_call hn hdf fun w s₀ s₁ mg mb fa o pm cd doc a vs ns G Y ho hd hcd hmg hobj hints hlen hg => ?_
  have KX := hY w _ Y
  obtain ⟨fd, hb, hF⟩ := F w mg fa _ KX G.T.g hmg
  exact law_call KX G.T.g G.T.b G.T.builtins G.T.nolimit hg hobj hints (Nat.le_trans hlen hn2) hr hF hb (fun H hO hS => hsp w H a ns hlen hO hS) fun H e s' => hCX w H s₁ e s'
end L2

namespace L2
open PySem PySem.Spec PyProof.Rows

/-- the j-th statement of a class's body -/
def inClass (s : Stmt) (j : Nat) : Stmt := match s with
  | .ClassDef _ _ _ body _ _ _ _ _ _ _ => body.getD j (.Pass ⟨0, 0, 0, 0⟩)
  | _ => .Pass ⟨0, 0, 0, 0⟩
def defArgs (s : Stmt) : Arguments := match s with
  | .FunctionDef _ a _ _ _ _ _ _ _ _ => a
  | _ => { posonlyargs := [], args := [], vararg := none, kwonlyargs := [], kw_defaults := [], kwarg := none, defaults := [] }
def defBody (s : Stmt) : List Stmt := match s with
  | .FunctionDef _ _ b _ _ _ _ _ _ _ => b
  | _ => []
def defScope (s : Stmt) : Scope := match s with
  | .FunctionDef _ _ _ _ _ _ sc _ _ _ => sc
  | _ => { kind := .function, names := [], isGenerator := false, isCoroutine := false }

abbrev CX0 : CXT := fun _ _ _ _ _ _ => False
abbrev E0 : XK := fun _ _ _ => False
theorem pass0 {X : Cx} : Passes CX0 X E0 := fun _ _ _ _ _ _ _ h => h.elim

structure Fun (K : PySem.W.Frag) (x qual : Str) (st : Stmt) (f : Addr) (fd : FuncData) : Prop where
  ex : ∃ (oc : Value) (od : Option Addr) (kV doc pm : Value) (an : Option Addr) (cdv ct : Value) (osl : Array (Option Value)),
    fd = PySem.W.fnOf x qual (defArgs st) (defBody st) (defScope st) .none kV doc pm an cdv ct ∧ K.lookup f = some ⟨oc, od, .func fd, osl⟩ ∧ PySem.W.codeIn K cdv qual = true
  kp : PySem.W.keepIn K (.ref f) = true
section
variable {P : Program} {w : World} {K : PySem.W.Frag} {mg : Str → Option Value} {base : Heap}
/-- THE RULE for a def: its body as a term of rules, and the reading of that term -/
theorem Fun.ok {x qual : Str} {st : Stmt} {f : Addr} {fd : FuncData} {N ps : List Str} {k : Nat} {sp : Sp} (F : Fun K x qual st f fd) (S : FnScope N ps (defScope st)) (len : ∀ vs H Q E, sp vs H Q E → vs.length = ps.length)
    (hbody : ∀ (cdv : Value) (A : Around) (outer : List Env) (s : Shared) (H : Hp) (vs : List V) (Q : VK) (E : XK), Room k (A.deeper (envOfC qual (defScope st) s.heap.objs.size f cdv)) → sp vs H Q E →
      ∃ t, PSs (cxOf CX0 P w K mg base N qual (defScope st) f cdv A outer s H E).nox (defBody st) t ∧ t { nx := fun _ H' => Q .non H', rt := Q } (start N vs) H) : FnOk P w K mg base CX0 (k + 1) f fd ps sp := by
  obtain ⟨oc, od, kV, doc, pm, an, cdv, ct, osl, rfl, lk, hcd⟩ := F.ex
  refine fn_of lk hcd S len fun A outer s H vs Q E hr hsp => ?_
  obtain ⟨t, h, q⟩ := hbody cdv A outer s H vs Q E hr hsp
  exact ⟨t, h.nox, q⟩
/-- how its arguments bind (no defaults): h is «fun _ _ _ _ _ _ us hl => match us, hl with | [_, _], _ => rfl», one _ a parameter -/
theorem Fun.binds {x qual : Str} {st : Stmt} {f : Addr} {fd : FuncData} {ps : List Str} (F : Fun K x qual st f fd)
    (h : ∀ (kV doc pm : Value) (an : Option Addr) (cdv ct : Value) (us : List Value), us.length = ps.length → bindArgs (PySem.W.fnOf x qual (defArgs st) (defBody st) (defScope st) .none kV doc pm an cdv ct) ⟨us, []⟩ = pure (ps.zip us)) : Binds K fd ps [] := by
  obtain ⟨oc, od, kV, doc, pm, an, cdv, ct, osl, rfl, lk, hcd⟩ := F.ex
  exact .all (h kV doc pm an cdv ct)
theorem fun_mk {x qual : Str} {st : Stmt} {f : Addr} {oc : Value} {od an : Option Addr} {osl : Array (Option Value)} {kV doc pm cdv ct : Value} (l : K.lookup f = some ⟨oc, od, .func (PySem.W.fnOf x qual (defArgs st) (defBody st) (defScope st) .none kV doc pm an cdv ct), osl⟩)
    (c : PySem.W.codeIn K cdv qual = true) (k : PySem.W.keepIn K (.ref f) = true) : Fun K x qual st f (PySem.W.fnOf x qual (defArgs st) (defBody st) (defScope st) .none kV doc pm an cdv ct) := ⟨⟨oc, od, kV, doc, pm, an, cdv, ct, osl, rfl, l, c⟩, k⟩
end
theorem small1000 {n : Nat} (h : n ≤ 1000) : n < sizeLine := Nat.lt_of_le_of_lt h (by decide)

section
variable {X : Cx}
theorem pv (i : Nat) {x : Str} {pos : Pos} (hN : X.N[i]? = some x := by rfl) (hv : Vis X.env.scope x := by first | exact Or.inl rfl | exact Or.inr (Or.inl rfl) | exact Or.inr (Or.inr rfl)) (hd : (x == ("__debug__" : Str)) = false := by decide)
    (hcd : (x == ("__classdict__" : Str)) = false := by decide) : PE X (.Name x pos) (tVar i) := pe_var hN hv hd hcd
end

theorem iteF {A B : Prop} (h : B) : if false = true then A else B := by
  rw [if_neg Bool.false_ne_true]
  exact h
theorem iteT {A B : Prop} (h : A) : if true = true then A else B := by
  rw [if_pos rfl]
  exact h
theorem ite2 {c A B : Prop} [Decidable c] (h1 : c → A) (h2 : ¬ c → B) : if c then A else B := by
  by_cases h : c
  · rw [if_pos h]
    exact h1 h
  · rw [if_neg h]
    exact h2 h
/-- all that was tracked is as it was -/
def Same (H H' : Hp) : Prop := ∀ b o, H b = some o → H' b = some o
theorem Same.refl (H : Hp) : Same H H := fun _ _ h => h
theorem Same.trans {H H1 H2 : Hp} (a : Same H H1) (b : Same H1 H2) : Same H H2 := fun c o h => b c o (a c o h)
theorem Same.seq {K : PySem.W.Frag} {H H' : Hp} {a : Addr} {xs : List V} (e : Same H H') (h : SqL K H a xs) : SqL K H' a xs := by
  rcases h with (h | ⟨o, h⟩) | h
  · exact .inl (.inl (e _ _ h))
  · exact .inl (.inr ⟨o, e _ _ h⟩)
  · exact .inr h

end L2
section
set_option Elab.async false
set_option linter.all false
set_option maxRecDepth 100000
set_option maxHeartbeats 4000000

namespace L2
open PySem PySem.Spec PyProof.Rows

/-- the cells that the block's free names stand for -/
def cloOf (cells : List (Str × Addr)) : List (Str × NameKind) → List (Str × Addr) → List (Str × Addr)
  | [], cs => cs
  | (n, k) :: r, cs => cloOf cells r (if k == .free then match cells.lookup n with | some c => (n, c) :: cs | none => cs else cs)
theorem cloOf_sub {cells : List (Str × Addr)} : ∀ {names : List (Str × NameKind)} {cs : List (Str × Addr)}, (∀ x c, cs.lookup x = some c → cells.lookup x = some c) → ∀ x c, (cloOf cells names cs).lookup x = some c → cells.lookup x = some c
  | [], _, h => h
  | (n, k) :: r, cs, h => by
    unfold cloOf
    refine cloOf_sub (names := r) ?_
    intro x c e
    by_cases hk : (k == NameKind.free) = true
    · rw [if_pos hk] at e
      cases q : cells.lookup n with
      | none => rw [q] at e; exact h x c e
      | some d =>
        rw [q] at e
        rw [List.lookup_cons] at e
        cases hx : x == n with
        | true =>
          rw [hx] at e
          have hxn : x = n := eq_of_beq hx
          subst hxn
          rw [q]; exact e
        | false => rw [hx] at e; exact h x c e
    · rw [if_neg hk] at e; exact h x c e
theorem cloOf_mono {cells : List (Str × Addr)} {x : Str} : ∀ {names : List (Str × NameKind)} {cs : List (Str × Addr)}, (cs.lookup x).isSome = true → ((cloOf cells names cs).lookup x).isSome = true
  | [], _, h => h
  | (n, k) :: r, cs, h => by
    unfold cloOf
    refine cloOf_mono (names := r) ?_
    by_cases hk : (k == NameKind.free) = true
    · rw [if_pos hk]
      cases q : cells.lookup n with
      | none => exact h
      | some d =>
        show (List.lookup x ((n, d) :: cs)).isSome = true
        rw [List.lookup_cons]
        cases hx : x == n with
        | true => rfl
        | false => exact h
    · rw [if_neg hk]; exact h
theorem cloOf_has {cells : List (Str × Addr)} {x : Str} (hc : (cells.lookup x).isSome = true) : ∀ {names : List (Str × NameKind)} {cs : List (Str × Addr)}, (x, NameKind.free) ∈ names → ((cloOf cells names cs).lookup x).isSome = true
  | [], _, h => by cases h
  | (n, k) :: r, cs, h => by
    unfold cloOf
    rcases List.mem_cons.mp h with e | h
    · cases e
      refine cloOf_mono ?_
      rw [if_pos (show (NameKind.free == NameKind.free) = true from rfl)]
      obtain ⟨d, q⟩ := Option.isSome_iff_exists.mp hc
      rw [q]
      show (List.lookup x ((x, d) :: cs)).isSome = true
      rw [List.lookup_cons, beq_self_eq_true]
      rfl
    · exact cloOf_has hc h
theorem clo_go {env : Env} : ∀ (names : List (Str × NameKind)) (cs : List (Str × Addr)), (∀ y ∈ names, y.2 = .free → (env.cells.lookup y.1).isSome = true) →
    (forIn names cs fun (x : Str × NameKind) (r : List (Str × Addr)) => match x with
      | (name, kind) => if (kind == .free) = true then do let c ← cellOf env name; pure (ForInStep.yield ((name, c) :: r)) else pure (ForInStep.yield r) : Sem (List (Str × Addr))) = pure (cloOf env.cells names cs)
  | [], cs, _ => rfl
  | (n, k) :: r, cs, h => by
    have hr : ∀ y ∈ r, y.2 = .free → (env.cells.lookup y.1).isSome = true := fun y hy => h y (List.mem_cons_of_mem _ hy)
    rw [List.forIn_cons]
    unfold cloOf
    by_cases hk : (k == NameKind.free) = true
    · have hf : k = .free := by simpa using hk
      obtain ⟨d, q⟩ := Option.isSome_iff_exists.mp (h (n, k) List.mem_cons_self hf)
      have q' : env.cells.lookup n = some d := q
      have hcell : cellOf env n = pure d := by unfold cellOf; rw [q']
      simp only [hk, if_true, hcell, pure_bind, q']
      exact clo_go r _ hr
    · simp only [hk, if_false, pure_bind, Bool.false_eq_true]
      exact clo_go r _ hr
theorem clo_of {scope : Scope} {env : Env} (h : ∀ y ∈ scope.names, y.2 = .free → (env.cells.lookup y.1).isSome = true) : closureFor scope env = pure (cloOf env.cells scope.names []) := by
  unfold closureFor
  have e := clo_go (env := env) scope.names [] h
  simp only [bind_pure]
  exact e

theorem lookup_relabel_free {env : Env} : ∀ {names : List (Str × NameKind)} {x : Str}, names.lookup x = some .free →
    (names.map fun (n, k) => if (k == NameKind.free && env.scope.kind == .function && env.kindOf n == some .cell) then (n, NameKind.cell) else (n, k)).lookup x = some .cell ∨
    (names.map fun (n, k) => if (k == NameKind.free && env.scope.kind == .function && env.kindOf n == some .cell) then (n, NameKind.cell) else (n, k)).lookup x = some .free
  | [], _, h => by simp at h
  | (n, k) :: r, x, h => by
    have ih := @lookup_relabel_free env r x
    rw [List.map_cons]
    show List.lookup x ((if (k == NameKind.free && env.scope.kind == .function && env.kindOf n == some .cell) = true then (n, NameKind.cell) else (n, k)) :: _) = _ ∨ List.lookup x ((if (k == NameKind.free && env.scope.kind == .function && env.kindOf n == some .cell) = true then (n, NameKind.cell) else (n, k)) :: _) = _
    cases hx : x == n with
    | true =>
      rw [List.lookup_cons, hx] at h
      have hk : k = .free := by simpa using h
      by_cases hc : (k == NameKind.free && env.scope.kind == .function && env.kindOf n == some .cell) = true
      · rw [if_pos hc]; left; rw [List.lookup_cons, hx]
      · rw [if_neg hc]; right; rw [List.lookup_cons, hx, hk]
    | false =>
      rw [List.lookup_cons, hx] at h
      by_cases hc : (k == NameKind.free && env.scope.kind == .function && env.kindOf n == some .cell) = true
      · rw [if_pos hc]; rw [List.lookup_cons, hx]; exact ih h
      · rw [if_neg hc]; rw [List.lookup_cons, hx]; exact ih h
theorem relabel_mem {env : Env} {x : Str} : ∀ {names : List (Str × NameKind)}, (∀ y ∈ names, y.2 ≠ .cell) →
    ((names.map fun (n, k) => if (k == NameKind.free && env.scope.kind == .function && env.kindOf n == some .cell) then (n, NameKind.cell) else (n, k)).lookup x = some .cell ∨
     (names.map fun (n, k) => if (k == NameKind.free && env.scope.kind == .function && env.kindOf n == some .cell) then (n, NameKind.cell) else (n, k)).lookup x = some .free) → (x, NameKind.free) ∈ names
  | [], _, h => by simp at h
  | (n, k) :: r, hc, h => by
    have ih := @relabel_mem env x r fun y hy => hc y (List.mem_cons_of_mem _ hy)
    rw [List.map_cons] at h
    have h' : List.lookup x ((if (k == NameKind.free && env.scope.kind == .function && env.kindOf n == some .cell) = true then (n, NameKind.cell) else (n, k)) :: _) = _ ∨ List.lookup x ((if (k == NameKind.free && env.scope.kind == .function && env.kindOf n == some .cell) = true then (n, NameKind.cell) else (n, k)) :: _) = _ := h
    by_cases hb : (k == NameKind.free && env.scope.kind == .function && env.kindOf n == some .cell) = true
    · rw [if_pos hb] at h'
      have hk : k = .free := by simp at hb; exact hb.1.1
      rw [List.lookup_cons] at h'
      cases hx : x == n with
      | true =>
        have : x = n := eq_of_beq hx
        subst this; subst hk
        exact List.mem_cons_self
      | false => rw [hx] at h'; exact List.mem_cons_of_mem _ (ih h')
    · rw [if_neg hb] at h'
      rw [List.lookup_cons] at h'
      cases hx : x == n with
      | true =>
        rw [hx] at h'
        have : x = n := eq_of_beq hx
        subst this
        rcases h' with h' | h'
        · exact absurd (Option.some.inj h') (hc (x, k) List.mem_cons_self)
        · have hk : k = .free := Option.some.inj h'
          subst hk
          exact List.mem_cons_self
      | false => rw [hx] at h'; exact List.mem_cons_of_mem _ (ih h')

/-- what is looked at in the block's scope -/
def compOk (osc sc : Scope) : Bool :=
  (decide (sc.kind = .function)) && sc.names.all (fun y => decide (y.2 ≠ .cell)) && sc.names.all (fun y => decide (y.2 = .local → sc.names.lookup y.1 = some .local)) &&
    sc.names.all (fun y => decide (y.2 = .free → osc.names.lookup y.1 = some .cell ∨ osc.names.lookup y.1 = some .free))
structure CompOk (osc sc : Scope) : Prop where
  kind : sc.kind = .function
  nocell : ∀ y ∈ sc.names, y.2 ≠ .cell
  loc : ∀ y ∈ sc.names, y.2 = .local → sc.names.lookup y.1 = some .local
  free : ∀ y ∈ sc.names, y.2 = .free → osc.names.lookup y.1 = some .cell ∨ osc.names.lookup y.1 = some .free
theorem CompOk.of {osc sc : Scope} (h : compOk osc sc = true) : CompOk osc sc := by
  unfold compOk at h
  rw [Bool.and_eq_true, Bool.and_eq_true, Bool.and_eq_true] at h
  obtain ⟨⟨⟨h1, h2⟩, h3⟩, h4⟩ := h
  exact ⟨of_decide_eq_true h1, fun y hy => of_decide_eq_true (List.all_eq_true.mp h2 y hy), fun y hy => of_decide_eq_true (List.all_eq_true.mp h3 y hy), fun y hy => of_decide_eq_true (List.all_eq_true.mp h4 y hy)⟩

abbrev cloX (X : Cx) (scope : Scope) : List (Str × Addr) := cloOf X.env.cells scope.names []
/-- the block's context -/
def cxComp (X : Cx) (N' : List Str) (scope : Scope) (fp : List Addr) (s : Shared) (H : Hp) : Cx where
  prog := X.prog
  w := X.w
  K := X.K
  mg := X.mg
  base := X.base
  A := X.A
  N := N'
  s₀ := s
  H₀ := H
  env := compEnvC scope (cloX X scope) s.heap.objs.size X.env
  outer := X.stack
  stack := X.stack
  ex := fp
  fn := fun _ => false
  calm := X.calm
  pn := []
  xe := fun _ _ => False

/-- the free names fr of the block stand in the slots ix of the def -/
def FreeAt (X : Cx) (sc : Scope) : List Str → List Nat → Prop
  | [], [] => True
  | x :: fr, j :: ix => (X.N[j]? = some x ∧ sc.names.lookup x = some .free) ∧ FreeAt X sc fr ix
  | _, _ => False
/-- the block's slots at its start: its own names, then the free ones -/
def start2 (σ : St) (own : List Str) (ix : List Nat) : St := List.replicate own.length none ++ ix.map fun j => (σ[j]?).join
theorem start2_len {X : Cx} {sc : Scope} {σ : St} {own : List Str} : ∀ {fr : List Str} {ix : List Nat}, FreeAt X sc fr ix → (start2 σ own ix).length = (own ++ fr).length := by
  intro fr ix h
  have : fr.length = ix.length := by
    induction fr generalizing ix with
    | nil => cases ix with
      | nil => rfl
      | cons _ _ => exact h.elim
    | cons x fr ihf => cases ix with
      | nil => exact h.elim
      | cons j ix => simp [ihf h.2]
  simp [start2, this]
theorem freeAt_get {X : Cx} {sc : Scope} {σ : St} {x : Str} {v : V} : ∀ {fr : List Str} {ix : List Nat} {i : Nat}, FreeAt X sc fr ix → fr[i]? = some x → (ix.map fun j => (σ[j]?).join)[i]? = some (some v) →
    ∃ j : Nat, X.N[j]? = some x ∧ σ[j]? = some (some v) ∧ sc.names.lookup x = some .free
  | [], _, _, _, h, _ => by simp at h
  | _ :: _, [], _, h, _, _ => h.elim
  | y :: fr, j :: ix, 0, h, h1, h2 => by
    have e1 : y = x := by simpa using h1
    subst e1
    have e2 : (σ[j]?).join = some v := by simpa using h2
    refine ⟨j, h.1.1, ?_, h.1.2⟩
    cases q : σ[j]? with
    | none => rw [q] at e2; cases e2
    | some o => rw [q] at e2; cases o with
      | none => cases e2
      | some z => have : z = v := by simpa using e2
                  rw [this]
  | y :: fr, j :: ix, i + 1, h, h1, h2 => freeAt_get (fr := fr) (ix := ix) (i := i) h.2 (by simpa using h1) (by simpa using h2)
theorem start2_get {X : Cx} {sc : Scope} {σ : St} {own fr : List Str} {ix : List Nat} {i : Nat} {x : Str} {v : V} (h : FreeAt X sc fr ix) (h1 : (own ++ fr)[i]? = some x) (h2 : (start2 σ own ix)[i]? = some (some v)) :
    ∃ j : Nat, X.N[j]? = some x ∧ σ[j]? = some (some v) ∧ sc.names.lookup x = some .free := by
  by_cases hi : i < own.length
  · unfold start2 at h2
    rw [List.getElem?_append_left (by simpa using hi), List.getElem?_replicate, if_pos hi] at h2
    cases h2
  · unfold start2 at h2
    rw [List.getElem?_append_right (by simpa using hi)] at h2
    rw [List.getElem?_append_right (by simpa using hi)] at h1
    exact freeAt_get h h1 (by simpa using h2)

/-- tests of a clause -/
def PIfs (X : Cx) (ifs : List Expr) (t : TT) : Prop :=
  ∀ (pins : List (Addr × Obj)) (s : Shared) (σ : St) (H : Hp) (Q : Bool → Hp → Prop), Inv X pins σ H s → t σ H Q →
    wpAny (model X.prog X.w) X.A (forIn ifs true fun c r => if r = true then do let ok ← isTrue c X.env (eval c X.env); pure (ForInStep.yield ok) else pure (ForInStep.yield r)) (TP X pins σ Q) X.xe s
def tYes : TT := fun _ H Q => Q true H
theorem pifs_nil {X : Cx} : PIfs X [] tYes := fun _ _ _ H _ I h => wpAny_tests_nil ⟨H, I, h⟩
theorem pifs_one {X : Cx} {c : Expr} {t : TT} (h : PT X c t) : PIfs X [c] t := fun pins s σ H Q I hw => wpAny_tests_one (h pins s σ H Q I hw)

/-- the comprehension's loop, all that a turn does -/
theorem codeAny_compLoop_any {prog : Program} {w : World} {A : Around} {R : Result → Shared → Prop} {s : Shared} {elt target iter : Expr} {ifs : List Expr} {scope : Scope} {pos : Pos} {it acc : Value} {env : Env} (I : Nat → Shared → Prop)
    (turn : ∀ n s, I n s → wpAny (model prog w) A (pyNext it) (fun r s₁ => match r with
      | none => R (.ok .next) s₁
      | some v => wpAny (model prog w) A (letOwnedTupleGo target it v) (fun _ s₁' => wpAny (model prog w) A (assign target env v) (fun _ s₂ =>
          wpAny (model prog w) A (forIn ifs true fun c r => if r = true then do let ok ← isTrue c env (eval c env); pure (ForInStep.yield ok) else pure (ForInStep.yield r)) (fun ok s₃ =>
            if ok = true then wpAny (model prog w) A (eval elt env) (fun x s₄ =>
              wpAny (model prog w) A (call (.builtin "list.append") [acc, x]) (fun _ s₅ => ∃ m, m < n ∧ I m s₅) (fun _ _ => False) s₄) (fun _ _ => False) s₃
            else ∃ m, m < n ∧ I m s₃) (fun _ _ => False) s₂) (fun _ _ => False) s₁') (fun _ _ => False) s₁) (fun _ _ => False) s)
    (n : Nat) (h : I n s) :
    codeAny (model prog w) A (.compLoop (.ListComp elt [⟨target, iter, ifs, 0⟩] scope pos) 0 it acc env) R s := by
  refine codeAny_loop rfl I (fun n s hI => ?_) n h
  show wpAny _ A ((compTurn (.ListComp elt [⟨target, iter, ifs, 0⟩] scope pos) 0 it acc env).onRaise (fun x => do noteFrame x env; theTreesLotGoes x)) _ _ s
  refine wpAny_noted ?_
  rw [compTurn_list]
  refine wpAny_bind (wpAny_standAt (wpAny_bind (wpAny_mono (turn n s hI) (fun r s₁ h₁ => ?_) fun _ _ h' => h'.elim)))
  cases r with
  | none => exact wpAny_pure h₁
  | some v =>
    refine wpAny_bind (wpAny_mono h₁ (fun _ s₁' h₁' => ?_) fun _ _ h' => h'.elim)
    refine wpAny_bind (wpAny_mono h₁' (fun _ s₂ h₂ => wpAny_bind (wpAny_mono h₂ (fun ok s₃ h₃ => ?_) fun _ _ h' => h'.elim)) fun _ _ h' => h'.elim)
    cases ok with
    | false => exact wpAny_pure ⟨rfl, h₃⟩
    | true =>
      exact wpAny_bind (wpAny_bind (wpAny_mono h₃ (fun x s₄ h₄ => wpAny_bind (wpAny_mono h₄ (fun _ s₅ h₅ => wpAny_pure (wpAny_pure ⟨rfl, h₅⟩)) fun _ _ h' => h'.elim)) fun _ _ h' => h'.elim))

/-- behind the block, ahead of its names' going -/
def Behind (X : Cx) (pins : List (Addr × Obj)) (σ : St) (R : Hp → Prop) (C : Addr) (s' : Shared) : Prop :=
  ∃ (H' : Hp) (m : Str → Option Value), Inv X pins σ H' s' ∧ s'.heap.Ns C m ∧ FpOk X pins H' C ∧ R H'
theorem Inv.sameBut {X : Cx} {pins : List (Addr × Obj)} {σ : St} {H : Hp} {s : Shared} {h' : Heap} {C : Addr} (I : Inv X pins σ H s) (f : FpOk X pins H C) (sb : Heap.SameBut C s.heap h') : Inv X pins σ H { s with heap := h' } := by
  obtain ⟨f0, f1, f2, f3, f4, f5⟩ := f
  exact I.turned (t' := s.toks) (fun b o hb e => (sb.2 b hb).trans e) f0 f1 f3 f4 f5

/-- what a loop of a comprehension wants: D is the list that it fills -/
def tTurns (J : It) (D : Addr) (g : TG) (tc : TT) (te : TE) (R : Hp → Prop) (τ : St) (H : Hp) : Prop :=
  ∃ W : Nat → Nat → St → Hp → Prop, (∃ m, W 0 m τ H) ∧ ∀ i m τ H, W i m τ H →
    (J.stop i H ∧ R H) ∨ (J.go i H ∧ ∃ N : St → Hp → Prop, (∀ τ' H', N τ' H' → ∃ m', m' < m ∧ W (i + 1) m' τ' H') ∧ ∀ x H', J.yld i H x H' → g x τ H' fun τ2 H2 => tc τ2 H2 fun b H3 =>
      if b = true then te τ2 H3 fun v H4 => ∃ ys, H4 D = some (.lst ys) ∧ ys.length < sizeLine ∧ N τ2 (upd H4 D (.lst (ys ++ [v]))) else N τ2 H3)

section
variable {X : Cx} {pins : List (Addr × Obj)} {σ : St} {H : Hp} {s : Shared} {tg elt iter : Expr} {ifs : List Expr} {scope : Scope} {pos : Pos} {own fr : List Str} {ix : List Nat} {g : TG} {tc : TT} {te : TE} {it : Addr} {fp : List Addr}
  {tn : Nat → Heap → Prop} {J : It}

theorem comp_inner {R : Hp → Prop} {D : Addr} {h₁ : Heap} {ob : Obj} {m0 : Str → Option Value} {tk : Nat} (hc : X.calm = true) (ok : CompOk X.env.scope scope) (hfr : FreeAt X scope fr ix)
    (hg : PG (cxComp X (own ++ fr) scope fp s H) tg g) (hi : PIfs (cxComp X (own ++ fr) scope fp s H) ifs tc) (he : PE (cxComp X (own ++ fr) scope fp s H) elt te)
    (I3 : Inv X pins σ H s) (T : Turn X.prog X.w X.K tg J fp it tn) (st3 : tn 0 s.heap) (f3 : ∀ b ∈ fp, FpOk X pins H b)
    (hns : h₁.Ns s.heap.objs.size m0) (hsb : Heap.SameBut s.heap.objs.size (s.heap.push ob) h₁) (hq : tTurns J D g tc te R (start2 σ own ix) H) :
    codeAny (model X.prog X.w) X.A (.compStart (.ListComp elt [⟨tg, iter, ifs, 0⟩] scope pos) 0 (.ref it) (.ref D) (compEnvC scope (cloX X scope) s.heap.objs.size X.env))
      (fun r s' => r = .ok .next ∧ Behind X pins σ R s.heap.objs.size s') { s with heap := h₁, toks := tk } := by
  have old : ∀ b o, s.heap.get? b = some o → h₁.get? b = some o := fun b o e => hsb.extBut b o (Nat.ne_of_lt (Heap.lt_size e)) (Heap.get?_push_of_some _ e)
  have sub : ∀ x c, (cloX X scope).lookup x = some c → X.env.cells.lookup x = some c := cloOf_sub (fun x c e => by simp at e)
  have outerK : ∀ x, (x, NameKind.free) ∈ scope.names → X.env.kindOf x = some .cell ∨ X.env.kindOf x = some .free := fun x hx => ok.free (x, .free) hx rfl
  have has : ∀ x, (x, NameKind.free) ∈ scope.names → ∃ c, (cloX X scope).lookup x = some c := fun x hx => by
    obtain ⟨c, hcl⟩ := I3.ok.has x (outerK x hx)
    exact Option.isSome_iff_exists.mp (cloOf_has (by rw [hcl]; rfl) hx)
  have lt3 : ∀ b ∈ fp, b < s.heap.objs.size := fun b hb => by
    obtain ⟨o, ho, _⟩ := T.obj 0 _ st3 b hb
    exact Heap.lt_size ho
  have nostk : ∀ b ∈ fp, b ∉ frs X.stack := fun b hb hs => by
    rcases List.mem_cons.mp (I3.stkSub b hs) with z | z
    · exact (f3 b hb).2.1 z
    · exact (f3 b hb).2.2.1 z
  have ncell : ∀ b ∈ fp, ∀ x c, (cloX X scope).lookup x = some c → c ≠ b := fun b hb x c h => (f3 b hb).2.2.2.2.1 x c (sub x c h)
  have I4 : Inv (cxComp X (own ++ fr) scope fp s H) [] (start2 σ own ix) H { s with heap := h₁, toks := tk } := by
    refine ⟨⟨I3.ok.mod, ok.kind, I3.ok.glob, I3.ok.blt, Nat.le_refl _, ?inj, ?has, ?cab, I3.ok.hd, I3.ok.frames, .inl rfl, ?exf, I3.bs, Nat.le_trans I3.ok.bsz I3.sz, ?noex, nostk, I3.stack, I3.stkFree⟩,
      rfl, I3.bare, Un.kept old, ⟨m0, hns, ?loc⟩, ?cell, I3.hok.fresh (Nat.le_refl _), ?freeC, ?pin, I3.hok.kept old, ?len⟩
    case inj => exact fun x y c h1 h2 => I3.ok.inj x y c (sub x c h1) (sub y c h2)
    case has => exact fun x hx => has x (relabel_mem ok.nocell hx)
    case cab => exact fun x c h => by cases h
    case exf => exact fun b hb => ⟨Nat.ne_of_lt (lt3 b hb), ncell b hb⟩
    case noex =>
      intro b o e hb
      rcases (f3 b hb).2.2.2.1 with z | z
      · exact I3.ok.noex b o e z
      · exact absurd (Nat.lt_of_lt_of_le (Nat.lt_of_lt_of_le (Heap.lt_size e) I3.ok.bsz) z) (Nat.lt_irrefl _)
    case loc =>
      intro i x v e1 e2 e3
      obtain ⟨j, a1, a2, a3⟩ := start2_get hfr e1 e2
      have mem : (x, NameKind.free) ∈ scope.names := PySem.mem_of_lookup a3
      obtain ⟨m, hn, hl⟩ := I3.loc
      have ok1 := outerK x mem
      obtain ⟨u, r, l⟩ := hl j x v a1 a2 (ok1.elim (fun z => .inr (.inl z)) fun z => .inr (.inr z))
      rcases l with ⟨k, _⟩ | ⟨k, c, hcl, o, ho, hd⟩
      · rcases ok1 with z | z
        · rw [k] at z; cases z
        · rw [k] at z; cases z
      · obtain ⟨c', hc'⟩ := has x mem
        have e := sub x c' hc'
        rw [hcl] at e
        cases e
        exact ⟨u, r, .inr ⟨lookup_relabel_free a3, c, hc', o, old _ _ ho, hd⟩⟩
    case cell =>
      intro x c h
      obtain ⟨v, o, ho, hd⟩ := I3.cell x c (sub x c h)
      exact ⟨v, o, old _ _ ho, hd⟩
    case freeC => exact fun x c h => I3.freeC x c (sub x c h)
    case pin => exact fun p hp => absurd (show p ∈ ([] : List (Addr × Obj)) from hp) (by simp)
    case len => exact start2_len hfr
  have st4 : tn 0 h₁ := T.keep 0 _ _ st3 fun b _ o e => old b o e
  have stat : ∀ {H' : Hp}, (∀ b ∈ fp, H' b = none) → ∀ b ∈ fp, FpOk (cxComp X (own ++ fr) scope fp s H) [] H' b := fun {H'} hn b hb =>
    ⟨hn b hb, Nat.ne_of_lt (lt3 b hb), nostk b hb, .inl hb, ncell b hb, fun p hp => absurd (show p ∈ ([] : List (Addr × Obj)) from hp) (by simp)⟩
  obtain ⟨W, ⟨m1, w0⟩, turn⟩ := hq
  have loop : codeAny (model X.prog X.w) X.A (.compLoop (.ListComp elt [⟨tg, iter, ifs, 0⟩] scope pos) 0 (.ref it) (.ref D) (compEnvC scope (cloX X scope) s.heap.objs.size X.env))
      (fun r s' => r = .ok .next ∧ Behind X pins σ R s.heap.objs.size s') { s with heap := h₁, toks := tk } := by
    refine codeAny_compLoop_any (fun n s' => ∃ i τ H', Inv (cxComp X (own ++ fr) scope fp s H) [] τ H' s' ∧ tn i s'.heap ∧ (∀ b ∈ fp, H' b = none) ∧ W i n τ H') ?_ m1 ⟨0, _, H, I4, st4, fun b hb => (f3 b hb).1, w0⟩
    rintro n s5 ⟨i, τ5, H5, I5, st5, fr5, w5⟩
    rcases turn i n τ5 H5 w5 with ⟨stop, qn⟩ | ⟨go, N, hN, step⟩
    · refine thn (T.done (cxComp X (own ++ fr) scope fp s H) rfl rfl rfl hc i [] s5 τ5 H5 _ I5 (stat fr5) st5 stop) fun r s6 ⟨hr, I6⟩ => ?_
      subst hr
      obtain ⟨m6, hn6, _⟩ := I6.loc
      exact ⟨rfl, H5, m6, I3.call' (ch := fp) I6.os I6.base I6.hok I6.bare (fun b hb => ⟨(f3 b hb).2.2.2.1, (f3 b hb).2.1, (f3 b hb).2.2.2.2.1, (f3 b hb).2.2.2.2.2⟩), hn6, I3.fpOk (Nat.le_refl _) I6.free, qn⟩
    · refine thn (T.item (cxComp X (own ++ fr) scope fp s H) rfl rfl rfl hc i [] s5 τ5 H5 _ I5 (stat fr5) st5 go) fun r s6 ⟨u, hr, h6⟩ => ?_
      subst hr
      refine thn h6 fun _ s7 ⟨x, H7, I7, r7, y7, st7, fr7⟩ => ?_
      have I7' := I7.pinned (stat fr7) (T.obj _ _ st7)
      have again : ∀ {τ8 : St} {H8 : Hp} {s8 : Shared}, Inv (cxComp X (own ++ fr) scope fp s H) ([] ++ pinsAt fp s7.heap) τ8 H8 s8 → N τ8 H8 →
          ∃ m, m < n ∧ ∃ i τ H', Inv (cxComp X (own ++ fr) scope fp s H) [] τ H' s8 ∧ tn i s8.heap ∧ (∀ b ∈ fp, H' b = none) ∧ W i m τ H' := fun {τ8 H8 s8} I8 n8 => by
        obtain ⟨m', hm, w8⟩ := hN τ8 H8 n8
        refine ⟨m', hm, i + 1, τ8, H8, I8.unpinned, T.keep _ _ _ st7 fun b hb o e => (I8.pin (b, o) (List.mem_append_right _ (List.mem_append_right _ (mem_pinsAt hb e)))).1, fun b hb => ?_, w8⟩
        obtain ⟨o, e, d⟩ := T.obj _ _ st7 b hb
        exact (I8.pin (b, o) (List.mem_append_right _ (List.mem_append_right _ (mem_pinsAt hb e)))).2.1
      refine thn (hg _ s7 τ5 H7 x u _ I7' r7 (step x H7 y7)) fun _ s8 ⟨τ8, H8, I8, q8⟩ => ?_
      refine thn (hi _ s8 τ8 H8 _ I8 q8) fun b s9 ⟨H9, I9, q9⟩ => ?_
      cases b with
      | false => exact again I9 q9
      | true =>
        refine thn (he _ s9 τ8 H9 _ I9 q9) fun uv s10 ⟨v, H10, I10, r10, ys, hD, hz, q10⟩ => ?_
        refine thn (mt_append (X := cxComp X (own ++ fr) scope fp s H) _ s10 τ8 H10 (.ref D) [v] (.ref D) [uv] (fun _ H' => N τ8 H') I10 rfl (.cons r10 .nil) ⟨D, ys, v, rfl, rfl, hD, hz, q10⟩) fun _ s11 ⟨_, H11, I11, _, q11⟩ => ?_
        exact again I11 q11
  exact codeAny_compStart_list loop (T.self X.A 0 _ _ _ st4 loop)

theorem comp_run {R : V → Hp → Prop} (hc : X.calm = true) (ok : CompOk X.env.scope scope) (hfr : FreeAt X scope fr ix)
    (hg : ∀ fp s H, PG (cxComp X (own ++ fr) scope fp s H) tg g) (hi : ∀ fp s H, PIfs (cxComp X (own ++ fr) scope fp s H) ifs tc) (he : ∀ fp s H, PE (cxComp X (own ++ fr) scope fp s H) elt te)
    (I2 : Inv X pins σ H s) (T : Turn X.prog X.w X.K tg J fp it tn) (st2 : tn 0 s.heap) (f2 : ∀ b ∈ fp, FpOk X pins H b)
    (hq : ∀ D, H D = none → tTurns J D g tc te (R (.ref D)) (start2 σ own ix) (upd H D (.lst []))) {E : Value → Shared → Prop} :
    wpAny (model X.prog X.w) X.A (newList []) (fun acc s₃ => wpAny (model X.prog X.w) X.A (newFunctionEnv scope X.env.globals (cloX X scope) [] X.env.qual none .none (some X.env)) (fun cenv s₄ =>
      codeAny (model X.prog X.w) X.A (.compStart (.ListComp elt [⟨tg, iter, ifs, 0⟩] scope pos) 0 (.ref it) acc { cenv with scope := relabel scope X.env })
        (fun r s' => r = .ok .next ∧ ∃ v, RelV v acc ∧ Behind X pins σ (R v) cenv.locals s') s₄) E s₃) E s := by
  refine wpAny_newObj_type (wpAny_newFunctionEnv ok.nocell (by intro y hy; simp at hy) (fun h₁ hns₁ hsb₁ => ?_) ok.kind)
  have hD : H s.heap.objs.size = none := I2.hok.fresh (Nat.le_refl _)
  have I3 : Inv X pins σ (upd H s.heap.objs.size (.lst [])) { s with heap := s.heap.push { cls := .type "list", dict := none, data := .seq ([] : List Value).toArray } } :=
    I2.laid (t' := s.toks) (fun b u e => Heap.get?_push_of_some _ e) (Nat.le_refl _) ⟨Nat.zero_le _, [], 0, .nil, Heap.get?_push_size _ rfl⟩
  have st3 : tn 0 (s.heap.push { cls := .type "list", dict := none, data := .seq ([] : List Value).toArray }) := T.keep 0 _ _ st2 fun b _ o e => Heap.get?_push_of_some _ e
  have f3 : ∀ b ∈ fp, FpOk X pins (upd H s.heap.objs.size (.lst [])) b := fun b hb => by
    obtain ⟨f0, fr⟩ := f2 b hb
    obtain ⟨o, ho, _⟩ := T.obj 0 _ st2 b hb
    exact ⟨by rw [upd_ne (Nat.ne_of_lt (Heap.lt_size ho))]; exact f0, fr⟩
  refine codeAny_mono (comp_inner (R := R (.ref s.heap.objs.size)) (D := s.heap.objs.size) hc ok hfr (hg _ _ _) (hi _ _ _) (he _ _ _) I3 T st3 f3 hns₁ hsb₁ (hq _ hD)) fun r s' ⟨e, b⟩ => ⟨e, V.ref s.heap.objs.size, rfl, b⟩

/-- [elt for tg in iter if c ..]: own its names, fr the def's names that it reads, in the slots ix -/
def tComp (own : List Str) (ix : List Nat) (wi : TI) (g : TG) (tc : TT) (te : TE) : TE := fun σ H Q => wi σ H fun J H1 => ∀ D, H1 D = none → tTurns J D g tc te (Q (.ref D)) (start2 σ own ix) (upd H1 D (.lst []))
end

section
variable {X : Cx} {tg elt iter : Expr} {ifs : List Expr} {scope : Scope} {pos : Pos} {g : TG} {tc : TT} {te : TE} {wi : TI}
theorem has_cells {pins : List (Addr × Obj)} {σ : St} {H : Hp} {s : Shared} (I : Inv X pins σ H s) (ok : CompOk X.env.scope scope) : ∀ y ∈ scope.names, y.2 = .free → (X.env.cells.lookup y.1).isSome = true := fun y hy hf => by
  obtain ⟨c, h⟩ := I.ok.has y.1 (ok.free y hy hf)
  rw [h]; rfl
theorem pe_comp (osc : Scope) (own fr : List Str) (ix : List Nat) (hc : X.calm = true) (ho : X.env.scope = osc) (hok : compOk osc scope = true) (hfr : FreeAt X scope fr ix) (hit : PI X tg iter wi)
    (hg : ∀ fp s H, PG (cxComp X (own ++ fr) scope fp s H) tg g) (hi : ∀ fp s H, PIfs (cxComp X (own ++ fr) scope fp s H) ifs tc) (he : ∀ fp s H, PE (cxComp X (own ++ fr) scope fp s H) elt te)
    (hs : ∀ x, foldedSetIterable iter X.env x = pure x := by intro _; rfl) : PE X (.ListComp elt [⟨tg, iter, ifs, 0⟩] scope pos) (tComp own ix wi g tc te) := by
  intro pins s σ H Q I h
  have ok := CompOk.of (ho ▸ hok)
  rw [eval_ListComp]
  refine wpAny_comprehension_free (use := none) rfl hs (clo_of (has_cells I ok)) ok.kind ok.loc (thn (hit pins s σ H _ I h) fun xv s₁ h₁ => thn h₁ fun itv s₂ h₂ => ?_)
  obtain ⟨it, fp, tn, J, H2, rfl, I2, T, st2, f2, hq⟩ := h₂
  refine thn (comp_run (R := Q) hc ok hfr hg hi he I2 T st2 f2 hq) fun acc s₃ h₃ => thn h₃ fun cenv s₄ h₄ => codeAny_mono h₄ fun r s' ⟨hr, v, rv, H', m, I', hn, fpo, q⟩ => ?_
  subst hr
  exact ⟨m, hn, fun h' sb => ⟨v, H', I'.sameBut fpo sb, rv, q⟩⟩
/-- name = [..], on one line: the store stands ahead of the block's names' going -/
theorem ps_comp {i : Nat} {x : Str} {pos' spos : Pos} (osc : Scope) (own fr : List Str) (ix : List Nat) (hN : X.N.Nodup) (hx : X.N[i]? = some x) (hl : Loc X.env.scope x) (hc : X.calm = true) (ho : X.env.scope = osc) (hok : compOk osc scope = true) (hfr : FreeAt X scope fr ix) (hit : PI X tg iter wi)
    (hg : ∀ fp s H, PG (cxComp X (own ++ fr) scope fp s H) tg g) (hi : ∀ fp s H, PIfs (cxComp X (own ++ fr) scope fp s H) ifs tc) (he : ∀ fp s H, PE (cxComp X (own ++ fr) scope fp s H) elt te)
    (hsw : swapsWith (.ListComp elt [⟨tg, iter, ifs, 0⟩] scope pos) (some (.Name x pos')) spos.line X.env = pure true := by rfl) (hs : ∀ x, foldedSetIterable iter X.env x = pure x := by intro _; rfl)
    (hf : X.fn x = true ∨ X.env.scope.names.lookup x = some .local := by first | exact .inl rfl | exact .inr rfl | assumption) :
    PS X (.Assign [.Name x pos'] (.ListComp elt [⟨tg, iter, ifs, 0⟩] scope pos) spos) (tAsg (tComp own ix wi g tc te) (gName i)) := by
  intro pins s σ H D I h
  have ok := CompOk.of (ho ▸ hok)
  rw [exec_Assign_Name_used _ _ _ _ hsw]
  refine wpAny_bind (wpAny_standAt (wpAny_bind ?_))
  show wpAny _ X.A (do let _ ← comprehension (.ListComp elt [⟨tg, iter, ifs, 0⟩] scope pos) scope X.env _ (newList []) false (eval iter X.env) (some (assign (.Name x pos') X.env))) _ _ s
  refine wpAny_bind (wpAny_mono (wpAny_comprehension_free (use := some (assign (.Name x pos') X.env)) (Q := fun _ s' => SP X pins D .next s') rfl hs (clo_of (has_cells I ok)) ok.kind ok.loc
    (thn (hit pins s σ H _ I h) fun xv s₁ h₁ => thn h₁ fun itv s₂ h₂ => ?_)) (fun _ s' hq => wpAny_pure (wpAny_pure hq)) fun _ _ e => e)
  obtain ⟨it, fp, tn, J, H2, rfl, I2, T, st2, f2, hq⟩ := h₂
  refine thn (comp_run (R := fun v H' => D.nx (σ.set i (some v)) H') hc ok hfr hg hi he I2 T st2 f2 hq) fun acc s₃ h₃ => thn h₃ fun cenv s₄ h₄ => codeAny_mono h₄ fun r s' ⟨hr, v, rv, H', m, I', hn, fpo, q⟩ => ?_
  subst hr
  show wpAny _ X.A (assign (.Name x pos') X.env acc) _ _ s'
  refine wpAny_assign_Name (store_ok2 I' hN hx hl rv (fun s'' I'' hch => ?_) hf)
  obtain ⟨a, sb, ha⟩ := hch
  have hCa : cenv.locals ≠ a := by
    rcases ha with z | z
    · rw [z]; exact fpo.2.1
    · exact fun e => fpo.2.2.2.2.1 x a z e.symm
  exact ⟨m, hn.sameBut sb hCa, fun h' sb' => ⟨_, H', I''.sameBut fpo sb', q⟩⟩
end
end L2
end
section
set_option Elab.async false
set_option linter.all false
set_option maxRecDepth 100000
set_option maxHeartbeats 4000000

namespace L2
open PySem PySem.Spec PyProof.Rows

section
variable {prog : Program} {w : World} {A : Around} {E : Value → Shared → Prop} {s : Shared}
theorem nextOf_tuple_item {it l : Addr} {i : Nat} {items} {x : Value} {Q : Value → Shared → Prop} (hit : s.heap.IsTupleIter it l i)
    (hl : s.heap.IsTuple l items) (hx : items[i]? = some x)
    (hQ : ∀ h', h'.IsTupleIter it l (i + 1) → Heap.SameBut it s.heap h' → Q x { s with heap := h' }) :
    wpAny (model prog w) A (Builtin.SmallTypes.nextOf (.ref it)) Q E s := by
  obtain ⟨o, ho, hc, hd⟩ := id hit
  obtain ⟨ol, hol, _, nl, hdl⟩ := hl
  unfold Builtin.SmallTypes.nextOf
  refine wpAny_bind (wpAny_callSpecial?_slot (name := Str.ofString "__next__") hit.typeIs F.slot_tuple_iterator_next
    (wpAny_call_entry F.slot_tuple_iterator_next hit.typeIs F.entry_tuple_iterator_next ?_ (F.args_tuple_iterator_next_1 _)))
  show wpAny _ _ (field (.ref it) 0 >>= _) _ _ s
  refine wpAny_bind (wpAny_field ho hd (x := .ref l) rfl ?_)
  show wpAny _ _ (if (Value.ref l == Value.none) = true then _ else _) _ _ s
  rw [if_neg (show ¬ ((Value.ref l == Value.none) = true) from Bool.false_ne_true)]
  show wpAny _ _ (field (.ref it) 1 >>= _) _ _ s
  refine wpAny_bind (wpAny_field ho hd (x := .int i 0) rfl ?_)
  show wpAny _ _ (seqItems? (.ref l) >>= _) _ _ s
  refine wpAny_bind (wpAny_seqItems hol hdl ?_)
  simp only [Int.toNat_natCast, hx]
  refine wpAny_bind (wpAny_setField ho hd (by simp) (wpAny_pure ⟨x, rfl, wpAny_pure (hQ _ ?_ (Heap.SameBut.update ..))⟩))
  exact ⟨_, Heap.get?_update_self _ ho (Obj.isFreed_of_fields (Obj.data_mapFields hd _)), (Obj.cls_mapFields ..).trans hc, by
    rw [Obj.data_mapFields hd]; simp [rawInt]⟩
theorem nextOf_tuple_end {it l : Addr} {i : Nat} {items} {Q : Value → Shared → Prop} (hh : A.handled = none)
    (hit : s.heap.IsTupleIter it l i) (hl : s.heap.IsTuple l items) (hx : items[i]? = none)
    (hE : ∀ h' e, Heap.ExtBut it s.heap h' → (∃ o, h'.get? e = some o ∧ o.cls = .type "StopIteration") → E (.ref e) { s with heap := h' }) :
    wpAny (model prog w) A (Builtin.SmallTypes.nextOf (.ref it)) Q E s := by
  obtain ⟨o, ho, hc, hd⟩ := id hit
  obtain ⟨ol, hol, _, nl, hdl⟩ := hl
  unfold Builtin.SmallTypes.nextOf
  refine wpAny_bind (wpAny_callSpecial?_slot (name := Str.ofString "__next__") hit.typeIs F.slot_tuple_iterator_next
    (wpAny_call_entry F.slot_tuple_iterator_next hit.typeIs F.entry_tuple_iterator_next ?_ (F.args_tuple_iterator_next_1 _)))
  show wpAny _ _ (field (.ref it) 0 >>= _) _ _ s
  refine wpAny_bind (wpAny_field ho hd (x := .ref l) rfl ?_)
  show wpAny _ _ (if (Value.ref l == Value.none) = true then _ else _) _ _ s
  rw [if_neg (show ¬ ((Value.ref l == Value.none) = true) from Bool.false_ne_true)]
  show wpAny _ _ (field (.ref it) 1 >>= _) _ _ s
  refine wpAny_bind (wpAny_field ho hd (x := .int i 0) rfl ?_)
  show wpAny _ _ (seqItems? (.ref l) >>= _) _ _ s
  refine wpAny_bind (wpAny_seqItems hol hdl ?_)
  simp only [Int.toNat_natCast, hx]
  refine wpAny_bind (wpAny_rule (wpAny_bind (wpAny_setField ho hd (by simp) ?_)))
  show wpAny _ _ (newExc (.type "StopIteration") [] >>= _) _ _ _
  refine wpAny_bind ?_
  simp only [newExc, newTuple]
  refine wpAny_bind (wpAny_newObj_type ?_ (by size_fits))
  refine wpAny_bind (m := firstArgMember _ _) (wpAny_of_eq (a := Value.none) (by first | rfl | (simp only [firstArgMember]; rfl)) ?_)
  refine wpAny_newObj_type ?_ (by size_fits)
  simp only [raiseNew]
  refine wpAny_bind (wpAny_handled ?_)
  first | rw [show A.in1.handled = none from hh] | rw [hh]
  refine wpAny_bind (wpAny_pure (wpAny_throw ?_))
  exact hE _ _ (((Heap.SameBut.update ..).extBut.push _).push _) ⟨_, Heap.get?_push_size _ rfl, rfl⟩
end
theorem draws_tuple {prog : Program} {w : World} {A : Around} (hh : A.handled = none) (it l : Addr) (hne : l ≠ it) (items : Array Value) :
    Draws prog w A it [it, l] items.size (fun i v => items[i]? = some v) (fun i h => h.IsTupleIter it l i ∧ h.IsTuple l items) where
  live := fun _ _ st => let ⟨o, ho, _⟩ := st.1; ⟨o, ho⟩
  frame := fun _ _ _ st hk => ⟨st.1.at fun o e => hk it (by simp) o e, st.2.at fun o e => hk l (by simp) o e⟩
  item := fun i s Q E hi st hQ => by
    refine nextOf_tuple_item st.1 st.2 (x := items[i]) (by simp [hi]) fun h' hit' hs' => ?_
    exact hQ _ h' s.toks (by simp [hi]) ⟨hit', st.2.extBut hs'.extBut hne⟩ hs'
  done := fun s Q E st hE => nextOf_tuple_end hh st.1 st.2 (by simp) hE

section
open AutoSeq1 (wpAny_loadPart')
theorem meets_enumerate_newT (l : Addr) (items : Array Value) (n : Nat) (dct : Option Addr) (sl : Array (Option Value)) :
    Meets (Builtin.«enumerate.__new__» ⟨[.type "enumerate", .ref l], []⟩) (fun _ R s => s.heap.get? l = some { cls := .type "tuple", dict := dct, data := .seq items n, slots := sl } ∧
      R (.ok (.ret (.ref (s.heap.push { cls := .type "tuple_iterator", data := .fields #[.ref l, .int 0 0] }).objs.size)))
        { s with heap := (s.heap.push { cls := .type "tuple_iterator", data := .fields #[.ref l, .int 0 0] }).push { cls := .type "enumerate", data := .fields #[.none, .bool false, .ref s.heap.objs.size, rawInt 0, .none, .none] } }) :=
  .of_wp fun prog w A R s h => by
    obtain ⟨hp, g, d, tk, os⟩ := s; obtain ⟨hl, h⟩ := h
    have hsub := sub_enumerate
    have hL : Heap.IsTuple (Shared.heap ⟨hp, g, d, tk, os⟩) l items := ⟨_, hl, rfl, n, rfl⟩
    wp_walk using wpAny_loadPart' hl
    refine wpAny_stack_any fun st => wpAny_pure ?_
    split
    · rename_i c _ _ _ _ _
      cases (c == Value.type "enumerate")
      · wp_walk using wpAny_loadPart' hl, wpAny_pyIter_tuple hL
        exact ⟨_, rfl, h⟩
      · wp_walk using wpAny_loadPart' hl, wpAny_pyIter_tuple hL
        exact ⟨_, rfl, h⟩
    · wp_walk using wpAny_loadPart' hl, wpAny_pyIter_tuple hL
      exact ⟨_, rfl, h⟩
end
theorem call_enumerate_tuple {prog : Program} {w : World} {A : Around} {E : Value → Shared → Prop} {s : Shared} {l : Addr} {items : Array Value} {Q : Value → Shared → Prop} (hL : s.heap.IsTuple l items)
    (h : ∀ h', IsEnum h' (s.heap.objs.size + 1) s.heap.objs.size 0 .none → h'.IsTupleIter s.heap.objs.size l 0 → h'.objs.size = s.heap.objs.size + 2 →
      (∀ b o, s.heap.get? b = some o → h'.get? b = some o) → Q (.ref (s.heap.objs.size + 1)) { s with heap := h' }) :
    wpAny (model prog w) A (call (.type "enumerate") [.ref l]) Q E s := by
  obtain ⟨⟨c, dct, dt, sl⟩, hl, hc, n, hd⟩ := hL
  replace hc : c = .type "tuple" := hc
  replace hd : dt = .seq items n := hd
  subst hc hd
  refine callType_new F.called_enumerate (by decide) (F.typeCall_enumerate_1 _) (F.newCall_enumerate_1 _) (fun obj => F.args_object_init_2 obj _) F.entry_enumerate_new
    (meets_enumerate_newT l items n dct sl) ⟨hl, ?_⟩
  have hz : (s.heap.push { cls := .type "tuple_iterator", data := .fields #[.ref l, .int 0 0] }).objs.size = s.heap.objs.size + 1 := Heap.size_push ..
  show _ ∧ _
  rw [hz]
  have he : IsEnum ((s.heap.push { cls := .type "tuple_iterator", data := .fields #[.ref l, .int 0 0] }).push
      { cls := .type "enumerate", data := .fields #[.none, .bool false, .ref s.heap.objs.size, rawInt 0, .none, .none] }) (s.heap.objs.size + 1) s.heap.objs.size 0 .none := by
    have := Heap.get?_push_size (s.heap.push { cls := .type "tuple_iterator", data := .fields #[.ref l, .int 0 0] })
      (o := { cls := .type "enumerate", data := .fields #[.none, .bool false, .ref s.heap.objs.size, rawInt 0, .none, .none] }) rfl
    rw [hz] at this; exact this
  refine ⟨⟨_, he, rfl⟩, h _ he ⟨_, Heap.get?_push_of_some _ (Heap.get?_push_size _ rfl), rfl, rfl⟩ (by rw [Heap.size_push, hz]) fun b o x => Heap.get?_push_of_some _ (Heap.get?_push_of_some _ x)⟩

section
variable {X : Cx} {pins : List (Addr × Obj)} {σ : St} {H : Hp} {s : Shared} {h' : Heap}
/-- untracked records of ours have turned -/
theorem Inv.walked {t' : Nat} {wr : List Addr} (I : Inv X pins σ H s) (k : ∀ b o, b ∉ wr → s.heap.get? b = some o → h'.get? b = some o) (hf : ∀ b ∈ wr, FpOk X pins H b) : Inv X pins σ H { s with heap := h', toks := t' } := by
  have nit : ∀ b u, H b = some u → b ∉ wr := fun b u e z => by rw [(hf b z).1] at e; cases e
  refine I.step (g' := s.gens) (d' := s.drawn) (ch := wr) (fun b hb => ?_) (fun b o _ _ hc e _ => k b o hc e) (fun b o _ _ hc e _ => ⟨o.slots, k b o hc e⟩) (fun _ _ _ _ n => n)
    (fun b o hc e => ⟨o, k b o hc e⟩) (fun _ _ e => e) (fun _ _ _ e => e) (fun b ps e => ⟨#[], by rw [e]; simp⟩) (fun m hm => ?_) (fun b u e => ?_) I.bare
  · obtain ⟨f0, f1, f2, f3, f4, f5⟩ := hf b hb
    exact ⟨f3, f1, f4, f5⟩
  · obtain ⟨o, es, ep, ho, r⟩ := hm
    exact ⟨o, es, ep, k _ o (fun z => (hf _ z).2.1 rfl) ho, r⟩
  · refine (I.hok b u e).stay (fun c v hc q => k c v ?_ q) (fun _ q => q) fun _ _ q => q
    rcases hc with z | z
    · rw [z]; exact nit b u e
    · exact nit c _ z
/-- an untracked object of ours is tracked from here on -/
theorem Inv.track {a : Addr} {o : HO} (I : Inv X pins σ H s) (f : FpOk X pins H a) (new : ObjOk X.prog X.w (upd H a o) s.heap a o) : Inv X pins σ (upd H a o) s := by
  obtain ⟨f0, f1, f2, f3, f4, f5⟩ := f
  have ne : ∀ b u, H b = some u → b ≠ a := fun b u e z => by rw [z, f0] at e; cases e
  obtain ⟨hh, g, d, t, os⟩ := s
  refine I.step (h' := hh) (g' := g) (d' := d) (t' := t) (ch := [a]) (fun b hb => ?_) (fun b o _ _ _ e _ => e) (fun b o _ _ _ e _ => ⟨o.slots, e⟩) (fun b o hc _ n => ?_) (fun b o _ e => ⟨o, e⟩)
    (fun b xs e => ?_) (fun b u xs e => ?_) (fun b ps e => ⟨#[], ?_⟩) (fun m hm => hm) (fun b u e => ?_) I.bare
  · have e : b = a := by simpa using hb
    subst e
    exact ⟨f3, f1, f4, f5⟩
  · rw [upd_ne (fun z => hc (by simp [z]))]; exact n
  · rw [upd_ne (ne b _ e)]; exact e
  · rw [upd_ne (ne b _ e)]; exact e
  · rw [upd_ne (ne b _ e), e]; simp
  · by_cases hb : b = a
    · subst hb; rw [upd_same] at e; cases e; exact new
    · rw [upd_ne hb] at e
      exact (I.hok b u e).stay (fun _ _ _ q => q) (fun c q => by rw [upd_ne (ne c _ q)]; exact q) fun c xs q => by rw [upd_ne (ne c _ q)]; exact q
end

/-- the pairs (i, xs[i]), each a new tuple; S: what is known of the list or tuple -/
def Ien (S : Hp → List V → Prop) : It :=
  ⟨fun i H => ∃ xs x, S H xs ∧ xs[i]? = some x, fun i H v H' => ∃ T x, v = .ref T ∧ H T = none ∧ H' = upd H T (.tup [.int i, x]) ∧ ∀ xs, S H xs → xs[i]? = some x, fun i H => ∃ xs, S H xs ∧ xs.length = i⟩
theorem enum_turn {P : Program} {w : World} {K : PySem.W.Frag} {elts : List Expr} {k : Nat} {tp : Pos} {S : Hp → List V → Prop} {e it l : Addr} {St0 : Nat → Heap → Prop}
    (hei : e ≠ it)
    (obj : ∀ i h, St0 i h → ∃ o, h.get? it = some o ∧ ∀ v, o.data ≠ .cell v)
    (keep : ∀ i h h', St0 i h → (∀ o, h.get? it = some o → h'.get? it = some o) → St0 i h')
    (drw : ∀ (X : Cx), X.prog = P → X.w = w → X.K = K → X.calm = true → ∀ (i : Nat) (pins : List (Addr × Obj)) (s : Shared) (σ : St) (H : Hp) (xs : List V), Inv X pins σ H s → St0 i s.heap → (∃ old, IsEnum s.heap e it i old) → S H xs →
      ∃ (its : List Value) (fp : List Addr) (St : Nat → Heap → Prop), Vals xs its ∧ Draws P w X.A.in1 it fp its.toArray.size (fun i v => its.toArray[i]? = some v) St ∧ St i s.heap ∧ e ∉ fp ∧ it ∈ fp ∧ (∀ j h, St j h → St0 j h))
    (inj : ∀ (X : Cx), X.K = K → ∀ (pins : List (Addr × Obj)) (s : Shared) (σ : St) (H : Hp) (xs ys : List V), Inv X pins σ H s → S H xs → S H ys → xs = ys) :
    Turn P w K (.Tuple elts k tp) (Ien S) [e, it] e (fun i h => (∃ old, IsEnum h e it i old) ∧ St0 i h) where
  mem := by simp
  obj := fun i h st b hb => by
    obtain ⟨⟨old, he⟩, hs⟩ := st
    rcases List.mem_cons.mp hb with rfl | hb
    · exact ⟨_, he, fun v z => by
        have z' : Data.fields _ = Data.cell v := z
        cases z'⟩
    · have e1 : b = it := by simpa using hb
      subst e1
      exact obj i h hs
  keep := fun i h h' st k => ⟨let ⟨old, he⟩ := st.1; ⟨old, k e (by simp) _ he⟩, keep i h h' st.2 fun o q => k it (by simp) o q⟩
  item := by
    intro X hP hw hK hc i pins s σ H E I hf st hg
    obtain ⟨xs, x, hq, hx⟩ := hg
    obtain ⟨its, fp, St, rv, Dr, hst, hef, hif, hback⟩ := drw X hP hw hK hc i pins s σ H xs I st.2 st.1 hq
    subst hP hw
    obtain ⟨u, hu, ru⟩ := rv.get hx
    have hi : i < its.toArray.size := by rw [List.size_toArray]; exact (List.getElem?_eq_some_iff.mp hu).1
    have hu' : its.toArray[i]? = some u := by simpa using hu
    have WT := WalksT.enumerateD Dr e hei hef hif
    refine WT.item i s _ _ hi ⟨st.1, hst⟩ fun T vals h' tk hPt hsz hT hmid hk => ⟨.ref T, rfl, ?_⟩
    obtain ⟨t, y, hy, rfl⟩ := hPt
    have hTw : T ∉ [e, it] := WT.apart i T _ hmid
    rw [hu'] at hy
    have hy' : u = y := Option.some.inj hy
    subst hy'
    have hwr : ∀ b ∈ [e, it], FpOk X pins H b := hf
    have I1 : Inv X pins σ H { s with heap := h', toks := tk } := I.walked hk hwr
    have hTn : H T = none := I.hok.fresh hsz
    have I2 : Inv X pins σ (upd H T (.tup [.int i, x])) { s with heap := h', toks := tk } := by
      refine I1.track (I.fpOk hsz hTn) ⟨by show 2 ≤ sizeLine; decide, [.int i t, u], .cons ⟨t, rfl⟩ (.cons ru .nil), ?_⟩
      exact hT
    have hwr2 : ∀ b ∈ [e, it], FpOk X pins (upd H T (.tup [.int i, x])) b := fun b hb => by
      obtain ⟨f0, fr⟩ := hf b hb
      have ne : b ≠ T := fun z => hTw (by rw [← z]; exact hb)
      exact ⟨by rw [upd_ne ne]; exact f0, fr⟩
    refine WT.go elts k tp i T _ _ _ hmid fun h'' hst'' hk'' => ?_
    refine ⟨.ref T, _, I2.walked (t' := tk) hk'' hwr2, rfl, ⟨T, x, rfl, hTn, rfl, fun ys hy => by rw [inj X hK pins s σ H ys xs I hy hq]; exact hx⟩, ⟨hst''.1, hback _ _ hst''.2⟩, fun b hb => (hwr2 b hb).1⟩
  done := by
    intro X hP hw hK hc i pins s σ H E I hf st hg
    obtain ⟨xs, hq, hx⟩ := hg
    obtain ⟨its, fp, St, rv, Dr, hst, hef, hif, hback⟩ := drw X hP hw hK hc i pins s σ H xs I st.2 st.1 hq
    subst hP hw
    have hl := rv.length
    have hi : i = its.toArray.size := by rw [List.size_toArray]; omega
    subst hi
    exact (WalksT.enumerateD Dr e hei hef hif).done s _ _ ⟨st.1, hst⟩ fun h' tk hk => ⟨rfl, I.walked hk hf⟩
  self := fun A i s Q E st h => by
    obtain ⟨⟨old, he⟩, _⟩ := st
    exact wpAny_pyIter_enum he h

theorem ne_cls {h : Heap} {a b : Addr} {o u : Obj} (ha : h.get? a = some o) (hb : h.get? b = some u) (hc : o.cls ≠ u.cls) : a ≠ b := fun e => by
  subst e; rw [ha] at hb; cases hb; exact hc rfl
theorem turn_enumT {P : Program} {w : World} {K : PySem.W.Frag} {elts : List Expr} {k : Nat} {tp : Pos} {e it a : Addr} (hei : e ≠ it) :
    Turn P w K (.Tuple elts k tp) (Ien fun H xs => SqT K H a xs) [e, it] e (fun i h => (∃ old, IsEnum h e it i old) ∧ h.IsTupleIter it a i) := by
  refine enum_turn (l := a) hei (fun i h st => ?_) (fun i h h' st k => st.at k) (fun X hP hw hK hc i pins s σ H xs I st he hq => ?_) (fun X hK pins s σ H xs ys I h1 h2 => ?_)
  · obtain ⟨o, e, c, d⟩ := st
    exact ⟨o, e, fun v z => by rw [d] at z; cases z⟩
  · subst hP hw hK
    obtain ⟨its, rv, p, hz⟩ := I.tuple hq
    obtain ⟨old, he⟩ := he
    obtain ⟨ol, hol, hcl, _⟩ := id p
    obtain ⟨oi, hoi, hci, _⟩ := id st
    have h1 : a ≠ it := ne_cls hol hoi (by rw [hcl, hci]; decide)
    have h2 : e ≠ a := ne_cls he hol (by rw [hcl]; show Value.type "enumerate" ≠ Value.type "tuple"; decide)
    exact ⟨its, [it, a], _, rv, draws_tuple (A := X.A.in1) (I.ok.hd hc) it a h1 its.toArray, ⟨st, p⟩, by simp [hei, h2], by simp, fun j h z => z.1⟩
  · subst hK
    exact I.tuple_inj h1 h2
section
variable {X : Cx} {elts : List Expr} {k : Nat} {tp : Pos}
def iEnT (K : PySem.W.Frag) (ta : TA) : TI := fun σ H R => ta σ H fun vs H1 => ∃ a, vs = [.ref a] ∧ (∃ xs, SqT K H1 a xs) ∧ R (Ien fun H xs => SqT K H a xs) H1
theorem pi_enumT {l : Expr} {ta : TA} {p pos : Pos} (hg : Gl X "enumerate") (hm : X.mg "enumerate" = none) (ha : PA X [l] ta) (hs : starEach [l] X.env = [(false, eval l X.env)] := by rfl) :
    PI X (.Tuple elts k tp) (.Call (.Name "enumerate" p) [l] [] pos) (iEnT X.K ta) := by
  intro pins s σ H R I h
  refine Call_ (ld_blt I hg hm boot_enumerate (PyProof.Rows.callWith_type1 (thn (ha pos pins s σ H _ I h) fun us s1 ⟨vs, H1, I1, r1, q1⟩ => ?_) hs rfl))
  obtain ⟨a, rfl, ⟨xs, hq⟩, q⟩ := q1
  obtain ⟨u, rfl, ru⟩ := r1.one
  cases ru
  obtain ⟨its, rv, pl, hz⟩ := I1.tuple hq
  refine call_enumerate_tuple pl fun h' he hit hsz hk => wpAny_pyIter_enum he ?_
  have I2 : Inv X pins σ H1 { s1 with heap := h' } := I1.kept (t' := s1.toks) hk
  refine ⟨s1.heap.objs.size + 1, [s1.heap.objs.size + 1, s1.heap.objs.size], _, _, H1, rfl, I2, turn_enumT (Nat.succ_ne_self _), ⟨⟨_, he⟩, hit⟩, fun b hb => ?_, q⟩
  have e : s1.heap.objs.size ≤ b := by
    rcases List.mem_cons.mp hb with rfl | hb
    · exact Nat.le_succ _
    · rw [List.mem_singleton.mp hb]; exact Nat.le_refl _
  exact I1.fpOk e (I1.hok.fresh e)
end

theorem turns_by {J : It} {D : Addr} {g : TG} {tc : TT} {te : TE} {R : Hp → Prop} {τ : St} {H : Hp} (n : Nat) (Pv : Nat → St → Hp → Prop) (h0 : Pv 0 τ H) (hgo : ∀ i τ H, i < n → Pv i τ H → J.go i H) (hstop : ∀ τ H, Pv n τ H → J.stop n H)
    (hs : ∀ i τ H x H', i < n → Pv i τ H → J.yld i H x H' → g x τ H' fun τ2 H2 => tc τ2 H2 fun b H3 => if b = true then te τ2 H3 fun v H4 => ∃ ys, H4 D = some (.lst ys) ∧ ys.length < sizeLine ∧ Pv (i + 1) τ2 (upd H4 D (.lst (ys ++ [v]))) else Pv (i + 1) τ2 H3)
    (hd : ∀ τ H, Pv n τ H → R H) : tTurns J D g tc te R τ H := by
  refine ⟨fun i m τ H => m = n - i ∧ i ≤ n ∧ Pv i τ H, ⟨n, by simp, Nat.zero_le _, h0⟩, ?_⟩
  rintro i m τ H ⟨rfl, hi, p⟩
  by_cases hlt : i < n
  · exact .inr ⟨hgo i τ H hlt p, Pv (i + 1), fun τ' H' p' => ⟨n - (i + 1), by omega, rfl, hlt, p'⟩, fun x H' y => hs i τ H x H' hlt p y⟩
  · have e : i = n := by omega
    subst e
    exact .inl ⟨hstop τ H p, hd τ H p⟩
theorem for_by {J : It} {g : TG} {tb : TS} {D : Ends} {σ : St} {H : Hp} (n : Nat) (Pv : Nat → St → Hp → Prop) (h0 : Pv 0 σ H) (hgo : ∀ i σ H, i < n → Pv i σ H → J.go i H) (hstop : ∀ σ H, Pv n σ H → J.stop n H)
    (hs : ∀ i σ H x H', i < n → Pv i σ H → J.yld i H x H' → g x σ H' fun σ2 H2 => tb { D with nx := Pv (i + 1), ct := Pv (i + 1), bk := D.nx } σ2 H2) (hd : ∀ σ H, Pv n σ H → D.nx σ H) :
    ∃ W : Nat → Nat → St → Hp → Prop, (∃ m, W 0 m σ H) ∧ ∀ i m σ H, W i m σ H →
      (J.stop i H ∧ D.nx σ H) ∨ (J.go i H ∧ ∃ N : St → Hp → Prop, (∀ σ' H', N σ' H' → ∃ m', m' < m ∧ W (i + 1) m' σ' H') ∧ ∀ x H', J.yld i H x H' → g x σ H' fun σ2 H2 => tb { D with nx := N, ct := N, bk := D.nx } σ2 H2) := by
  refine ⟨fun i m σ H => m = n - i ∧ i ≤ n ∧ Pv i σ H, ⟨n, by simp, Nat.zero_le _, h0⟩, ?_⟩
  rintro i m σ H ⟨rfl, hi, p⟩
  by_cases hlt : i < n
  · exact .inr ⟨hgo i σ H hlt p, Pv (i + 1), fun σ' H' p' => ⟨n - (i + 1), by omega, rfl, hlt, p'⟩, fun x H' y => hs i σ H x H' hlt p y⟩
  · have e : i = n := by omega
    subst e
    exact .inl ⟨hstop σ H p, hd σ H p⟩

section
variable {prog : Program} {w : World} {A : Around} {E : Value → Shared → Prop} {s : Shared}
theorem collect_tuple {l : Addr} {vs : List Value} {Q : List Value → Shared → Prop} (hl : s.heap.IsTuple l vs.toArray)
    (h : Q vs { s with heap := (s.heap.push (seqObj "list" #[] 0)).update s.heap.objs.size (Obj.mapSeq (· ++ vs.toArray)) }) (hsz : vs.length ≤ sizeLine := by size_fits) :
    wpAny (model prog w) A (collect (.ref l)) Q E s := by
  obtain ⟨o, ho, hc, n, hd⟩ := id hl
  unfold collect
  refine wpAny_bind (wpAny_runValue (codeAny_builtin entry_proto_collect' ?_))
  show wpAny _ _ (do again (.builtin "list.__iadd__" ⟨[← newList [], .ref l], []⟩)) _ _ s
  refine wpAny_bind (wpAny_newList (wpAny_pure ⟨Code.quiet_builtin _ (by decide +kernel), codeAny_builtin entry_list_iadd' ?_⟩))
  show wpAny _ _ (Builtin.List.listExtendWith (.ref s.heap.objs.size) (.ref l) (.ref s.heap.objs.size)) _ _ { s with heap := s.heap.push (seqObj "list" #[] 0) }
  unfold Builtin.List.listExtendWith
  have ho' : (s.heap.push (seqObj "list" #[] 0)).get? l = some o := Heap.get?_push_of_some _ ho
  refine wpAny_bind (wpAny_typeOf (T := "tuple") ⟨o, ho', hc⟩ ?_)
  have ht : (Value.type "tuple" == Value.type "tuple") = true := by rfl
  rw [if_pos (by rw [ht]; simp)]
  refine wpAny_bind (listItems_at ho' hd ?_)
  refine wpAny_bind (listItems_at (xs := #[]) (n := 0) (Heap.get?_push_size _ rfl) rfl ?_)
  rw [if_neg (by simp)]
  refine wpAny_bind (listUpdate_at (xs := #[]) (n := 0) (Heap.get?_push_size _ rfl) rfl ?_ (Nat.zero_le _) (by show (#[] ++ vs.toArray).size ≤ sizeLine + 1; simp only [Array.size_append, List.size_toArray, List.length_nil]; omega))
  refine wpAny_pure ?_
  show wpAny (model prog w) A (do
      let o ← load s.heap.objs.size
      match o.data with
      | .seq xs _ => pure xs.toList
      | _ => unsupported "internal:collect") Q E { s with heap := (s.heap.push (seqObj "list" #[] 0)).update s.heap.objs.size (Obj.mapSeq (· ++ vs.toArray)) }
  refine wpAny_bind (wpAny_load (get?_update_seq (Heap.get?_push_size _ rfl) _) ?_)
  show wpAny _ _ (pure ((#[] : Array Value) ++ vs.toArray).toList) Q E _
  rw [show ((#[] : Array Value) ++ vs.toArray).toList = vs by simp]
  exact wpAny_pure h
theorem sorted_tuple {l : Addr} {vs : List Value} {ns : List Int} {Q : Value → Shared → Prop} (hl : s.heap.IsTuple l vs.toArray) (hI : IntsAre vs ns) (h64 : vs.length < 64)
    (h : ∀ (out : Array Value) (ns' : List Int), IntsAre out.toList ns' → ns'.Perm ns → ns'.Pairwise (· ≤ ·) → Q (.ref (s.heap.objs.size + 1)) { s with heap := sortedAll s.heap vs out }) :
    wpAny (model prog w) A (call (.builtin "sorted") [.ref l]) Q E s := by
  refine Calls.call_function_entry kind_sorted plain_sorted entry_sorted (args_sorted1 _) ?_
  unfold Builtin.«sorted»
  refine wpAny_bind (m := checkCount "sorted" 1 1 _) (wpAny_pure ?_)
  refine wpAny_bind (collect_tuple hl ?_ (by have : (64 : Nat) ≤ sizeLine := by decide
                                             omega))
  refine wpAny_bind (wpAny_newList ?_)
  have hsz : ((s.heap.push (seqObj "list" #[] 0)).update s.heap.objs.size (Obj.mapSeq (· ++ vs.toArray))).objs.size = s.heap.objs.size + 1 := by
    rw [Heap.size_update, size_push']
  have hoL : (((s.heap.push (seqObj "list" #[] 0)).update s.heap.objs.size (Obj.mapSeq (· ++ vs.toArray))).push (seqObj "list" vs.toArray 0)).get? (s.heap.objs.size + 1) = some (seqObj "list" vs.toArray 0) := by
    rw [← hsz]; exact Heap.get?_push_size _ rfl
  show wpAny _ _ _ _ _ { s with heap := ((s.heap.push (seqObj "list" #[] 0)).update s.heap.objs.size (Obj.mapSeq (· ++ vs.toArray))).push (seqObj "list" vs.toArray 0) }
  rw [hsz]
  refine wpAny_bind (wpAny_holding (wpAny_call_entry slot_list_sort ⟨_, hoL, rfl⟩ entry_list_sort (list_sort_tree hoL hI h64 fun out ns' a1 a2 a3 => ⟨_, rfl, ?_⟩) (args_list_sort _)))
  exact wpAny_pure ⟨_, rfl, h out ns' a1 a2 a3⟩
end
section
variable {X : Cx}
def rSorted (K : PySem.W.Frag) : List V → Hp → VK → Prop := fun xs H Q => ∃ (p : Addr) (ns : List Int), xs = [.ref p] ∧ (SqL K H p (ns.map V.int) ∨ SqT K H p (ns.map V.int)) ∧ ns.length < 64 ∧ ∀ (l : Addr) (ms : List Int), H l = none → ms.Perm ns → ms.Pairwise (· ≤ ·) → Q (.ref l) (upd H l (.lst (ms.map V.int)))
theorem vals_intsAre : ∀ {us : List Value} {ns : List Int}, IntsAre us ns → Vals (ns.map V.int) us
  | _, _, .nil => .nil
  | _, _, .cons n t r => .cons ⟨t, rfl⟩ (vals_intsAre r)
theorem call_sorted : CallR X (.builtin "sorted") (rSorted X.K) := by
  intro pins s σ H xs us Q I r h
  obtain ⟨p, ns, rfl, hq, h64, q⟩ := h
  obtain ⟨u, rfl, ru⟩ := r.one
  cases ru
  have fin : ∀ (its : List Value) (out : Array Value) (ms : List Int), IntsAre out.toList ms → ms.Perm ns → ms.Pairwise (· ≤ ·) → EP X pins σ Q (.ref (s.heap.objs.size + 1)) { s with heap := sortedAll s.heap its out } := fun its out ms a1 a2 a3 => by
    obtain ⟨e, he⟩ := sortedAll_at s.heap its out
    have hn : H (s.heap.objs.size + 1) = none := I.hok.fresh (Nat.le_succ _)
    have hv := vals_intsAre a1
    have hms : ms.length = ns.length := a2.length_eq
    refine ⟨.ref (s.heap.objs.size + 1), _, I.laid (a := s.heap.objs.size + 1) (o := .lst (ms.map V.int)) (t' := s.toks) (fun b o => sortedAll_old) (Nat.le_succ _) ⟨?_, out.toList, e, hv, ?_⟩, rfl, q _ ms hn a2 a3⟩
    · rw [List.length_map, hms]
      exact Nat.le_trans (Nat.le_of_lt h64) (by decide)
    · rw [Array.toArray_toList]
      exact he
  rcases hq with hq | hq
  · obtain ⟨its, rv, pl, hz⟩ := I.list hq
    have hl := rv.length
    rw [List.length_map] at hl
    exact sorted_ints pl.isList (intsAre_of rv) (by omega) fun out ms a1 a2 a3 => fin its out ms a1 a2 a3
  · obtain ⟨its, rv, pl, hz⟩ := I.tuple hq
    have hl := rv.length
    rw [List.length_map] at hl
    exact sorted_tuple pl (intsAre_of rv) (by omega) fun out ms a1 a2 a3 => fin its out ms a1 a2 a3

theorem isi_list : CallR X (.builtin "isinstance") (fun xs H Q => ∃ p ys, xs = [.ref p, .ty "list"] ∧ SqL X.K H p ys ∧ Q (.bl true) H) := by
  intro pins s σ H xs us Q I r h
  obtain ⟨p, ys, rfl, hq, q⟩ := h
  obtain ⟨u, v, rfl, ru, rv⟩ := r.two
  cases ru; cases rv
  obtain ⟨its, _, ⟨o, n, ho, hc, _⟩, _⟩ := I.list hq
  exact IsiPair.list_list ho hc ⟨.bl true, H, I, rfl, q⟩
theorem isi_intbool : CallR X (.builtin "isinstance") (fun xs H Q => ∃ i, xs = [.int i, .ty "bool"] ∧ Q (.bl false) H) := by
  intro pins s σ H xs us Q I r h
  obtain ⟨i, rfl, q⟩ := h
  obtain ⟨u, v, rfl, ⟨t, rfl⟩, rv⟩ := r.two
  cases rv
  exact IsiPair.int_bool ⟨.bl false, H, I.tok _, rfl, q⟩

theorem min_pair (hc : X.calm = true) : CallR X (.builtin "min") (fun xs H Q => ∃ p a b, xs = [.ref p] ∧ SqT X.K H p [.int a, .int b] ∧ Q (.int (if b < a then b else a)) H) := by
  intro pins s σ H xs us Q I r h
  obtain ⟨p, a, b, rfl, hq, q⟩ := h
  obtain ⟨u0, rfl, ru⟩ := r.one
  cases ru
  obtain ⟨its, rv, pl, hz⟩ := I.tuple hq
  obtain ⟨u1, u2, rfl, ⟨t, rfl⟩, ⟨u, rfl⟩⟩ := rv.two
  have hT : s.heap.IsTuple p (intItems #[(a, t), (b, u)]) := by
    have e : (intItems #[(a, t), (b, u)]) = [Value.int a t, Value.int b u].toArray := by simp [intItems]
    rw [e]; exact pl
  have hlt : p < s.heap.objs.size := by obtain ⟨_, e, _⟩ := hT; exact Heap.lt_size e
  refine call_min_walk (wpAny_pyIter_tuple hT ?_)
  refine ⟨_, [_, p], [_], _, _, _, _, rfl, Walks.tuple (A := X.A.in1) (I.ok.hd hc) _ p (Nat.ne_of_lt hlt) (intItems #[(a, t), (b, u)]),
    ⟨⟨_, Heap.get?_push_size _ rfl, rfl, rfl⟩, hT.push _⟩, fun c hc => ?_, by simp [intItems], CmpOf.ints_lt (numAt #[(a, t), (b, u)]) (fun _ _ => intItems_at), fun v h' tk hP hk => ?_⟩
  · show c < (s.heap.push _).objs.size
    rw [Heap.size_push]
    rcases List.mem_cons.mp hc with rfl | hc
    · exact Nat.lt_succ_self _
    · rcases List.mem_cons.mp hc with rfl | hc
      · exact Nat.lt_succ_of_lt hlt
      · cases hc
  · have hold : ∀ c o, s.heap.get? c = some o → h'.get? c = some o := fun c o e => by
      refine hk c o (fun hm => ?_) (Heap.get?_push_of_some _ e)
      rcases List.mem_cons.mp hm with e1 | hm
      · have := Heap.lt_size e; rw [e1] at this; exact Nat.lt_irrefl _ this
      · cases hm
    have hv : v = if b < a then Value.int b u else Value.int a t := by
      have hP' : (intItems #[(a, t), (b, u)])[argBest (fun i j => decide (numAt #[(a, t), (b, u)] i < numAt #[(a, t), (b, u)] j)) 1]? = some v := by
        have hsz2 : (intItems #[(a, t), (b, u)]).size - 1 = 1 := by simp [intItems]
        rw [← hsz2]; exact hP
      by_cases hba : b < a
      · have e : argBest (fun i j => decide (numAt #[(a, t), (b, u)] i < numAt #[(a, t), (b, u)] j)) 1 = 1 := by simp [argBest, numAt, hba]
        rw [e] at hP'
        simpa [intItems, hba] using hP'.symm
      · have e : argBest (fun i j => decide (numAt #[(a, t), (b, u)] i < numAt #[(a, t), (b, u)] j)) 1 = 0 := by simp [argBest, numAt, hba]
        rw [e] at hP'
        simpa [intItems, hba] using hP'.symm
    refine ⟨_, H, I.kept hold, ?_, q⟩
    rw [hv]
    by_cases hj : b < a
    · rw [if_pos hj, if_pos hj]; exact ⟨_, rfl⟩
    · rw [if_neg hj, if_neg hj]; exact ⟨_, rfl⟩
theorem max_pair (hc : X.calm = true) : CallR X (.builtin "max") (fun xs H Q => ∃ p a b, xs = [.ref p] ∧ SqT X.K H p [.int a, .int b] ∧ Q (.int (if b > a then b else a)) H) := by
  intro pins s σ H xs us Q I r h
  obtain ⟨p, a, b, rfl, hq, q⟩ := h
  obtain ⟨u0, rfl, ru⟩ := r.one
  cases ru
  obtain ⟨its, rv, pl, hz⟩ := I.tuple hq
  obtain ⟨u1, u2, rfl, ⟨t, rfl⟩, ⟨u, rfl⟩⟩ := rv.two
  have hT : s.heap.IsTuple p (intItems #[(a, t), (b, u)]) := by
    have e : (intItems #[(a, t), (b, u)]) = [Value.int a t, Value.int b u].toArray := by simp [intItems]
    rw [e]; exact pl
  have hlt : p < s.heap.objs.size := by obtain ⟨_, e, _⟩ := hT; exact Heap.lt_size e
  refine call_max_walk (wpAny_pyIter_tuple hT ?_)
  refine ⟨_, [_, p], [_], _, _, _, _, rfl, Walks.tuple (A := X.A.in1) (I.ok.hd hc) _ p (Nat.ne_of_lt hlt) (intItems #[(a, t), (b, u)]),
    ⟨⟨_, Heap.get?_push_size _ rfl, rfl, rfl⟩, hT.push _⟩, fun c hc => ?_, by simp [intItems], CmpOf.ints_gt (numAt #[(a, t), (b, u)]) (fun _ _ => intItems_at), fun v h' tk hP hk => ?_⟩
  · show c < (s.heap.push _).objs.size
    rw [Heap.size_push]
    rcases List.mem_cons.mp hc with rfl | hc
    · exact Nat.lt_succ_self _
    · rcases List.mem_cons.mp hc with rfl | hc
      · exact Nat.lt_succ_of_lt hlt
      · cases hc
  · have hold : ∀ c o, s.heap.get? c = some o → h'.get? c = some o := fun c o e => by
      refine hk c o (fun hm => ?_) (Heap.get?_push_of_some _ e)
      rcases List.mem_cons.mp hm with e1 | hm
      · have := Heap.lt_size e; rw [e1] at this; exact Nat.lt_irrefl _ this
      · cases hm
    have hv : v = if b > a then Value.int b u else Value.int a t := by
      have hP' : (intItems #[(a, t), (b, u)])[argBest (fun i j => decide (numAt #[(a, t), (b, u)] i > numAt #[(a, t), (b, u)] j)) 1]? = some v := by
        have hsz2 : (intItems #[(a, t), (b, u)]).size - 1 = 1 := by simp [intItems]
        rw [← hsz2]; exact hP
      by_cases hba : b > a
      · have e : argBest (fun i j => decide (numAt #[(a, t), (b, u)] i > numAt #[(a, t), (b, u)] j)) 1 = 1 := by simp [argBest, numAt, hba]
        rw [e] at hP'
        simpa [intItems, hba] using hP'.symm
      · have e : argBest (fun i j => decide (numAt #[(a, t), (b, u)] i > numAt #[(a, t), (b, u)] j)) 1 = 0 := by simp [argBest, numAt, hba]
        rw [e] at hP'
        simpa [intItems, hba] using hP'.symm
    refine ⟨_, H, I.kept hold, ?_, q⟩
    rw [hv]
    by_cases hj : b > a
    · rw [if_pos hj, if_pos hj]; exact ⟨_, rfl⟩
    · rw [if_neg hj, if_neg hj]; exact ⟨_, rfl⟩
end
end L2
end
section
set_option Elab.async false
set_option linter.all false
set_option maxRecDepth 100000
set_option maxHeartbeats 4000000

namespace L2
open PySem PySem.Spec PyProof.Rows

abbrev Rep (α : Type) := Hp → α → V → Prop
def rInt : Rep Int := fun _ i v => v = .int i
def rTup (K : PySem.W.Frag) {α : Type} (R : Rep α) : Rep (List α) := fun H as v => ∃ p xs, v = .ref p ∧ SqT K H p xs ∧ Paired (R H) as xs
def rLst (K : PySem.W.Frag) {α : Type} (R : Rep α) : Rep (List α) := fun H as v => ∃ p xs, v = .ref p ∧ SqL K H p xs ∧ Paired (R H) as xs

theorem Paired.get {α β : Type} {F : α → β → Prop} : ∀ {l₁ : List α} {l₂ : List β} {i : Nat} {b : β}, Paired F l₁ l₂ → l₂[i]? = some b → ∃ a, l₁[i]? = some a ∧ F a b
  | _, _, _, _, .nil, e => by simp at e
  | _, _, 0, _, .cons r _, e => by simp at e; subst e; exact ⟨_, rfl, r⟩
  | _, _, i + 1, b, .cons _ t, e => by
    obtain ⟨a, h1, h2⟩ := Paired.get (i := i) (b := b) t (by simpa using e)
    exact ⟨a, by simpa using h1, h2⟩
theorem Paired.getL {α β : Type} {F : α → β → Prop} : ∀ {l₁ : List α} {l₂ : List β} {i : Nat} {a : α}, Paired F l₁ l₂ → l₁[i]? = some a → ∃ b, l₂[i]? = some b ∧ F a b
  | _, _, _, _, .nil, e => by simp at e
  | _, _, 0, _, .cons r _, e => by simp at e; subst e; exact ⟨_, rfl, r⟩
  | _, _, i + 1, a, .cons _ t, e => by
    obtain ⟨b, h1, h2⟩ := Paired.getL (i := i) (a := a) t (by simpa using e)
    exact ⟨b, by simpa using h1, h2⟩
theorem Paired.app {α β : Type} {F : α → β → Prop} : ∀ {l₁ m₁ : List α} {l₂ m₂ : List β}, Paired F l₁ l₂ → Paired F m₁ m₂ → Paired F (l₁ ++ m₁) (l₂ ++ m₂)
  | _, _, _, _, .nil, s => s
  | _, _, _, _, .cons r t, s => .cons r (Paired.app t s)
theorem Paired.one {α β : Type} {F : α → β → Prop} {a : α} {b : β} (h : F a b) : Paired F [a] [b] := .cons h .nil
theorem Paired.uniq {α β : Type} {F : α → β → Prop} (fn : ∀ a a' b, F a b → F a' b → a = a') : ∀ {l₁ l₁' : List α} {l₂ : List β}, Paired F l₁ l₂ → Paired F l₁' l₂ → l₁ = l₁'
  | _, _, _, .nil, .nil => rfl
  | _, _, _, .cons r t, .cons r' t' => by rw [fn _ _ _ r r', Paired.uniq fn t t']
theorem paired_ints {H : Hp} : ∀ (ns : List Int), Paired (rInt H) ns (ns.map V.int)
  | [] => .nil
  | _ :: r => .cons rfl (paired_ints r)
theorem ints_paired {H : Hp} : ∀ {ns : List Int} {xs : List V}, Paired (rInt H) ns xs → xs = ns.map V.int
  | _, _, .nil => rfl
  | _, _, .cons r t => by rw [List.map_cons, ← ints_paired t]; exact congrArg (· :: _) r

/-- a datum can be told from another, and is the only one that a value stands for -/
structure Dat (X : Cx) {α : Type} [DecidableEq α] (n : Nat) (R : Rep α) : Prop where
  eq : ∀ (pins : List (Addr × Obj)) (s : Shared) (σ : St) (H : Hp) (A : Around) (a b : α) (x y : V) (u v : Value), Inv X pins σ H s → A.units + n < cLine → R H a x → R H b y → RelV x u → RelV y v → SeqAt.EqAt A s u v (decide (a = b))
  fn : ∀ (pins : List (Addr × Obj)) (s : Shared) (σ : St) (H : Hp) (a b : α) (x : V), Inv X pins σ H s → R H a x → R H b x → a = b
section
variable {X : Cx} {α : Type} [DecidableEq α] {n : Nat} {R : Rep α}
theorem dat_int : Dat X 0 rInt where
  eq := fun pins s σ H A a b x y u v I hu ha hb ru rv => by
    cases ha; cases hb
    obtain ⟨t, rfl⟩ := ru
    obtain ⟨t', rfl⟩ := rv
    have e := SeqAt.EqAt.int_int (A := A) (s := s) a t b t'
    rw [Bool.beq_eq_decide_eq] at e
    exact e
  fn := fun pins s σ H a b x I ha hb => by
    cases ha
    exact (V.int.inj hb)
/-- place by place -/
theorem all_places {as bs : List α} {m k : Nat} (h1 : as.length = m) (h2 : bs.length = k) : ((List.range (min m k)).all (fun j => decide (as[j]? = bs[j]?)) && m == k) = decide (as = bs) := by
  subst h1; subst h2
  by_cases e : as = bs
  · subst e
    simp
  · rw [decide_eq_false e]
    cases q : ((List.range (min as.length bs.length)).all (fun j => decide (as[j]? = bs[j]?)) && as.length == bs.length) with
    | false => rfl
    | true =>
      rw [Bool.and_eq_true] at q
      obtain ⟨q1, q2⟩ := q
      have hl : as.length = bs.length := by simpa using q2
      refine absurd (List.ext_getElem? fun j => ?_) e
      by_cases hj : j < as.length
      · exact of_decide_eq_true (List.all_eq_true.mp q1 j (List.mem_range.mpr (by omega)))
      · rw [List.getElem?_eq_none (by omega), List.getElem?_eq_none (by omega)]
theorem all_places' {as bs : List α} {m : Nat} (h1 : as.length = m) (h2 : bs.length = m) : ((List.range m).all (fun j => decide (as[j]? = bs[j]?))) = decide (as = bs) := by
  have e := all_places h1 h2
  rw [Nat.min_self, beq_self_eq_true, Bool.and_true] at e
  exact e
theorem Dat.place (D : Dat X n R) {pins : List (Addr × Obj)} {s : Shared} {σ : St} {H : Hp} {A : Around} (I : Inv X pins σ H s) (hu : A.units + n < cLine) {as bs : List α} {xs ys : List V} {its jts : List Value}
    (pa : Paired (R H) as xs) (pb : Paired (R H) bs ys) (ra : Vals xs its) (rb : Vals ys jts) : ∀ (j : Nat) (h1 : j < its.toArray.size) (h2 : j < jts.toArray.size), SeqAt.EqAt A s its.toArray[j] jts.toArray[j] (decide (as[j]? = bs[j]?)) := by
  intro j h1 h2
  rw [List.size_toArray] at h1 h2
  have hx : j < xs.length := by rw [ra.length]; exact h1
  have hy : j < ys.length := by rw [rb.length]; exact h2
  have ex : xs[j]? = some xs[j] := List.getElem?_eq_getElem hx
  have ey : ys[j]? = some ys[j] := List.getElem?_eq_getElem hy
  obtain ⟨u, hu1, ru⟩ := ra.get ex
  obtain ⟨v, hv1, rv⟩ := rb.get ey
  obtain ⟨a, ha, qa⟩ := Paired.get pa ex
  obtain ⟨b, hb, qb⟩ := Paired.get pb ey
  have e1 : its.toArray[j] = u := by
    rw [List.getElem_toArray]
    rw [List.getElem?_eq_getElem h1] at hu1
    exact Option.some.inj hu1
  have e2 : jts.toArray[j] = v := by
    rw [List.getElem_toArray]
    rw [List.getElem?_eq_getElem h2] at hv1
    exact Option.some.inj hv1
  rw [e1, e2, ha, hb]
  have e3 : decide (some a = some b) = decide (a = b) := by simp
  rw [e3]
  exact D.eq pins s σ H A a b _ _ u v I hu qa qb ru rv
theorem dat_tup (D : Dat X n R) : Dat X (n + 1) (rTup X.K R) where
  eq := fun pins s σ H A as bs x y u v I hu ha hb ru rv => by
    obtain ⟨p, xs, rfl, hp, pa⟩ := ha
    obtain ⟨q, ys, rfl, hq, pb⟩ := hb
    cases ru; cases rv
    by_cases e : p = q
    · subst e
      have exy := I.tuple_inj hp hq
      subst exy
      have eab : as = bs := Paired.uniq (fun a a' b h1 h2 => D.fn pins s σ H a a' b I h1 h2) pa pb
      subst eab
      rw [decide_eq_true rfl]
      exact SeqAt.EqAt.same _
    · obtain ⟨its, ra, ta, _⟩ := I.tuple hp
      obtain ⟨jts, rb, tb, _⟩ := I.tuple hq
      have l1 : as.length = its.toArray.size := by rw [List.size_toArray, ← ra.length]; exact Paired.length pa
      have l2 : bs.length = jts.toArray.size := by rw [List.size_toArray, ← rb.length]; exact Paired.length pb
      have r := SeqAt.RcAt.tuples (A := A) (s := s) (e := fun j => decide (as[j]? = bs[j]?)) ta tb (by omega) (D.place (A := A.in1) I (by show A.units + 1 + n < cLine; omega) pa pb ra rb)
      rw [all_places l1 l2] at r
      exact .of_refs e r
  fn := fun pins s σ H as bs x I ha hb => by
    obtain ⟨p, xs, rfl, hp, pa⟩ := ha
    obtain ⟨q, ys, e, hq, pb⟩ := hb
    cases e
    have exy := I.tuple_inj hp hq
    subst exy
    exact Paired.uniq (fun a a' b h1 h2 => D.fn pins s σ H a a' b I h1 h2) pa pb
theorem rc_lists (D : Dat X n R) {pins : List (Addr × Obj)} {s : Shared} {σ : St} {H : Hp} {A : Around} (I : Inv X pins σ H s) (hu : A.units + (n + 1) < cLine) {p q : Addr} {as bs : List α} {xs ys : List V}
    (hp : SqL X.K H p xs) (hq : SqL X.K H q ys) (pa : Paired (R H) as xs) (pb : Paired (R H) bs ys) : SeqAt.RcAt A s (.ref p) (.ref q) (decide (as = bs)) ∧ SeqAt.RcNeAt A s (.ref p) (.ref q) (!decide (as = bs)) := by
  obtain ⟨its, ra, ta, _⟩ := I.list hp
  obtain ⟨jts, rb, tb, _⟩ := I.list hq
  have l1 : as.length = its.toArray.size := by rw [List.size_toArray, ← ra.length]; exact Paired.length pa
  have l2 : bs.length = jts.toArray.size := by rw [List.size_toArray, ← rb.length]; exact Paired.length pb
  by_cases hs : its.toArray.size = jts.toArray.size
  · have r := SeqAt.RcAt.lists (A := A) (s := s) (e := fun j => decide (as[j]? = bs[j]?)) ta.isList tb.isList hs (by omega) (D.place (A := A.in1) I (by show A.units + 1 + n < cLine; omega) pa pb ra rb)
    have r' := SeqAt.RcNeAt.lists (A := A) (s := s) (e := fun j => decide (as[j]? = bs[j]?)) ta.isList tb.isList hs (by omega) (D.place (A := A.in1) I (by show A.units + 1 + n < cLine; omega) pa pb ra rb)
    rw [all_places' l1 (l2.trans hs.symm)] at r r'
    exact ⟨r, r'⟩
  · have hb : (its.toArray.size != jts.toArray.size) = true := by simpa using hs
    have e : as ≠ bs := fun e => hs (by rw [← l1, ← l2, e])
    rw [decide_eq_false e]
    exact ⟨SeqAt.RcAt.lists_lengths ta.isList tb.isList hb (by omega), SeqAt.RcNeAt.lists_lengths ta.isList tb.isList hb (by omega)⟩
def rEqL (K : PySem.W.Frag) {α : Type} [DecidableEq α] (R : Rep α) : R2 := fun x y H Q => ∃ as bs, rLst K R H as x ∧ rLst K R H bs y ∧ Q (.bl (decide (as = bs))) H
def rNeL (K : PySem.W.Frag) {α : Type} [DecidableEq α] (R : Rep α) : R2 := fun x y H Q => ∃ as bs, rLst K R H as x ∧ rLst K R H bs y ∧ Q (.bl (!decide (as = bs))) H
theorem op_eqL (D : Dat X n R) (hu : X.A.units + (n + 1) < cLine) : OpR X (compareOp .Eq) (rEqL X.K R) := by
  intro pins s σ H x y v u Q I rx ry h
  obtain ⟨as, bs, ⟨p, xs, rfl, hp, pa⟩, ⟨q, ys, rfl, hq, pb⟩, h⟩ := h
  cases rx; cases ry
  exact (rc_lists D I hu hp hq pa pb).1 X.prog X.w _ _ ⟨.bl _, H, I, rfl, h⟩
theorem op_neL (D : Dat X n R) (hu : X.A.units + (n + 1) < cLine) : OpR X (compareOp .NotEq) (rNeL X.K R) := by
  intro pins s σ H x y v u Q I rx ry h
  obtain ⟨as, bs, ⟨p, xs, rfl, hp, pa⟩, ⟨q, ys, rfl, hq, pb⟩, h⟩ := h
  cases rx; cases ry
  exact (rc_lists D I hu hp hq pa pb).2 X.prog X.w _ _ ⟨.bl _, H, I, rfl, h⟩
open Classical in
/-- is it a? read off the value -/
noncomputable def isDat (R : Rep α) (H : Hp) (a : α) (u : Value) : Bool := decide (∃ z, RelV z u ∧ R H a z)
theorem isDat_eq (D : Dat X n R) {pins : List (Addr × Obj)} {s : Shared} {σ : St} {H : Hp} (I : Inv X pins σ H s) {a b : α} {z : V} {u : Value} (rz : RelV z u) (hb : R H b z) : isDat R H a u = decide (b = a) := by
  unfold isDat
  by_cases e : b = a
  · subst e
    rw [decide_eq_true rfl]
    exact @decide_eq_true _ (Classical.propDecidable _) ⟨z, rz, hb⟩
  · rw [decide_eq_false e]
    refine @decide_eq_false _ (Classical.propDecidable _) ?_
    rintro ⟨z', rz', h'⟩
    have ez : z' = z := rz'.inj rz
    subst ez
    exact e (D.fn pins s σ H b a z' I hb h')
theorem any_dat (D : Dat X n R) {pins : List (Addr × Obj)} {s : Shared} {σ : St} {H : Hp} (I : Inv X pins σ H s) {a : α} : ∀ {as : List α} {xs : List V} {its : List Value}, Paired (R H) as xs → Vals xs its → its.any (isDat R H a) = decide (a ∈ as)
  | _, _, _, .nil, .nil => by simp
  | _, _, _, .cons (l₁ := as) r t, .cons rv tv => by
    rw [List.any_cons, isDat_eq D I rv r, any_dat D I t tv]
    rename_i b _ _ _ _
    by_cases e : b = a
    · subst e; simp
    · have e' : ¬ a = b := fun z => e z.symm
      simp [e, e']
theorem mem_dat (D : Dat X n R) {pins : List (Addr × Obj)} {s : Shared} {σ : St} {H : Hp} {A : Around} (I : Inv X pins σ H s) (hu : A.units + n < cLine) {a : α} {x : V} {v : Value} (rx : RelV x v) (ha : R H a x) :
    ∀ {as : List α} {xs : List V} {its : List Value}, Paired (R H) as xs → Vals xs its → ∀ u ∈ its, SeqAt.EqAt A s u v (isDat R H a u)
  | _, _, _, .nil, .nil => fun u hm => by cases hm
  | _, _, _, .cons r t, .cons rv tv => fun u hm => by
    rcases List.mem_cons.mp hm with rfl | hm
    · rw [isDat_eq D I rv r]
      exact D.eq pins s σ H A _ a _ x _ v I hu r ha rv rx
    · exact mem_dat D I hu rx ha t tv u hm
def rInL (K : PySem.W.Frag) {α : Type} [DecidableEq α] (R : Rep α) (neg : Bool) : R2 := fun x y H Q => ∃ a as, R H a x ∧ (rLst K R H as y ∨ rTup K R H as y) ∧ Q (.bl (if neg then !decide (a ∈ as) else decide (a ∈ as))) H
theorem op_inL (D : Dat X n R) (hu : X.A.units + (n + 1) < cLine) : OpR X (compareOp .In) (rInL X.K R false) := by
  intro pins s σ H x y v u Q I rx ry h
  obtain ⟨a, as, ha, hs, h⟩ := h
  have hu1 : X.A.in1.units + n < cLine := by show X.A.units + 1 + n < cLine; omega
  rcases hs with ⟨p, xs, rfl, hp, pa⟩ | ⟨p, xs, rfl, hp, pa⟩
  · cases ry
    obtain ⟨its, r, pl, _⟩ := I.list hp
    refine SeqAt.in_listAt (isDat R H a) pl.isList (fun w hw => mem_dat D I hu1 rx ha pa r w (by simpa using hw)) ⟨.bl _, H, I, rfl, ?_⟩
    rw [show its.toArray.any (isDat R H a) = its.any (isDat R H a) by simp, any_dat D I pa r]
    exact h
  · cases ry
    obtain ⟨its, r, pl, _⟩ := I.tuple hp
    refine SeqAt.in_tupleAt (isDat R H a) pl (fun w hw => mem_dat D I hu1 rx ha pa r w (by simpa using hw)) ⟨.bl _, H, I, rfl, ?_⟩
    rw [show its.toArray.any (isDat R H a) = its.any (isDat R H a) by simp, any_dat D I pa r]
    exact h
theorem op_notInL (D : Dat X n R) (hu : X.A.units + (n + 1) < cLine) : OpR X (compareOp .NotIn) (rInL X.K R true) := by
  intro pins s σ H x y v u Q I rx ry h
  obtain ⟨a, as, ha, hs, h⟩ := h
  have hu1 : X.A.in1.units + n < cLine := by show X.A.units + 1 + n < cLine; omega
  rcases hs with ⟨p, xs, rfl, hp, pa⟩ | ⟨p, xs, rfl, hp, pa⟩
  · cases ry
    obtain ⟨its, r, pl, _⟩ := I.list hp
    refine SeqAt.notIn_listAt (isDat R H a) pl.isList (fun w hw => mem_dat D I hu1 rx ha pa r w (by simpa using hw)) ⟨.bl _, H, I, rfl, ?_⟩
    rw [show its.toArray.any (isDat R H a) = its.any (isDat R H a) by simp, any_dat D I pa r]
    exact h
  · cases ry
    obtain ⟨its, r, pl, _⟩ := I.tuple hp
    refine SeqAt.notIn_tupleAt (isDat R H a) pl (fun w hw => mem_dat D I hu1 rx ha pa r w (by simpa using hw)) ⟨.bl _, H, I, rfl, ?_⟩
    rw [show its.toArray.any (isDat R H a) = its.any (isDat R H a) by simp, any_dat D I pa r]
    exact h
end

/-- tuples stay whatever becomes of lists and objects -/
def TSm (H H' : Hp) : Prop := ∀ b u, H b = some u → (∃ xs, u = .tup xs ∨ ∃ o, u = .frz o (.tup xs)) → H' b = some u
theorem TSm.refl (H : Hp) : TSm H H := fun _ _ h _ => h
theorem TSm.trans {H H1 H2 : Hp} (a : TSm H H1) (b : TSm H1 H2) : TSm H H2 := fun c u h t => b c u (a c u h t) t
theorem Same.ts {H H' : Hp} (e : Same H H') : TSm H H' := fun b u h _ => e b u h
theorem TSm.lst {H : Hp} {l : Addr} {xs : List V} {o : HO} (h : H l = some (.lst xs)) : TSm H (upd H l o) := fun b u hb t => by
  rw [upd_ne ?_]
  · exact hb
  · rintro rfl
    rw [h] at hb
    cases hb
    obtain ⟨ys, e | ⟨o, e⟩⟩ := t
    · cases e
    · cases e
theorem TSm.new {H : Hp} {p : Addr} {o : HO} (h : H p = none) : TSm H (upd H p o) := fun b u hb _ => by rw [upd_ne (ne_of_none hb h)]; exact hb
theorem TSm.seq {K : PySem.W.Frag} {H H' : Hp} {a : Addr} {xs : List V} (e : TSm H H') (h : SqT K H a xs) : SqT K H' a xs := by
  rcases h with (h | ⟨o, h⟩) | h
  · exact .inl (.inl (e _ _ h ⟨xs, .inl rfl⟩))
  · exact .inl (.inr ⟨o, e _ _ h ⟨xs, .inr ⟨o, rfl⟩⟩⟩)
  · exact .inr h
theorem Paired.imp {α β : Type} {F G : α → β → Prop} (f : ∀ a b, F a b → G a b) : ∀ {l₁ : List α} {l₂ : List β}, Paired F l₁ l₂ → Paired G l₁ l₂
  | _, _, .nil => .nil
  | _, _, .cons r t => .cons (f _ _ r) (Paired.imp f t)
/-- a datum of tuples alone -/
def TRep {α : Type} (R : Rep α) : Prop := ∀ H H' a x, TSm H H' → R H a x → R H' a x
theorem trep_int : TRep rInt := fun _ _ _ _ _ h => h
theorem trep_tup {K : PySem.W.Frag} {α : Type} {R : Rep α} (t : TRep R) : TRep (rTup K R) := fun H H' as x e h => by
  obtain ⟨p, xs, rfl, hp, pa⟩ := h
  exact ⟨p, xs, rfl, e.seq hp, Paired.imp (fun a b => t H H' a b e) pa⟩
theorem rLst_same {K : PySem.W.Frag} {α : Type} {R : Rep α} (t : TRep R) {H H' : Hp} {as : List α} {x : V} (e : Same H H') (h : rLst K R H as x) : rLst K R H' as x := by
  obtain ⟨p, xs, rfl, hp, pa⟩ := h
  exact ⟨p, xs, rfl, e.seq hp, Paired.imp (fun a b => t H H' a b e.ts) pa⟩
theorem Same.new {H : Hp} {p : Addr} (h : H p = none) (o : HO) : Same H (upd H p o) := fun b u q => by rw [upd_ne (ne_of_none q h)]; exact q
/-- a pair of ints -/
abbrev rPair (K : PySem.W.Frag) : Rep (List Int) := rTup K rInt
theorem rPair_of {K : PySem.W.Frag} {H : Hp} {p : Addr} {ns : List Int} (h : H p = some (.tup (ns.map V.int))) : rPair K H ns (.ref p) := ⟨p, _, rfl, SqT.of h, paired_ints ns⟩
theorem rPair_seq {K : PySem.W.Frag} {H : Hp} {ns : List Int} {x : V} (h : rPair K H ns x) : ∃ p, x = .ref p ∧ SqT K H p (ns.map V.int) := by
  obtain ⟨p, xs, rfl, hp, pa⟩ := h
  rw [ints_paired pa] at hp
  exact ⟨p, rfl, hp⟩
/-- two ints in a list or a tuple -/
def rSeq (K : PySem.W.Frag) : Rep (List Int) := fun H t x => rLst K rInt H t x ∨ rPair K H t x
theorem rSeq_seq {K : PySem.W.Frag} {H : Hp} {ns : List Int} {x : V} (h : rSeq K H ns x) : ∃ p, x = .ref p ∧ (SqL K H p (ns.map V.int) ∨ SqT K H p (ns.map V.int)) := by
  rcases h with ⟨p, xs, rfl, hp, pa⟩ | h
  · rw [ints_paired pa] at hp
    exact ⟨p, rfl, .inl hp⟩
  · obtain ⟨p, e, hp⟩ := rPair_seq h
    exact ⟨p, e, .inr hp⟩
end L2
end
section
set_option Elab.async false
set_option linter.all false
set_option maxRecDepth 100000
set_option maxHeartbeats 4000000

namespace L2
open PySem PySem.Spec PyProof.Rows

section
variable {K : PySem.W.Frag} {a D : Addr} {xs : List V} {g : TG} {tc : TT} {te : TE} {R : Hp → Prop} {τ : St} {H : Hp}
/-- what stands behind the element -/
abbrev putD (D : Addr) (N : St → Hp → Prop) (te : TE) (τ2 : St) : Bool → Hp → Prop := fun b H3 => if b = true then te τ2 H3 fun v H4 => ∃ ys, H4 D = some (.lst ys) ∧ ys.length < sizeLine ∧ N τ2 (upd H4 D (.lst (ys ++ [v]))) else N τ2 H3
theorem yesD {N : St → Hp → Prop} (h : te τ H fun v H4 => ∃ ys, H4 D = some (.lst ys) ∧ ys.length < sizeLine ∧ N τ (upd H4 D (.lst (ys ++ [v])))) : tYes τ H (putD D N te τ) := by
  show putD D N te τ true H
  unfold putD
  rw [if_pos rfl]
  exact h
theorem yesN {N : St → Hp → Prop} {i : Nat} {x : V} (h : te (τ.set i (some x)) H fun v H4 => ∃ ys, H4 D = some (.lst ys) ∧ ys.length < sizeLine ∧ N (τ.set i (some x)) (upd H4 D (.lst (ys ++ [v])))) : gName i x τ H fun τ2 H2 => tYes τ2 H2 (putD D N te τ2) := yesD h
theorem turns_list (Pv : Nat → St → Hp → Prop) (h0 : Pv 0 τ H) (hl : ∀ i τ H, i ≤ xs.length → Pv i τ H → SqL K H a xs)
    (hs : ∀ i x τ H, xs[i]? = some x → Pv i τ H → g x τ H fun τ2 H2 => tc τ2 H2 (putD D (Pv (i + 1)) te τ2)) (hd : ∀ τ H, Pv xs.length τ H → R H) : tTurns (Itl K a) D g tc te R τ H := by
  refine turns_by xs.length Pv h0 (fun i τ H hi p => ⟨xs, xs[i], hl i τ H (Nat.le_of_lt hi) p, by simp [hi]⟩) (fun τ H p => ⟨xs, hl _ τ H (Nat.le_refl _) p, Nat.le_refl _⟩) (fun i τ H x H' hi p y => ?_) hd
  obtain ⟨e, y⟩ := y
  subst e
  exact hs i x τ _ (y xs (hl i τ _ (Nat.le_of_lt hi) p)) p
theorem turns_range {lo : Int} {n : Nat} (Pv : Nat → St → Hp → Prop) (h0 : Pv 0 τ H)
    (hs : ∀ i τ H, i < n → Pv i τ H → g (.int (lo + i)) τ H fun τ2 H2 => tc τ2 H2 (putD D (Pv (i + 1)) te τ2)) (hd : ∀ τ H, Pv n τ H → R H) : tTurns (Itr lo n) D g tc te R τ H := by
  refine turns_by n Pv h0 (fun i τ H hi p => hi) (fun τ H p => Nat.le_refl _) (fun i τ H x H' hi p y => ?_) hd
  obtain ⟨e, y⟩ := y
  subst e y
  exact hs i τ _ hi p
theorem turns_enum {S : Hp → List V → Prop} (Pv : Nat → St → Hp → Prop) (h0 : Pv 0 τ H) (hl : ∀ i τ H, i ≤ xs.length → Pv i τ H → S H xs)
    (hs : ∀ i x τ H T, xs[i]? = some x → H T = none → Pv i τ H → g (.ref T) τ (upd H T (.tup [.int i, x])) fun τ2 H2 => tc τ2 H2 (putD D (Pv (i + 1)) te τ2)) (hd : ∀ τ H, Pv xs.length τ H → R H) : tTurns (Ien S) D g tc te R τ H := by
  refine turns_by xs.length Pv h0 (fun i τ H hi p => ⟨xs, xs[i], hl i τ H (Nat.le_of_lt hi) p, by simp [hi]⟩) (fun τ H p => ⟨xs, hl _ τ H (Nat.le_refl _) p, rfl⟩) (fun i τ H x H' hi p y => ?_) hd
  obtain ⟨T, z, rfl, hT, rfl, y⟩ := y
  exact hs i z τ H T (y xs (hl i τ _ (Nat.le_of_lt hi) p)) hT p
end

theorem un_of {A : Around} {k n : Nat} (hr : Room k A) (h : n ≤ 64 := by decide) : A.units + n < cLine := Nat.lt_of_le_of_lt (Nat.add_le_add_left h _) hr.units
section
variable {X : Cx} {K : PySem.W.Frag} {pos : Pos}
theorem pg_tupK (hK : X.K = K) {es : List Expr} {k : Nat} {t : TGs} {n : Nat} (hc : X.calm = true) (h : PGs X es t)
    (hn : (assignEach es X.env).length = n := by rfl) (hst : (assignEach es X.env).findIdx? (·.1) = none := by rfl) : PG X (.Tuple es k pos) (gTup K n t) := by subst hK; exact pg_tup hc h hn hst
theorem op_in_seqK (hK : X.K = K) : OpR X (compareOp .In) (rIn K false) := by subst hK; exact op_in_seq
theorem call_len_seqK (hK : X.K = K) : CallR X (.builtin "len") (fun xs H Q => ∃ p ys, xs = [.ref p] ∧ (SqL K H p ys ∨ SqT K H p ys) ∧ Q (.int ys.length) H) := by subst hK; exact call_len_seq
theorem min_pairK (hK : X.K = K) (hc : X.calm = true) : CallR X (.builtin "min") (fun xs H Q => ∃ p a b, xs = [.ref p] ∧ SqT K H p [.int a, .int b] ∧ Q (.int (if b < a then b else a)) H) := by subst hK; exact min_pair hc
theorem max_pairK (hK : X.K = K) (hc : X.calm = true) : CallR X (.builtin "max") (fun xs H Q => ∃ p a b, xs = [.ref p] ∧ SqT K H p [.int a, .int b] ∧ Q (.int (if b > a then b else a)) H) := by subst hK; exact max_pair hc
theorem ix_listK (hK : X.K = K) : IxR X (rIxL K) := by subst hK; exact ix_list
end
theorem inV_ints (x : Int) : ∀ (tie : List Int), inV (.int x) (tie.map V.int) = decide (x ∈ tie)
  | [] => rfl
  | z :: r => by
    have ih := inV_ints x r
    unfold inV at ih ⊢
    rw [List.map_cons, List.any_cons, ih]
    show ((z == x) || decide (x ∈ r)) = decide (x ∈ z :: r)
    by_cases e : z = x
    · subst e; simp
    · have e' : ¬ x = z := fun q => e q.symm
      simp [e, e']

theorem iteNN {c A B : Prop} {inst : Decidable c} (hc : ¬ c) (h : A) : if (!decide c) = true then A else B := by
  rw [decide_eq_false hc]
  exact iteT h
theorem iteNP {c A B : Prop} {inst : Decidable c} (hc : c) (h : B) : if (!decide c) = true then A else B := by
  rw [decide_eq_true hc]
  exact iteF h
theorem iteN {c A B : Prop} {inst : Decidable c} (hc : ¬ c) (h : B) : if decide c = true then A else B := by
  rw [decide_eq_false hc]
  exact iteF h
theorem iteP {c A B : Prop} {inst : Decidable c} (hc : c) (h : A) : if decide c = true then A else B := by
  rw [decide_eq_true hc]
  exact iteT h
theorem atI_ints {ns : List Int} {k : Int} (h0 : 0 ≤ k) (h : k < (ns.length : Int)) : ∃ v : Int, atI (ns.map V.int) k = some (.int v) := by
  have hk : k.toNat < ns.length := by omega
  have ek : k = ((k.toNat : Nat) : Int) := by omega
  have q : atI (ns.map V.int) ((k.toNat : Nat) : Int) = some (.int ns[k.toNat]) := atI_nat (by rw [List.getElem?_map, List.getElem?_eq_getElem hk] <;> rfl)
  rw [← ek] at q
  exact ⟨_, q⟩
theorem small {n : Nat} (h : n ≤ 1000) : n ≤ sizeLine := Nat.le_of_lt (small1000 h)

/-- the lesser first -/
def srt : List Int → List Int
  | [a, b] => if b < a then [b, a] else [a, b]
  | t => t
theorem srt_pair (a b : Int) : srt [a, b] = if b < a then [b, a] else [a, b] := rfl
theorem srt_mem {t : List Int} {p : Int} : p ∈ srt t ↔ p ∈ t := by
  unfold srt
  split
  · split
    · simp [or_comm]
    · rfl
  · rfl
theorem perm_pair {a b : Int} {ms : List Int} (h : ms.Perm [a, b]) (s : ms.Pairwise (· ≤ ·)) : ms = srt [a, b] := by
  have hl := h.length_eq
  match ms, hl, h, s with
  | [x, y], _, h, s =>
    have hxy : x ≤ y := by simpa using s
    have hx : x ∈ [a, b] := h.mem_iff.mp (by simp)
    have hy : y ∈ [a, b] := h.mem_iff.mp (by simp)
    have ha : a ∈ [x, y] := h.mem_iff.mpr (by simp)
    have hb : b ∈ [x, y] := h.mem_iff.mpr (by simp)
    simp only [List.mem_cons, List.not_mem_nil, or_false] at hx hy ha hb
    rw [srt_pair]
    split
    · have e1 : x = b := by omega
      have e2 : y = a := by omega
      rw [e1, e2]
    · have e1 : x = a := by omega
      have e2 : y = b := by omega
      rw [e1, e2]
/-- a tie of a web of m points -/
def OkTie (m : Int) (t : List Int) : Prop := ∃ a b, t = [a, b] ∧ 0 ≤ a ∧ a < m ∧ 0 ≤ b ∧ b < m ∧ a ≠ b
structure OkTies (m : Int) (as : List (List Int)) : Prop where
  ok : ∀ t ∈ as, OkTie m t
  nd : (as.map srt).Nodup
theorem srt_new {m : Int} {as : List (List Int)} {a b : Int} (h : ∀ t ∈ as, OkTie m t) (h1 : [a, b] ∉ as) (h2 : [b, a] ∉ as) : srt [a, b] ∉ as.map srt := by
  intro hm
  obtain ⟨t, ht, e⟩ := List.mem_map.mp hm
  obtain ⟨c, d, rfl, _⟩ := h t ht
  have e' : [c, d] = [a, b] ∨ [c, d] = [b, a] := by
    rw [srt_pair, srt_pair] at e
    split at e <;> split at e <;> simp only [List.cons.injEq, and_true] at e ⊢ <;> omega
  rcases e' with e' | e'
  · exact h1 (e' ▸ ht)
  · exact h2 (e' ▸ ht)
theorem OkTies.snoc {m : Int} {as : List (List Int)} {a b : Int} (h : OkTies m as) (t : OkTie m [a, b]) (h1 : [a, b] ∉ as) (h2 : [b, a] ∉ as) : OkTies m (as ++ [[a, b]]) := by
  refine ⟨fun u hu => ?_, ?_⟩
  · rcases List.mem_append.mp hu with hu | hu
    · exact h.ok u hu
    · rw [List.mem_singleton.mp hu]; exact t
  · rw [List.map_append, List.map_singleton, List.nodup_append]
    refine ⟨h.nd, by simp, fun x hx y hy e => ?_⟩
    have hy' : y = srt [a, b] := by simpa using hy
    subst hy'
    exact srt_new h.ok h1 h2 (e ▸ hx)
theorem OkTies.take_new {m : Int} {as : List (List Int)} {i : Nat} {t : List Int} (h : OkTies m as) (ht : as[i]? = some t) : srt t ∉ (as.take i).map srt := by
  intro hm
  obtain ⟨u, hu, e⟩ := List.mem_map.mp hm
  obtain ⟨j, hj, ej⟩ := List.mem_iff_getElem.mp hu
  have hji : j < i := by rw [List.length_take] at hj; omega
  have hi : i < as.length := (List.getElem?_eq_some_iff.mp ht).1
  have et : as[i] = t := (List.getElem?_eq_some_iff.mp ht).2
  have eu : as[j]'(by omega) = u := by rw [← ej, List.getElem_take]
  have hnd := h.nd
  have := (List.getElem_inj (h₀ := by rw [List.length_map]; omega) (h₁ := by rw [List.length_map]; omega) hnd (i := j) (j := i)).mp (by rw [List.getElem_map, List.getElem_map, et, eu, e])
  omega

/-- the numbers of the ties that have the point -/
def hitsFrom (p : Int) : Nat → List (List Int) → List Int
  | _, [] => []
  | k, t :: r => if p ∈ t then (k : Int) :: hitsFrom p (k + 1) r else hitsFrom p (k + 1) r
theorem hits_snoc (p : Int) (t : List Int) : ∀ (k : Nat) (as : List (List Int)), hitsFrom p k (as ++ [t]) = hitsFrom p k as ++ (if p ∈ t then [((k + as.length : Nat) : Int)] else [])
  | k, [] => by
    show (if p ∈ t then (k : Int) :: hitsFrom p (k + 1) [] else hitsFrom p (k + 1) []) = _
    split <;> simp [hitsFrom]
  | k, u :: r => by
    have ih := hits_snoc p t (k + 1) r
    have e : k + 1 + r.length = k + (u :: r).length := by simp; omega
    rw [e] at ih
    show (if p ∈ u then (k : Int) :: hitsFrom p (k + 1) (r ++ [t]) else hitsFrom p (k + 1) (r ++ [t])) = (if p ∈ u then (k : Int) :: hitsFrom p (k + 1) r else hitsFrom p (k + 1) r) ++ _
    rw [ih]
    split <;> rfl
abbrev hits (p : Int) (as : List (List Int)) : List Int := hitsFrom p 0 as
theorem hits_take {p : Int} {as : List (List Int)} {i : Nat} {t : List Int} (h : as[i]? = some t) : hits p (as.take (i + 1)) = hits p (as.take i) ++ (if p ∈ t then [(i : Int)] else []) := by
  have hi : i < as.length := (List.getElem?_eq_some_iff.mp h).1
  have e : as.take (i + 1) = as.take i ++ [t] := by rw [List.take_add_one, h]; rfl
  rw [e, hits, hits_snoc]
  have : 0 + (as.take i).length = i := by rw [List.length_take]; omega
  rw [this]
theorem hits_srt (p : Int) : ∀ (k : Nat) (as : List (List Int)), hitsFrom p k (as.map srt) = hitsFrom p k as
  | _, [] => rfl
  | k, t :: r => by
    show (if p ∈ srt t then (k : Int) :: hitsFrom p (k + 1) (r.map srt) else hitsFrom p (k + 1) (r.map srt)) = (if p ∈ t then (k : Int) :: hitsFrom p (k + 1) r else hitsFrom p (k + 1) r)
    rw [hits_srt p (k + 1) r]
    by_cases h : p ∈ t
    · rw [if_pos h, if_pos (srt_mem.mpr h)]
    · rw [if_neg h, if_neg (fun z => h (srt_mem.mp z))]
theorem hits_len (p : Int) : ∀ (k : Nat) (as : List (List Int)), (hitsFrom p k as).length ≤ as.length
  | _, [] => Nat.le_refl _
  | k, t :: r => by
    have ih := hits_len p (k + 1) r
    show (if p ∈ t then (k : Int) :: hitsFrom p (k + 1) r else hitsFrom p (k + 1) r).length ≤ r.length + 1
    split
    · simp; exact ih
    · omega
end L2
end
section
set_option Elab.async false
set_option linter.all false
set_option maxRecDepth 100000
set_option maxHeartbeats 4000000

namespace L2
open PySem PySem.Spec PyProof.Rows

section
variable {X : Cx} {K : PySem.W.Frag}
end

end L2
end
section
set_option Elab.async false
set_option linter.all false
set_option maxRecDepth 100000
set_option maxHeartbeats 4000000

namespace L2
open PySem PySem.Spec PyProof.Rows

theorem newEnv_comp {M : Model} {A : Around} {E : Value → Shared → Prop} {s : Shared} {scope : Scope} {globals : Addr} {cl : List (Str × Addr)} {qual : Str} {env : Env} {Q : Env → Shared → Prop}
    (hQ : Q { scope := scope, locals := s.heap.objs.size, globals := globals, cells := cellsFrom (s.heap.objs.size + 1) scope.names cl, qual := qual, func := none, code := env.code, frame := env.frame, builtins := env.builtins }
      { s with heap := pushCells (s.heap.push { cls := .type "dict", data := .dict #[] }) scope.names }) :
    wpAny M A (newFunctionEnv scope globals cl [] qual none .none (some env)) Q E s := by
  simp only [newFunctionEnv, Option.isSome_some, if_true]
  refine wpAny_bind (wpAny_alloc ?_)
  refine wpAny_bind (wpAny_layCells _ (fun name kind cells => by cases hkc : kind == NameKind.cell <;> simp [hkc]) _ _ _ _ ?_)
  rw [show ({ s with heap := s.heap.push { cls := .type "dict", data := .dict #[] } } : Shared).heap.objs.size = s.heap.objs.size + 1 from Heap.size_push ..]
  simp only [List.forIn_nil]
  exact wpAny_bind (wpAny_pure (wpAny_pure hQ))
/-- the new cells, and the ones from around -/
theorem cellsFrom_mem : ∀ {names : List (Str × NameKind)} {n : Nat} {acc : List (Str × Addr)} {x : Str} {c : Addr}, (cellsFrom n names acc).lookup x = some c → acc.lookup x = some c ∨ (n ≤ c ∧ (x, NameKind.cell) ∈ names)
  | [], _, _, _, _, h => .inl h
  | (y, k) :: r, n, acc, x, c, h => by
    unfold cellsFrom at h
    split at h
    · rename_i hk
      have hk' : k = .cell := by simpa using hk
      subst hk'
      rcases cellsFrom_mem (names := r) h with h' | h'
      · rw [List.lookup_cons] at h'
        cases hx : x == y with
        | true =>
          rw [hx] at h'
          have e : x = y := eq_of_beq hx
          have ec : n = c := Option.some.inj h'
          exact .inr ⟨Nat.le_of_eq ec, by rw [e]; exact List.mem_cons_self⟩
        | false => rw [hx] at h'; exact .inl h'
      · exact .inr ⟨by omega, List.mem_cons_of_mem _ h'.2⟩
    · rcases cellsFrom_mem (names := r) h with h | h
      · exact .inl h
      · exact .inr ⟨h.1, List.mem_cons_of_mem _ h.2⟩
theorem cellsFrom_old : ∀ {names : List (Str × NameKind)} {n : Nat} {acc : List (Str × Addr)} {x : Str}, (x, NameKind.cell) ∉ names → (cellsFrom n names acc).lookup x = acc.lookup x
  | [], _, _, _, _ => rfl
  | (y, k) :: r, n, acc, x, h => by
    have hr : (x, NameKind.cell) ∉ r := fun z => h (List.mem_cons_of_mem _ z)
    unfold cellsFrom
    split
    · rename_i hk
      have hk' : k = .cell := by simpa using hk
      subst hk'
      rw [cellsFrom_old (names := r) hr, List.lookup_cons]
      cases hx : x == y with
      | true =>
        have e : x = y := eq_of_beq hx
        subst e
        exact absurd List.mem_cons_self h
      | false => rfl
    · exact cellsFrom_old (names := r) hr
theorem cellsFrom_mono : ∀ {names : List (Str × NameKind)} {n : Nat} {acc : List (Str × Addr)} {x : Str}, (acc.lookup x).isSome = true → ((cellsFrom n names acc).lookup x).isSome = true
  | [], _, _, _, h => h
  | (y, k) :: r, n, acc, x, h => by
    unfold cellsFrom
    split
    · refine cellsFrom_mono (names := r) ?_
      rw [List.lookup_cons]
      cases hx : x == y with
      | true => rfl
      | false => exact h
    · exact cellsFrom_mono (names := r) h
theorem cellsFrom_new : ∀ {names : List (Str × NameKind)} {n : Nat} {acc : List (Str × Addr)} {x : Str}, (x, NameKind.cell) ∈ names → ((cellsFrom n names acc).lookup x).isSome = true
  | [], _, _, _, h => by cases h
  | (y, k) :: r, n, acc, x, h => by
    unfold cellsFrom
    split
    · rcases List.mem_cons.mp h with e | h
      · cases e
        refine cellsFrom_mono ?_
        rw [List.lookup_cons, beq_self_eq_true]
        rfl
      · exact cellsFrom_new h
    · rename_i hk
      rcases List.mem_cons.mp h with e | h
      · cases e
        exact absurd rfl hk
      · exact cellsFrom_new h
/-- the new cells stand apart, each above, each empty -/
theorem cellsFrom_inj : ∀ {names : List (Str × NameKind)} {n : Nat} {acc : List (Str × Addr)} {x y : Str} {c : Addr}, (∀ z d, acc.lookup z = some d → d < n) → (∀ z u d, acc.lookup z = some d → acc.lookup u = some d → z = u) →
    (cellsFrom n names acc).lookup x = some c → (cellsFrom n names acc).lookup y = some c → x = y
  | [], _, _, _, _, _, _, inj, h1, h2 => inj _ _ _ h1 h2
  | (v, k) :: r, n, acc, x, y, c, lt, inj, h1, h2 => by
    unfold cellsFrom at h1 h2
    split at h1
    · rename_i hk
      rw [if_pos hk] at h2
      refine cellsFrom_inj (names := r) (n := n + 1) (acc := (v, n) :: acc) (fun z d e => ?_) (fun z u d e1 e2 => ?_) h1 h2
      · rw [List.lookup_cons] at e
        cases hz : z == v with
        | true => rw [hz] at e; cases e; exact Nat.lt_succ_self _
        | false => rw [hz] at e; exact Nat.lt_succ_of_lt (lt z d e)
      · rw [List.lookup_cons] at e1 e2
        cases hz : z == v with
        | true =>
          rw [hz] at e1
          cases e1
          cases hu : u == v with
          | true => rw [eq_of_beq hz, eq_of_beq hu]
          | false => rw [hu] at e2; exact absurd (lt u _ e2) (Nat.lt_irrefl _)
        | false =>
          rw [hz] at e1
          cases hu : u == v with
          | true => rw [hu] at e2; cases e2; exact absurd (lt z _ e1) (Nat.lt_irrefl _)
          | false => rw [hu] at e2; exact inj z u d e1 e2
    · rename_i hk
      rw [if_neg hk] at h2
      exact cellsFrom_inj (names := r) lt inj h1 h2
theorem pushCells_cell : ∀ {names : List (Str × NameKind)} {h : Heap} {n : Nat} {acc : List (Str × Addr)} {x : Str} {c : Addr}, n = h.objs.size → (∀ z d, acc.lookup z = some d → ∃ v, h.IsCell d v) → (cellsFrom n names acc).lookup x = some c → ∃ v, (pushCells h names).IsCell c v
  | [], _, _, _, _, _, _, ok, h1 => ok _ _ h1
  | (v, k) :: r, h, n, acc, x, c, hn, ok, h1 => by
    unfold cellsFrom at h1
    unfold pushCells
    split at h1
    · rename_i hk
      rw [if_pos hk]
      refine pushCells_cell (names := r) (n := n + 1) (acc := (v, n) :: acc) (by rw [Heap.size_push, hn]) (fun z d e => ?_) h1
      rw [List.lookup_cons] at e
      cases hz : z == v with
      | true => rw [hz] at e; cases e; exact ⟨none, _, by rw [hn]; exact Heap.get?_push_size _ rfl, rfl⟩
      | false =>
        rw [hz] at e
        obtain ⟨u, o, ho, hd⟩ := ok z d e
        exact ⟨u, o, Heap.get?_push_of_some _ ho, hd⟩
    · rename_i hk
      rw [if_neg hk]
      exact pushCells_cell (names := r) hn ok h1

def compOkC (osc sc : Scope) : Bool :=
  (decide (sc.kind = .function)) && sc.names.all (fun y => decide (y.2 = .local → sc.names.lookup y.1 = some .local)) &&
    sc.names.all (fun y => decide (y.2 = .free → osc.names.lookup y.1 = some .cell ∨ osc.names.lookup y.1 = some .free)) && sc.names.all (fun y => decide (y.2 = .free → (y.1, NameKind.cell) ∉ sc.names))
structure CompOkC (osc sc : Scope) : Prop where
  kind : sc.kind = .function
  loc : ∀ y ∈ sc.names, y.2 = .local → sc.names.lookup y.1 = some .local
  free : ∀ y ∈ sc.names, y.2 = .free → osc.names.lookup y.1 = some .cell ∨ osc.names.lookup y.1 = some .free
  one : ∀ y ∈ sc.names, y.2 = .free → (y.1, NameKind.cell) ∉ sc.names
theorem CompOkC.of {osc sc : Scope} (h : compOkC osc sc = true) : CompOkC osc sc := by
  unfold compOkC at h
  rw [Bool.and_eq_true, Bool.and_eq_true, Bool.and_eq_true] at h
  obtain ⟨⟨⟨h1, h3⟩, h4⟩, h5⟩ := h
  exact ⟨of_decide_eq_true h1, fun y hy => of_decide_eq_true (List.all_eq_true.mp h3 y hy), fun y hy => of_decide_eq_true (List.all_eq_true.mp h4 y hy), fun y hy => of_decide_eq_true (List.all_eq_true.mp h5 y hy)⟩
theorem relabel_memC {env : Env} {x : Str} : ∀ {names : List (Str × NameKind)},
    ((names.map fun (n, k) => if (k == NameKind.free && env.scope.kind == .function && env.kindOf n == some .cell) then (n, NameKind.cell) else (n, k)).lookup x = some .cell ∨
     (names.map fun (n, k) => if (k == NameKind.free && env.scope.kind == .function && env.kindOf n == some .cell) then (n, NameKind.cell) else (n, k)).lookup x = some .free) → (x, NameKind.free) ∈ names ∨ (x, NameKind.cell) ∈ names
  | [], h => by simp at h
  | (n, k) :: r, h => by
    have ih := @relabel_memC env x r
    rw [List.map_cons] at h
    have h' : List.lookup x ((if (k == NameKind.free && env.scope.kind == .function && env.kindOf n == some .cell) = true then (n, NameKind.cell) else (n, k)) :: _) = _ ∨ List.lookup x ((if (k == NameKind.free && env.scope.kind == .function && env.kindOf n == some .cell) = true then (n, NameKind.cell) else (n, k)) :: _) = _ := h
    have tl : ∀ {A : Prop}, ((x, NameKind.free) ∈ r ∨ (x, NameKind.cell) ∈ r) → (x, NameKind.free) ∈ (n, k) :: r ∨ (x, NameKind.cell) ∈ (n, k) :: r := fun z => z.elim (fun z => .inl (List.mem_cons_of_mem _ z)) fun z => .inr (List.mem_cons_of_mem _ z)
    by_cases hb : (k == NameKind.free && env.scope.kind == .function && env.kindOf n == some .cell) = true
    · rw [if_pos hb] at h'
      have hk : k = .free := by simp at hb; exact hb.1.1
      rw [List.lookup_cons] at h'
      cases hx : x == n with
      | true =>
        have : x = n := eq_of_beq hx
        subst this; subst hk
        exact .inl List.mem_cons_self
      | false => rw [hx] at h'; exact tl (A := True) (ih h')
    · rw [if_neg hb] at h'
      rw [List.lookup_cons] at h'
      cases hx : x == n with
      | true =>
        rw [hx] at h'
        have : x = n := eq_of_beq hx
        subst this
        rcases h' with h' | h'
        · have hk : k = .cell := Option.some.inj h'
          subst hk
          exact .inr List.mem_cons_self
        · have hk : k = .free := Option.some.inj h'
          subst hk
          exact .inl List.mem_cons_self
      | false => rw [hx] at h'; exact tl (A := True) (ih h')

theorem clo_mem {cells : List (Str × Addr)} : ∀ {names : List (Str × NameKind)} {cs : List (Str × Addr)} {x : Str} {c : Addr}, (cloOf cells names cs).lookup x = some c → (x, NameKind.free) ∈ names ∨ cs.lookup x = some c
  | [], _, _, _, h => .inr h
  | (n, k) :: r, cs, x, c, h => by
    unfold cloOf at h
    rcases clo_mem (names := r) h with h | h
    · exact .inl (List.mem_cons_of_mem _ h)
    · by_cases hk : (k == NameKind.free) = true
      · have hk' : k = .free := by simpa using hk
        subst hk'
        rw [if_pos hk] at h
        cases q : cells.lookup n with
        | none => rw [q] at h; exact .inr h
        | some d =>
          rw [q] at h
          rw [List.lookup_cons] at h
          cases hx : x == n with
          | true =>
            have e : x = n := eq_of_beq hx
            subst e
            exact .inl List.mem_cons_self
          | false => rw [hx] at h; exact .inr h
      · rw [if_neg hk] at h
        exact .inr h
theorem clo_free {X : Cx} {scope : Scope} {x : Str} {c : Addr} (h : (cloX X scope).lookup x = some c) : (x, NameKind.free) ∈ scope.names := by
  rcases clo_mem h with h | h
  · exact h
  · simp at h
/-- the block's context -/
def cxCompC (X : Cx) (N' : List Str) (scope : Scope) (fp : List Addr) (s : Shared) (H : Hp) : Cx where
  prog := X.prog
  w := X.w
  K := X.K
  mg := X.mg
  base := X.base
  A := X.A
  N := N'
  s₀ := s
  H₀ := H
  env := compEnvC scope (cellsFrom (s.heap.objs.size + 1) scope.names (cloX X scope)) s.heap.objs.size X.env
  outer := X.stack
  stack := X.stack
  ex := fp
  fn := fun x => decide ((x, NameKind.cell) ∈ scope.names)
  calm := X.calm
  pn := []
  xe := fun _ _ => False

section
variable {X : Cx} {pins : List (Addr × Obj)} {σ : St} {H : Hp} {s : Shared} {tg elt iter : Expr} {ifs : List Expr} {scope : Scope} {pos : Pos} {own fr : List Str} {ix : List Nat} {g : TG} {tc : TT} {te : TE} {it : Addr} {fp : List Addr}
  {tn : Nat → Heap → Prop} {J : It}
theorem comp_innerC {R : Hp → Prop} {D : Addr} (hc : X.calm = true) (ok : CompOkC X.env.scope scope) (hfr : FreeAt X scope fr ix)
    (hg : PG (cxCompC X (own ++ fr) scope fp s H) tg g) (hi : PIfs (cxCompC X (own ++ fr) scope fp s H) ifs tc) (he : PE (cxCompC X (own ++ fr) scope fp s H) elt te)
    (I3 : Inv X pins σ H s) (T : Turn X.prog X.w X.K tg J fp it tn) (st3 : tn 0 s.heap) (f3 : ∀ b ∈ fp, FpOk X pins H b)
    (hq : tTurns J D g tc te R (start2 σ own ix) H) :
    codeAny (model X.prog X.w) X.A (.compStart (.ListComp elt [⟨tg, iter, ifs, 0⟩] scope pos) 0 (.ref it) (.ref D) (compEnvC scope (cellsFrom (s.heap.objs.size + 1) scope.names (cloX X scope)) s.heap.objs.size X.env))
      (fun r s' => r = .ok .next ∧ Behind X pins σ R s.heap.objs.size s') { s with heap := (pushCells (s.heap.push { cls := .type "dict", data := .dict #[] }) scope.names) } := by
  have old : ∀ b o, s.heap.get? b = some o → (pushCells (s.heap.push { cls := .type "dict", data := .dict #[] }) scope.names).get? b = some o := fun b o e => pushCells_keeps _ _ b o (Heap.get?_push_of_some _ e)
  have hns : (pushCells (s.heap.push { cls := .type "dict", data := .dict #[] }) scope.names).Ns s.heap.objs.size (fun _ => none) := (Heap.Ns.new s.heap (.type "dict")).keeps (pushCells_keeps _ _)
  have sub : ∀ x c, (cloX X scope).lookup x = some c → X.env.cells.lookup x = some c := cloOf_sub (fun x c e => by simp at e)
  have outerK : ∀ x, (x, NameKind.free) ∈ scope.names → X.env.kindOf x = some .cell ∨ X.env.kindOf x = some .free := fun x hx => ok.free (x, .free) hx rfl
  have has : ∀ x, (x, NameKind.free) ∈ scope.names → ∃ c, (cloX X scope).lookup x = some c := fun x hx => by
    obtain ⟨c, hcl⟩ := I3.ok.has x (outerK x hx)
    exact Option.isSome_iff_exists.mp (cloOf_has (by rw [hcl]; rfl) hx)
  have ltc : ∀ x c, (cloX X scope).lookup x = some c → c < s.heap.objs.size + 1 := fun x c e => by
    obtain ⟨v, q⟩ := I3.cell x c (sub x c e)
    exact Nat.lt_succ_of_lt q.lt
  have szp : s.heap.objs.size + 1 = (s.heap.push { cls := .type "dict", data := .dict #[] }).objs.size := (Heap.size_push ..).symm
  have lt3 : ∀ b ∈ fp, b < s.heap.objs.size := fun b hb => by
    obtain ⟨o, ho, _⟩ := T.obj 0 _ st3 b hb
    exact Heap.lt_size ho
  have nostk : ∀ b ∈ fp, b ∉ frs X.stack := fun b hb hs => by
    rcases List.mem_cons.mp (I3.stkSub b hs) with z | z
    · exact (f3 b hb).2.1 z
    · exact (f3 b hb).2.2.1 z
  have ncell : ∀ b ∈ fp, ∀ x c, (cellsFrom (s.heap.objs.size + 1) scope.names (cloX X scope)).lookup x = some c → c ≠ b := fun b hb x c h => by
    rcases cellsFrom_mem h with h | h
    · exact (f3 b hb).2.2.2.2.1 x c (sub x c h)
    · intro e
      have h1 : s.heap.objs.size + 1 ≤ b := e ▸ h.1
      exact absurd (Nat.lt_of_lt_of_le (lt3 b hb) (Nat.le_of_succ_le h1)) (Nat.lt_irrefl _)
  have I4 : Inv (cxCompC X (own ++ fr) scope fp s H) [] (start2 σ own ix) H { s with heap := (pushCells (s.heap.push { cls := .type "dict", data := .dict #[] }) scope.names) } := by
    refine ⟨⟨I3.ok.mod, ok.kind, I3.ok.glob, I3.ok.blt, Nat.le_refl _, ?inj, ?has, ?cab, I3.ok.hd, I3.ok.frames, .inl rfl, ?exf, I3.bs, Nat.le_trans I3.ok.bsz I3.sz, ?noex, nostk, I3.stack, I3.stkFree⟩,
      rfl, I3.bare, Un.kept old, ⟨_, hns, ?loc⟩, ?cell, I3.hok.fresh (Nat.le_refl _), ?freeC, ?pin, I3.hok.kept old, ?len⟩
    case inj => exact fun x y c h1 h2 => cellsFrom_inj ltc (fun z u d e1 e2 => I3.ok.inj z u d (sub z d e1) (sub u d e2)) h1 h2
    case has =>
      intro x hx
      refine Option.isSome_iff_exists.mp ?_
      rcases relabel_memC hx with z | z
      · obtain ⟨c, hc'⟩ := has x z
        exact cellsFrom_mono (by rw [hc']; rfl)
      · exact cellsFrom_new z
    case cab =>
      intro x c hx h
      have hx' : (x, NameKind.cell) ∈ scope.names := of_decide_eq_true hx
      rcases cellsFrom_mem h with h | h
      · have e := cellsFrom_new (n := s.heap.objs.size + 1) (acc := cloX X scope) hx'
        have hm : (x, NameKind.free) ∈ scope.names := clo_free h
        exact absurd hx' (ok.one _ hm rfl)
      · show s.heap.objs.size ≤ c
        omega
    case exf => exact fun b hb => ⟨Nat.ne_of_lt (lt3 b hb), ncell b hb⟩
    case noex =>
      intro b o e hb
      rcases (f3 b hb).2.2.2.1 with z | z
      · exact I3.ok.noex b o e z
      · exact absurd (Nat.lt_of_lt_of_le (Nat.lt_of_lt_of_le (Heap.lt_size e) I3.ok.bsz) z) (Nat.lt_irrefl _)
    case loc =>
      intro i x v e1 e2 e3
      obtain ⟨j, a1, a2, a3⟩ := start2_get hfr e1 e2
      have mem : (x, NameKind.free) ∈ scope.names := PySem.mem_of_lookup a3
      obtain ⟨m, hn, hl⟩ := I3.loc
      have ok1 := outerK x mem
      obtain ⟨u, r, l⟩ := hl j x v a1 a2 (ok1.elim (fun z => .inr (.inl z)) fun z => .inr (.inr z))
      rcases l with ⟨k, _⟩ | ⟨k, c, hcl, o, ho, hd⟩
      · rcases ok1 with z | z
        · rw [k] at z; cases z
        · rw [k] at z; cases z
      · obtain ⟨c', hc'⟩ := has x mem
        have e := sub x c' hc'
        rw [hcl] at e
        cases e
        exact ⟨u, r, .inr ⟨lookup_relabel_free a3, c, by show (cellsFrom _ _ _).lookup x = _; rw [cellsFrom_old (ok.one _ mem rfl)]; exact hc', o, old _ _ ho, hd⟩⟩
    case cell =>
      intro x c h
      refine pushCells_cell szp (fun z d e => ?_) h
      obtain ⟨v, o, ho, hd⟩ := I3.cell z d (sub z d e)
      exact ⟨v, o, Heap.get?_push_of_some _ ho, hd⟩
    case freeC =>
      intro x c h
      rcases cellsFrom_mem h with h | h
      · exact I3.freeC x c (sub x c h)
      · exact I3.hok.fresh (by omega)
    case pin => exact fun p hp => absurd (show p ∈ ([] : List (Addr × Obj)) from hp) (by simp)
    case len => exact start2_len hfr
  have st4 : tn 0 (pushCells (s.heap.push { cls := .type "dict", data := .dict #[] }) scope.names) := T.keep 0 _ _ st3 fun b _ o e => old b o e
  have stat : ∀ {H' : Hp}, (∀ b ∈ fp, H' b = none) → ∀ b ∈ fp, FpOk (cxCompC X (own ++ fr) scope fp s H) [] H' b := fun {H'} hn b hb =>
    ⟨hn b hb, Nat.ne_of_lt (lt3 b hb), nostk b hb, .inl hb, ncell b hb, fun p hp => absurd (show p ∈ ([] : List (Addr × Obj)) from hp) (by simp)⟩
  obtain ⟨W, ⟨m1, w0⟩, turn⟩ := hq
  have loop : codeAny (model X.prog X.w) X.A (.compLoop (.ListComp elt [⟨tg, iter, ifs, 0⟩] scope pos) 0 (.ref it) (.ref D) (compEnvC scope (cellsFrom (s.heap.objs.size + 1) scope.names (cloX X scope)) s.heap.objs.size X.env))
      (fun r s' => r = .ok .next ∧ Behind X pins σ R s.heap.objs.size s') { s with heap := (pushCells (s.heap.push { cls := .type "dict", data := .dict #[] }) scope.names) } := by
    refine codeAny_compLoop_any (fun n s' => ∃ i τ H', Inv (cxCompC X (own ++ fr) scope fp s H) [] τ H' s' ∧ tn i s'.heap ∧ (∀ b ∈ fp, H' b = none) ∧ W i n τ H') ?_ m1 ⟨0, _, H, I4, st4, fun b hb => (f3 b hb).1, w0⟩
    rintro n s5 ⟨i, τ5, H5, I5, st5, fr5, w5⟩
    rcases turn i n τ5 H5 w5 with ⟨stop, qn⟩ | ⟨go, N, hN, step⟩
    · refine thn (T.done (cxCompC X (own ++ fr) scope fp s H) rfl rfl rfl hc i [] s5 τ5 H5 _ I5 (stat fr5) st5 stop) fun r s6 ⟨hr, I6⟩ => ?_
      subst hr
      obtain ⟨m6, hn6, _⟩ := I6.loc
      exact ⟨rfl, H5, m6, I3.call' (ch := fp) I6.os I6.base I6.hok I6.bare (fun b hb => ⟨(f3 b hb).2.2.2.1, (f3 b hb).2.1, (f3 b hb).2.2.2.2.1, (f3 b hb).2.2.2.2.2⟩), hn6, I3.fpOk (Nat.le_refl _) I6.free, qn⟩
    · refine thn (T.item (cxCompC X (own ++ fr) scope fp s H) rfl rfl rfl hc i [] s5 τ5 H5 _ I5 (stat fr5) st5 go) fun r s6 ⟨u, hr, h6⟩ => ?_
      subst hr
      refine thn h6 fun _ s7 ⟨x, H7, I7, r7, y7, st7, fr7⟩ => ?_
      have I7' := I7.pinned (stat fr7) (T.obj _ _ st7)
      have again : ∀ {τ8 : St} {H8 : Hp} {s8 : Shared}, Inv (cxCompC X (own ++ fr) scope fp s H) ([] ++ pinsAt fp s7.heap) τ8 H8 s8 → N τ8 H8 →
          ∃ m, m < n ∧ ∃ i τ H', Inv (cxCompC X (own ++ fr) scope fp s H) [] τ H' s8 ∧ tn i s8.heap ∧ (∀ b ∈ fp, H' b = none) ∧ W i m τ H' := fun {τ8 H8 s8} I8 n8 => by
        obtain ⟨m', hm, w8⟩ := hN τ8 H8 n8
        refine ⟨m', hm, i + 1, τ8, H8, I8.unpinned, T.keep _ _ _ st7 fun b hb o e => (I8.pin (b, o) (List.mem_append_right _ (List.mem_append_right _ (mem_pinsAt hb e)))).1, fun b hb => ?_, w8⟩
        obtain ⟨o, e, d⟩ := T.obj _ _ st7 b hb
        exact (I8.pin (b, o) (List.mem_append_right _ (List.mem_append_right _ (mem_pinsAt hb e)))).2.1
      refine thn (hg _ s7 τ5 H7 x u _ I7' r7 (step x H7 y7)) fun _ s8 ⟨τ8, H8, I8, q8⟩ => ?_
      refine thn (hi _ s8 τ8 H8 _ I8 q8) fun b s9 ⟨H9, I9, q9⟩ => ?_
      cases b with
      | false => exact again I9 q9
      | true =>
        refine thn (he _ s9 τ8 H9 _ I9 q9) fun uv s10 ⟨v, H10, I10, r10, ys, hD, hz, q10⟩ => ?_
        refine thn (mt_append (X := cxCompC X (own ++ fr) scope fp s H) _ s10 τ8 H10 (.ref D) [v] (.ref D) [uv] (fun _ H' => N τ8 H') I10 rfl (.cons r10 .nil) ⟨D, ys, v, rfl, rfl, hD, hz, q10⟩) fun _ s11 ⟨_, H11, I11, _, q11⟩ => ?_
        exact again I11 q11
  exact codeAny_compStart_list loop (T.self X.A 0 _ _ _ st4 loop)

theorem comp_runC {R : V → Hp → Prop} (hc : X.calm = true) (ok : CompOkC X.env.scope scope) (hfr : FreeAt X scope fr ix)
    (hg : ∀ fp s H, PG (cxCompC X (own ++ fr) scope fp s H) tg g) (hi : ∀ fp s H, PIfs (cxCompC X (own ++ fr) scope fp s H) ifs tc) (he : ∀ fp s H, PE (cxCompC X (own ++ fr) scope fp s H) elt te)
    (I2 : Inv X pins σ H s) (T : Turn X.prog X.w X.K tg J fp it tn) (st2 : tn 0 s.heap) (f2 : ∀ b ∈ fp, FpOk X pins H b)
    (hq : ∀ D, H D = none → tTurns J D g tc te (R (.ref D)) (start2 σ own ix) (upd H D (.lst []))) {E : Value → Shared → Prop} :
    wpAny (model X.prog X.w) X.A (newList []) (fun acc s₃ => wpAny (model X.prog X.w) X.A (newFunctionEnv scope X.env.globals (cloX X scope) [] X.env.qual none .none (some X.env)) (fun cenv s₄ =>
      codeAny (model X.prog X.w) X.A (.compStart (.ListComp elt [⟨tg, iter, ifs, 0⟩] scope pos) 0 (.ref it) acc { cenv with scope := relabel scope X.env })
        (fun r s' => r = .ok .next ∧ ∃ v, RelV v acc ∧ Behind X pins σ (R v) cenv.locals s') s₄) E s₃) E s := by
  refine wpAny_newObj_type (newEnv_comp ?_)
  have hD : H s.heap.objs.size = none := I2.hok.fresh (Nat.le_refl _)
  have I3 : Inv X pins σ (upd H s.heap.objs.size (.lst [])) { s with heap := s.heap.push { cls := .type "list", dict := none, data := .seq ([] : List Value).toArray } } :=
    I2.laid (t' := s.toks) (fun b u e => Heap.get?_push_of_some _ e) (Nat.le_refl _) ⟨Nat.zero_le _, [], 0, .nil, Heap.get?_push_size _ rfl⟩
  have st3 : tn 0 (s.heap.push { cls := .type "list", dict := none, data := .seq ([] : List Value).toArray }) := T.keep 0 _ _ st2 fun b _ o e => Heap.get?_push_of_some _ e
  have f3 : ∀ b ∈ fp, FpOk X pins (upd H s.heap.objs.size (.lst [])) b := fun b hb => by
    obtain ⟨f0, fr⟩ := f2 b hb
    obtain ⟨o, ho, _⟩ := T.obj 0 _ st2 b hb
    exact ⟨by rw [upd_ne (Nat.ne_of_lt (Heap.lt_size ho))]; exact f0, fr⟩
  refine codeAny_mono (comp_innerC (R := R (.ref s.heap.objs.size)) (D := s.heap.objs.size) hc ok hfr (hg _ _ _) (hi _ _ _) (he _ _ _) I3 T st3 f3 (hq _ hD)) fun r s' ⟨e, b⟩ => ⟨e, V.ref s.heap.objs.size, rfl, b⟩

end
section
variable {X : Cx} {tg elt iter : Expr} {ifs : List Expr} {scope : Scope} {pos : Pos} {g : TG} {tc : TT} {te : TE} {wi : TI}
theorem has_cellsC {pins : List (Addr × Obj)} {σ : St} {H : Hp} {s : Shared} (I : Inv X pins σ H s) (ok : CompOkC X.env.scope scope) : ∀ y ∈ scope.names, y.2 = .free → (X.env.cells.lookup y.1).isSome = true := fun y hy hf => by
  obtain ⟨c, h⟩ := I.ok.has y.1 (ok.free y hy hf)
  rw [h]; rfl
theorem pe_compC (own fr : List Str) (ix : List Nat) (hc : X.calm = true) (hok : compOkC X.env.scope scope = true) (hfr : FreeAt X scope fr ix) (hit : PI X tg iter wi)
    (hg : ∀ fp s H, PG (cxCompC X (own ++ fr) scope fp s H) tg g) (hi : ∀ fp s H, PIfs (cxCompC X (own ++ fr) scope fp s H) ifs tc) (he : ∀ fp s H, PE (cxCompC X (own ++ fr) scope fp s H) elt te)
    (hs : ∀ x, foldedSetIterable iter X.env x = pure x := by intro _; rfl) : PE X (.ListComp elt [⟨tg, iter, ifs, 0⟩] scope pos) (tComp own ix wi g tc te) := by
  intro pins s σ H Q I h
  have ok := CompOkC.of hok
  rw [eval_ListComp]
  refine wpAny_comprehension_free (use := none) rfl hs (clo_of (has_cellsC I ok)) ok.kind ok.loc (thn (hit pins s σ H _ I h) fun xv s₁ h₁ => thn h₁ fun itv s₂ h₂ => ?_)
  obtain ⟨it, fp, tn, J, H2, rfl, I2, T, st2, f2, hq⟩ := h₂
  refine thn (comp_runC (R := Q) hc ok hfr hg hi he I2 T st2 f2 hq) fun acc s₃ h₃ => thn h₃ fun cenv s₄ h₄ => codeAny_mono h₄ fun r s' ⟨hr, v, rv, H', m, I', hn, fpo, q⟩ => ?_
  subst hr
  exact ⟨m, hn, fun h' sb => ⟨v, H', I'.sameBut fpo sb, rv, q⟩⟩
end
end L2
end
section
set_option Elab.async false
set_option linter.all false
set_option maxRecDepth 100000
set_option maxHeartbeats 4000000

namespace L2
/-- S is closed by the ties es -/
def Cl (S : Int → Prop) (es : List (List Int)) : Prop := ∀ e ∈ es, ∀ x ∈ e, ∀ y ∈ e, S x → S y
def gh (h : List Int) (p : Int) : Int := h.getD p.toNat 0
structure Heads (n : Nat) (es : List (List Int)) (h : List Int) : Prop where
  len : h.length = n
  le : ∀ p : Int, 0 ≤ p → p < n → 0 ≤ gh h p ∧ gh h p ≤ p
  idem : ∀ p : Int, 0 ≤ p → p < n → gh h (gh h p) = gh h p
  edge : ∀ e ∈ es, ∀ x ∈ e, ∀ y ∈ e, gh h x = gh h y
  reach : ∀ S : Int → Prop, Cl S es → ∀ p q : Int, 0 ≤ p → p < n → 0 ≤ q → q < n → gh h p = gh h q → S p → S q
/-- 0, 1, .. below n -/
abbrev below (n : Nat) : List Int := (List.range n).map fun (i : Nat) => (i : Int)
theorem asc_below (n : Nat) : (below n).Pairwise (· < ·) := by
  unfold below
  rw [List.pairwise_map]
  exact List.pairwise_lt_range.imp fun h => by omega
theorem mem_below {n : Nat} {x : Int} : x ∈ below n ↔ 0 ≤ x ∧ x < n := by
  unfold below
  rw [List.mem_map]
  constructor
  · rintro ⟨i, hi, rfl⟩
    have := List.mem_range.mp hi
    omega
  · rintro ⟨h0, h1⟩
    exact ⟨x.toNat, List.mem_range.mpr (by omega), by omega⟩
/-- a set of points that lies in the part of p -/
structure Spr (n : Nat) (h : List Int) (p : Int) (fs : List Int) : Prop where
  has : p ∈ fs
  nd : fs.Nodup
  all : ∀ q ∈ fs, (0 ≤ q ∧ q < n) ∧ gh h q = gh h p
end L2
end
section
set_option Elab.async false
set_option linter.all false
set_option maxRecDepth 100000
set_option maxHeartbeats 4000000

namespace L2
open PySem PySem.Spec PyProof.Rows
section
variable {X : Cx} {tg elt iter : Expr} {ifs : List Expr} {scope : Scope} {pos : Pos} {g : TG} {tc : TT} {te : TE} {wi : TI}
end
theorem vals_of : ∀ {xs : List V} {us : List Value}, xs.length = us.length → (∀ (i : Nat) (x : V) (u : Value), xs[i]? = some x → us[i]? = some u → RelV x u) → Vals xs us
  | [], [], _, _ => .nil
  | [], _ :: _, h, _ => by simp at h
  | _ :: _, [], h, _ => by simp at h
  | x :: xs, u :: us, h, f => .cons (f 0 x u rfl rfl) (vals_of (by simpa using h) fun i y v h1 h2 => f (i + 1) y v (by simpa using h1) (by simpa using h2))
section
variable {X : Cx}
theorem call_range1 : CallR X (.type "range") (fun xs H Q => ∃ j, xs = [.int j] ∧ ∀ r, H r = none → Q (.ref r) (upd H r (.rng 0 j))) := by
  intro pins s σ H xs us Q I r h
  obtain ⟨j, rfl, q⟩ := h
  obtain ⟨u, rfl, t, rfl⟩ := r.one
  refine call_range_1 ?_
  have hn : H s.heap.objs.size = none := I.hok.fresh (Nat.le_refl _)
  exact ⟨.ref s.heap.objs.size, _, I.laid (a := s.heap.objs.size) (o := .rng 0 j) (fun b u e => Heap.get?_push_of_some _ e) (Nat.le_refl _) ⟨_, _, _, Heap.get?_push_size _ rfl⟩, rfl, q _ hn⟩
theorem call_list_rng (hc : X.calm = true) : CallR X (.type "list") (fun xs H Q => ∃ r j, xs = [.ref r] ∧ H r = some (.rng 0 j) ∧ 0 ≤ j ∧ j ≤ 1000 ∧ ∀ l, H l = none → Q (.ref l) (upd H l (.lst ((below j.toNat).map V.int)))) := by
  intro pins s σ H xs us Q I rr h
  obtain ⟨r, j, rfl, hr, j0, j1, q⟩ := h
  obtain ⟨u, rfl, ru⟩ := rr.one
  cases ru
  obtain ⟨t1, t2, t3, e⟩ := I.hok r _ hr
  have hn : H s.heap.objs.size = none := I.hok.fresh (Nat.le_refl _)
  refine call_list_range (n := j.toNat) (I.ok.hd hc) e (small_one (by omega) (by omega) (by omega) (by omega)) (by rw [rangeSize_one]; split <;> omega) (by omega) fun h' tk acc' c' hk hS' hacc => ?_
  refine ⟨.ref s.heap.objs.size, _, I.laid (a := s.heap.objs.size) (o := .lst ((below j.toNat).map V.int)) hk (Nat.le_refl _) ⟨?_, acc'.toList, c', ?_, by simpa using hS'⟩, rfl, q _ hn⟩
  · rw [List.length_map, List.length_map, List.length_range]
    exact small (by omega)
  · refine vals_of (by simp [hacc.1]) fun i x u h1 h2 => ?_
    have h2' : acc'[i]? = some u := by simpa using h2
    obtain ⟨t, rfl⟩ := hacc.2 i u h2'
    have hi : i < j.toNat := by
      have := (Array.getElem?_eq_some_iff.mp h2').1
      rw [hacc.1] at this
      exact this
    rw [List.getElem?_map, List.getElem?_map, List.getElem?_range hi] at h1
    have ex : x = .int (i : Int) := (Option.some.inj h1).symm
    subst ex
    exact ⟨t, by rw [Int.mul_one, Int.zero_add]⟩
end
end L2
end
section
set_option Elab.async false
set_option linter.all false
set_option maxRecDepth 100000
set_option maxHeartbeats 4000000

namespace L2
open PySem PySem.Spec PyProof.Rows

section
variable {P : Program} {w : World} {H H' : Hp} {h h' : Heap} {a : Addr} {o : HO}
theorem ObjOk.there (x : ObjOk P w H h a o) : ∃ ob, h.get? a = some ob := by
  cases o with
  | lst xs => obtain ⟨_, _, _, _, e⟩ := x; exact ⟨_, e⟩
  | tup xs => obtain ⟨_, _, _, _, e, _⟩ := x; exact ⟨_, e⟩
  | dK kvs => obtain ⟨_, _, _, _, o, _, _, e, _⟩ := x; exact ⟨_, e⟩
  | dT kvs => obtain ⟨_, _, _, _, o, _, _, e, _⟩ := x; exact ⟨_, e⟩
  | set S n => obtain ⟨o, _, _, _, e, _⟩ := x; exact ⟨_, e⟩
  | ins C dx fs => obtain ⟨_, _, _, e, _⟩ := x; exact ⟨_, e⟩
  | own y => exact x
  | xd fs => obtain ⟨_, ⟨_, _, _, e, _⟩, _⟩ := x; exact ⟨_, e⟩
  | rng lo hi => obtain ⟨_, _, _, e⟩ := x; exact ⟨_, e⟩
  | frz ob u => exact ⟨_, x.1⟩
  | tbl ps => exact ⟨_, x⟩
  | met f y => exact ⟨_, x⟩
  | ext φ => exact x.2.1
theorem HOk.hide (x : HOk P w H h) {l : List Addr} (hf : ∀ b ∈ l, H b = none) : HOk P w H (PySem.W.hideAll h l) := fun a o e =>
  (x a o e).stay (fun b u hb q => PySem.W.hideAll_get l q fun z => by
    rcases hb with rfl | hb
    · rw [hf _ z] at e; cases e
    · rw [hf _ z] at hb; cases hb) (fun _ q => q) fun _ _ q => q
end

/-- it flies over B, which has all that stood ahead of the call but the running frames -/
structure Fly (P : Program) (w : World) (outer : List Env) (H H' : Hp) (s s' : Shared) (a : Addr) (cls : Value) : Prop where
  os : s'.os = s.os
  bare : AllBare s'.gens
  un : Un (frs outer) [] H H' s.heap s'.heap
  new : H' a = none
  fly : ∃ B a0, Heap.FlyingW B outer a cls a0 s'.heap ∧ HOk P w H' B ∧ ∀ b o', (∃ o, s.heap.get? b = some o) → s'.heap.get? b = some o' → b ∉ frs outer → B.get? b = some o'
/-- how an exception lies behind a def of ours -/
def CXF (P : Program) (w : World) : CXT := fun outer H s E e s' => ∃ a cls H', e = .ref a ∧ Fly P w outer H H' s s' a cls ∧ E cls none H'

section
variable {X : Cx} {pins : List (Addr × Obj)} {σ : St} {H1 H2 : Hp} {s1 s2 : Shared} {M : Model} {E' : Value → Shared → Prop} {Q : Unit → Shared → Prop}
theorem frs_stack (hst : X.stack = X.env :: X.outer) (hfr : X.env.frame = some X.env.locals) {b : Addr} : b ∈ frs X.stack ↔ b = X.env.locals ∨ b ∈ X.fs := by
  rw [hst]
  unfold frs
  rw [List.filterMap_cons, hfr]
  exact List.mem_cons
theorem Inv.notL (I : Inv X pins σ H1 s1) (hst : X.stack = X.env :: X.outer) (hfr : X.env.frame = some X.env.locals) {b : Addr} {o : Obj} (e : X.s₀.heap.get? b = some o) (nb : b ∉ X.fs) : b ∉ frs X.stack := fun z => by
  rcases (frs_stack hst hfr).mp z with z | z
  · have h1 := Heap.lt_size e
    have h2 := I.ok.above
    rw [z] at h1
    exact absurd h1 (Nat.not_lt.mpr h2)
  · exact nb z
theorem leave_made {h' : Heap} {e : Addr} {cls : Value} {args : List Value} (I : Inv X pins σ H1 s1) (hst : X.stack = X.env :: X.outer) (hfr : X.env.frame = some X.env.locals) (hex : X.ex = [])
    (hx : Heap.MadeExcOf s1.heap h' e cls args) (hQ : ∀ s'', Fly X.prog X.w X.outer X.H₀ H1 X.s₀ s'' e cls → Q () s'') : wpAny M X.A (leaving X.env (.ref e)) Q E' { s1 with heap := h' } := by
  have nx : ∀ b : Addr, b ∉ X.ex := fun b => by rw [hex]; exact List.not_mem_nil
  have frames : X.A.frames = some (X.env :: X.outer) := by rw [← hst]; exact I.ok.frames
  have hin : ∀ env ∈ X.stack, ∀ a, env.frame = some a → a ∈ frs X.stack := fun env he a hf => List.mem_filterMap.mpr ⟨env, he, hf⟩
  have ff : s1.heap.FunFrames (PySem.W.hideAll s1.heap (frs X.stack)) (X.env :: X.outer) := by
    have z := PySem.W.funFrames_hide I.stack hin
    have e : X.stack = X.env :: X.outer := hst
    generalize hl : frs X.stack = fl at z ⊢
    rw [e] at z
    exact z
  refine wpAny_leaves_madeW (base := PySem.W.hideAll s1.heap (frs X.stack)) (h := s1.heap) frames hfr (fun b o q => PySem.W.of_hideAll _ q) ff hx fun h2 t f2 tu nt up => hQ _ ?_
  have toB : ∀ b o, s1.heap.get? b = some o → b ∉ frs X.stack → h2.get? b = some o := fun b o e nb => f2.1 b o (PySem.W.hideAll_get _ e nb)
  have fr2 : ∀ b o, s1.heap.get? b = some o → b ∈ frs X.stack → ∃ sl, h2.get? b = some { o with slots := sl } := fun b o e z => by
    obtain ⟨_, o', ho', hd⟩ := I.stack.mem z
    rw [e] at ho'
    cases ho'
    exact up b o (hx.keeps _ _ e) hd
  refine ⟨I.os, I.bare, ⟨fun b o e n nb _ => ?_, fun b o e n nb _ => ?_, fun b o e n _ => I.base.free b o e n (nx b), fun b o e _ => ?_, I.base.tups, I.base.frzs, I.base.tbls⟩, ?_, _, _, f2, I.hok.hide I.stkFree, fun b o' ⟨o, e⟩ e' nb => ?_⟩
  · exact toB b o (I.base.keep b o e n nb (nx b)) (I.notL hst hfr e nb)
  · obtain ⟨sl, e1⟩ := I.base.slot b o e n nb (nx b)
    obtain ⟨sl', e2⟩ := fr2 b _ e1 ((frs_stack hst hfr).mpr (.inr nb))
    exact ⟨sl', e2⟩
  · obtain ⟨o1, e1⟩ := I.base.there b o e (nx b)
    by_cases hb : b ∈ frs X.stack
    · obtain ⟨sl, e2⟩ := fr2 b _ e1 hb
      exact ⟨_, e2⟩
    · exact ⟨_, toB b o1 e1 hb⟩
  · cases q : H1 e with
    | none => rfl
    | some u =>
      obtain ⟨ob, eo⟩ := (I.hok e u q).there
      rw [hx.new] at eo
      cases eo
  · obtain ⟨o1, e1⟩ := I.base.there b o e (nx b)
    have z := toB b o1 e1 (I.notL hst hfr e nb)
    have e'' : h2.get? b = some o' := e'
    rw [e''] at z
    cases z
    exact PySem.W.hideAll_get _ e1 (I.notL hst hfr e nb)
end
/-- a def that may raise -/
theorem Fun.okF {P : Program} {w : World} {K : PySem.W.Frag} {mg : Str → Option Value} {base : Heap} {x qual : Str} {st : Stmt} {f : Addr} {fd : FuncData} {N ps : List Str} {k : Nat} {sp : Sp} (F : Fun K x qual st f fd) (S : FnScope N ps (defScope st)) (len : ∀ vs H Q E, sp vs H Q E → vs.length = ps.length)
    (hbody : ∀ (cdv : Value) (A : Around) (outer : List Env) (s : Shared) (H : Hp) (vs : List V) (Q : VK) (E : XK), Room k (A.deeper (envOfC qual (defScope st) s.heap.objs.size f cdv)) → sp vs H Q E →
      ∃ t, PSs (cxOf (CXF P w) P w K mg base N qual (defScope st) f cdv A outer s H E) (defBody st) t ∧ t { nx := fun _ H' => Q .non H', rt := Q } (start N vs) H) : FnOk P w K mg base (CXF P w) (k + 1) f fd ps sp := by
  obtain ⟨oc, od, kV, doc, pm, an, cdv, ct, osl, rfl, lk, hcd⟩ := F.ex
  exact fn_of lk hcd S len fun A outer s H vs Q E hr hsp => hbody cdv A outer s H vs Q E hr hsp

theorem exc_obj {K : PySem.W.Frag} {h : Heap} {C : Addr} {bmB : List Value} {newId : String} (X : K.In h) (q : PySem.W.excIn K C bmB newId = true) :
    ∃ bm N nm qn bs hdct sn sub ab col dd k0 k1 k2 k3 k5 mN, h.get? C = some (excClassObj nm qn C N bs bm hdct sn sub ab col dd k0 k1 k2 k3 k5 newId) ∧ h.Ns N mN ∧ mN "__init__" = none ∧ OwnTail h bmB bm := by
  unfold PySem.W.excIn at q
  split at q
  · rename_i dd cd sl ho
    split at q
    · rename_i C' bm k0 k1 k2 k3 n k5 hm hs
      simp only [Bool.and_eq_true, beq_iff_eq, Bool.not_eq_true'] at q
      obtain ⟨⟨⟨⟨⟨rfl, rfl⟩, hdel⟩, ht⟩, hok⟩, hni⟩ := q
      obtain ⟨nm, bs, mro, ns, qn, hd, sn, sub, ab, col, del⟩ := cd
      dsimp only at hm hdel hok hni
      subst hm hdel
      have hsl : sl = #[k0, k1, k2, k3, some (.builtin n), k5] := by
        obtain ⟨l⟩ := sl
        simp only at hs
        rw [hs]
      subst hsl
      exact ⟨bm, ns, nm, qn, bs, hd, sn, sub, ab, col, dd, k0, k1, k2, k3, k5, _, X _ _ ho, .of_isNs (PySem.W.isNs_of_in X hok), PySem.W.nsMap_none_of_in X hok hni, PySem.W.tail_of_in X ht⟩
    · cases q
  · cases q
def tRaise (XE : Hp → Prop) (ta : TA) : TS := fun _ σ H => ta σ H fun vs H1 => vs.length ≤ sizeLine ∧ XE H1
theorem ps_raise {X : Cx} {C : Addr} {bmB : List Value} {B newId initId : String} {x : Str} {np cpos pos : Pos} {e0 : Expr} {rest : List Expr} {ta : TA} (XE : Hp → Prop) (FB : ExcBaseFacts B newId initId bmB) (hin : PySem.W.excIn X.K C bmB newId = true) (hc : X.calm = true) (hg : Gl X x) (hm : X.mg x = some (.ref C))
    (ha : PA X (e0 :: rest) ta) (hxe : ∀ (pins : List (Addr × Obj)) (σ : St) (H : Hp) (s : Shared) (h' : Heap) (e : Addr) (vs : List Value), Inv X pins σ H s → Heap.MadeExcOf s.heap h' e (.ref C) vs → XE H → X.xe (.ref e) { s with heap := h' })
    (hdb : (x == ("__debug__" : Str)) = false := by decide) (he : starEach (e0 :: rest) X.env = (false, eval e0 X.env) :: starEach rest X.env := by rfl) (hpl : (backTo cpos (starEach rest X.env)).any (·.1) = false := by rfl) :
    PS X (.Raise (some (.Call (.Name x np) (e0 :: rest) [] cpos)) none pos) (tRaise XE ta) := by
  intro pins s σ H D I h
  have cls : ∀ {s' : Shared} {H' : Hp}, Inv X pins σ H' s' → _ := fun {s' H'} (J : Inv X pins σ H' s') => exc_obj J.kIn hin
  obtain ⟨tl, N, nm, q, bs, hdct, sn, sub, ab, col, dd, k0, k1, k2, k3, k5, mN, hC, hN, hni, T⟩ := exc_obj I.mod.kin hin
  refine wpAny_Raise_call_subT (C := C) (nm := nm) (q := q) (N := N) (bs := bs) (bm := tl) (hdct := hdct) (sn := sn) (sub := sub) (ab := ab) (col := col) (dd := dd) (k0 := k0) (k1 := k1) (k2 := k2) (k3 := k3) (k5 := k5)
    FB (mN := mN) (T.hasType FB.hasBase) (I.ok.hd hc) (by rw [he]; show (false || (backTo cpos (starEach rest X.env)).any (·.1)) = false; rw [hpl]; rfl) hni (ld_glob I hg hm ⟨rfl, ?_⟩ hdb)
  have z := ha cpos pins s σ H _ I h
  rw [he] at z ⊢
  exact Calls.evalArgs_plain (wpAny_mono z (fun vs s₂ ⟨ws, H1, I1, r, hl, hq⟩ => ⟨rfl, by rw [← r.length]; exact hl, I1.bk _ _ hC, hN.keeps I1.bk, T.keeps I1.bk, fun h' e hm => hxe pins σ H1 s₂ h' e _ I1 hm hq⟩) fun _ _ y => y)
/-- in a def: the wish of its promise -/
theorem xe_def {P : Program} {w : World} {K : PySem.W.Frag} {mg : Str → Option Value} {base : Heap} {N : List Str} {qual : Str} {scope : Scope} {f : Addr} {cd : Value} {A : Around} {outer : List Env} {s : Shared} {H : Hp} {E : XK} {C : Addr}
    (pins : List (Addr × Obj)) (σ : St) (H1 : Hp) (s1 : Shared) (h' : Heap) (e : Addr) (vs : List Value) (I : Inv (cxOf (CXF P w) P w K mg base N qual scope f cd A outer s H E) pins σ H1 s1) (hm : Heap.MadeExcOf s1.heap h' e (.ref C) vs) (hE : E (.ref C) none H1) :
    (cxOf (CXF P w) P w K mg base N qual scope f cd A outer s H E).xe (.ref e) { s1 with heap := h' } :=
  leave_made I rfl rfl rfl hm fun s'' f' => ⟨e, .ref C, H1, rfl, f', hE⟩
end L2
end
section
set_option Elab.async false
set_option linter.all false
set_option maxRecDepth 100000
set_option maxHeartbeats 4000000

namespace L2
open PySem PySem.Spec PyProof.Rows

theorem Joins.mono {M : Model} {A : Around} {E : Value → Shared → Prop} : ∀ {parts : List (Sem Value)} {acc : Str} {Q Q' : Str → Shared → Prop} {s : Shared}, Joins M A E parts acc Q s → (∀ o s', Q o s' → Q' o s') → Joins M A E parts acc Q' s
  | [], _, _, _, _, h, f => f _ _ h
  | _ :: _, _, _, _, _, h, f => wpAny_mono h (fun v s₁ ⟨y, t, e, l, j⟩ => ⟨y, t, e, l, Joins.mono j f⟩) fun _ _ x => x
abbrev TJ := St → Hp → (Hp → Prop) → Prop
def PJ (X : Cx) (parts : List Expr) (n : Nat) (t : TJ) : Prop :=
  ∀ (pins : List (Addr × Obj)) (s : Shared) (σ : St) (H : Hp) (Q : Hp → Prop) (acc : Str), Inv X pins σ H s → t σ H Q → acc.length + n ≤ sizeLine →
    Joins (model X.prog X.w) X.A X.xe (evalEach parts X.env) acc (fun out s' => out.length ≤ acc.length + n ∧ ∃ H', Inv X pins σ H' s' ∧ Q H') s
section
variable {X : Cx} {rest : List Expr} {n : Nat} {t : TJ} {pos : Pos}
theorem pj_nil : PJ X [] 0 (fun _ H Q => Q H) := fun pins s σ H Q acc I h _ => ⟨Nat.le_refl _, H, I, h⟩
theorem pj_put {x : Expr} {te : TE} {k : Nat} {tj : TJ} (hx : ∀ (pins : List (Addr × Obj)) (s : Shared) (σ : St) (H : Hp) (Q : Hp → Prop), Inv X pins σ H s → tj σ H Q →
      wpAny (model X.prog X.w) X.A (eval x X.env) (fun v s' => ∃ y t, v = .str y t ∧ y.length ≤ k ∧ ∃ H', Inv X pins σ H' s' ∧ Q H') X.xe s) (hr : PJ X rest n t) (he : evalEach (x :: rest) X.env = eval x X.env :: evalEach rest X.env := by rfl) :
    PJ X (x :: rest) (k + n) (fun σ H Q => tj σ H fun H1 => t σ H1 Q) := by
  intro pins s σ H Q acc I h hn
  rw [he]
  refine wpAny_mono (hx pins s σ H _ I h) (fun v s1 ⟨y, tk, e, hy, H1, I1, q1⟩ => ?_) fun _ _ z => z
  have ly : (acc ++ y).length = acc.length + y.length := strLen_append acc y
  refine ⟨y, tk, e, by rw [ly]; omega, Joins.mono (hr pins s1 σ H1 Q (acc ++ y) I1 q1 (by rw [ly]; omega)) fun o s' ⟨l, r⟩ => ⟨by rw [ly] at l; omega, r⟩⟩
theorem pj_str {z : Str} {j : Nat} (k : Nat) (hk : z.length ≤ k) (hr : PJ X rest n t) (he : evalEach (.Constant (.str z) j pos :: rest) X.env = eval (.Constant (.str z) j pos) X.env :: evalEach rest X.env := by rfl) :
    PJ X (.Constant (.str z) j pos :: rest) (k + n) t :=
  pj_put (te := tC .non) (tj := fun _ H Q => Q H) (fun pins s σ H Q I h => Calls.Constant_str ⟨z, _, rfl, hk, H, I.tok _, h⟩) hr he
/-- {e}, e an int of at most 1000 places -/
theorem pj_int {e : Expr} {te : TE} (h1 : PE X e te) (hr : PJ X rest n t) (he : evalEach (.FormattedValue e (-1) none pos :: rest) X.env = eval (.FormattedValue e (-1) none pos) X.env :: evalEach rest X.env := by rfl) :
    PJ X (.FormattedValue e (-1) none pos :: rest) (2000 + n) (fun σ H Q => te σ H fun v H1 => ∃ i : Int, v = .int i ∧ i.natAbs.log2 < 1920 ∧ t σ H1 Q) := by
  refine pj_put (te := te) (tj := fun σ H Q => te σ H fun v H1 => ∃ i : Int, v = .int i ∧ i.natAbs.log2 < 1920 ∧ Q H1) (fun pins s σ H Q I h => ?_) hr he
  refine wpAny_FormattedValue_plain (thn (h1 pins s σ H _ I h) fun v s1 ⟨x, H1, I1, r1, i, e1, hl, q⟩ => ?_)
  subst e1
  obtain ⟨tk, rfl⟩ := r1
  refine wpAny_formatField_int hl ⟨_, _, rfl, ?_, H1, I1.tok _, q⟩
  have l := int_text_length_le (k := 1920) (by decide) hl
  have e : (Str.ofString (toString i)).length = (toString i).length := PySem.ofString_length _
  omega
/-- f'..' of two parts or more -/
theorem pe_join {v1 v2 : Expr} (h : PJ X (v1 :: v2 :: rest) n t) (hn : n ≤ 1000000) : PE X (.JoinedStr (v1 :: v2 :: rest) pos) (fun σ H Q => t σ H fun H1 => ∀ z : Str, Q (.str z) H1) := by
  intro pins s σ H Q I hq
  have hl : (1000000 : Nat) ≤ sizeLine := by decide
  have e0 : (Str.empty).length = 0 := rfl
  refine wpAny_JoinedStr (Joins.mono (h pins s σ H _ Str.empty I hq (by rw [e0]; omega)) fun o s' ⟨l, H', I', q⟩ => ⟨by rw [e0] at l; omega, .str o, H', I'.tok _, ⟨_, rfl⟩, q o⟩)
end

theorem Inv.gone {X : Cx} {pins : List (Addr × Obj)} {σ : St} {H : Hp} {s : Shared} {n : Str} {j : Nat} {pos : Pos} {M : Model} {A : Around} {E' : Value → Shared → Prop} {Q : Unit → Shared → Prop} (I : Inv X pins σ H s) (hN : X.N.Nodup) (hj : X.N[j]? = some n) (hk : X.env.kindOf n = some .local)
    (hQ : ∀ s', Inv X pins (σ.set j none) H s' → Q () s') : wpAny M A (do bindName X.env n .none; unbindBehindTheSuite X.env n pos) Q E' s := by
  obtain ⟨m, hn, hl⟩ := id I.loc
  have hcls : (X.env.scope.kind == .class || (X.env.scope.kind == .module && X.env.locals != X.env.globals)) = false := by rw [I.ok.kind]; rfl
  refine wpAny_nameGoes_keeps hk hn hcls fun h' v hn' hs => hQ _ ?_
  obtain ⟨oL, _, _, hoL, _⟩ := id hn
  have cne := I.cne
  have tracked : HOk X.prog X.w H h' := fun b ob e => by
    refine (I.hok b ob e).stay (fun c w' hc q => (hs.2 c ?_).trans q) (fun _ q => q) fun _ _ q => q
    rintro rfl
    rcases hc with hc | hc
    · rw [← hc, I.free] at e; cases e
    · rw [I.free] at hc; cases hc
  refine ⟨I.ok, I.os, I.bare, ⟨fun b o e n hb hx => ?_, fun b o e n hb hx => ?_, I.base.free, fun b o e hx => ?_, I.base.tups, I.base.frzs, I.base.tbls⟩, ⟨_, hn', fun i y v' e1 e2 e3 => ?_⟩, fun y c e => ?_, I.free, I.freeC, fun p hp => ?_, tracked, by simpa using I.len⟩
  · exact (hs.2 b (Nat.ne_of_lt (Nat.lt_of_lt_of_le (Heap.lt_size e) I.ok.above))).trans (I.base.keep b o e n hb hx)
  · obtain ⟨sl, e1⟩ := I.base.slot b o e n hb hx
    exact ⟨sl, (hs.2 b (Nat.ne_of_lt (Nat.lt_of_lt_of_le (Heap.lt_size e) I.ok.above))).trans e1⟩
  · obtain ⟨o', e1⟩ := I.base.there b o e hx
    exact ⟨o', (hs.2 b (Nat.ne_of_lt (Nat.lt_of_lt_of_le (Heap.lt_size e) I.ok.above))).trans e1⟩
  · by_cases hij : i = j
    · subst hij
      have hi : i < σ.length := by rw [I.len]; exact (List.getElem?_eq_some_iff.mp hj).1
      rw [List.getElem?_set_self hi] at e2
      cases e2
    · rw [List.getElem?_set_ne (Ne.symm hij)] at e2
      obtain ⟨u', r', q⟩ := hl i y v' e1 e2 e3
      refine ⟨u', r', ?_⟩
      rcases q with ⟨k, e⟩ | ⟨k, c, e, z⟩
      · refine .inl ⟨k, ?_⟩
        have : y ≠ n := fun e => hij (nodup_ix hN e1 (e ▸ hj))
        simp [this, e]
      · exact .inr ⟨k, c, e, z.sameBut hs (cne y c e)⟩
  · obtain ⟨w', z⟩ := I.cell y c e
    exact ⟨w', z.sameBut hs (cne y c e)⟩
  · obtain ⟨e, n, ne, nf, d⟩ := I.pin p hp
    exact ⟨(hs.2 p.1 ne).trans e, n, ne, nf, d⟩

/-- within an except suite: the exception stands at a -/
def sx (X : Cx) (a : Addr) (oe : Obj) : Cx := { X with A := X.A.mark (some (.ref a)), calm := false, pn := X.pn ++ [(a, oe)], xe := fun _ _ => False }
section
variable {X : Cx} {pins : List (Addr × Obj)} {σ : St} {H H1 H2 : Hp} {s s1 s2 : Shared} {a : Addr} {oe : Obj}
theorem Inv.suite (I : Inv X pins σ H s) (e : s.heap.get? a = some oe) (n : H a = none) (ne : a ≠ X.env.locals) (nf : a ∉ X.fs) (d : ∀ v, oe.data ≠ .cell v) : Inv (sx X a oe) pins σ H s :=
  ⟨⟨I.ok.mod, I.ok.kind, I.ok.glob, I.ok.blt, I.ok.above, I.ok.inj, I.ok.has, I.ok.cab, (fun z => by cases z), I.ok.frames, I.ok.stk, I.ok.exf, I.ok.bs, I.ok.bsz, I.ok.noex, I.ok.exfs, I.ok.funs, I.ok.frf⟩,
    I.os, I.bare, I.base, I.loc, I.cell, I.free, I.freeC, fun p hp => by
      rcases List.mem_append.mp hp with hp | hp
      · rcases List.mem_append.mp hp with hp | hp
        · exact I.pin p (List.mem_append_left _ hp)
        · have ep : p = (a, oe) := by simpa using hp
          subst ep
          exact ⟨e, n, ne, nf, d⟩
      · exact I.pin p (List.mem_append_right _ hp), I.hok, I.len⟩
theorem Inv.unsuite (ok : X.Ok) (I : Inv (sx X a oe) pins σ H s) : Inv X pins σ H s :=
  ⟨ok, I.os, I.bare, I.base, I.loc, I.cell, I.free, I.freeC, fun p hp => by
      rcases List.mem_append.mp hp with hp | hp
      · exact I.pin p (List.mem_append_left _ (List.mem_append_left _ hp))
      · exact I.pin p (List.mem_append_right _ hp), I.hok, I.len⟩
/-- behind an exception, as long as what flies is kept -/
theorem Fly.inv {cls : Value} (f : Fly X.prog X.w X.stack H1 H2 s1 s2 a cls) (I : Inv X pins σ H1 s1) {B : Heap} (hb : HOk X.prog X.w H2 B) (big : ∀ b o', (∃ o, s1.heap.get? b = some o) → s2.heap.get? b = some o' → b ∉ frs X.stack → B.get? b = some o')
    {h' : Heap} (st : B.StaysIn h') (up : s2.heap.UpToSlots h') : Inv X pins σ H2 { s2 with heap := h' } := by
  have nn : ∀ b : Addr, b ∉ ([] : List Addr) := fun b => List.not_mem_nil
  have fr : ∀ b o, s1.heap.get? b = some o → b ∈ frs X.stack → ∃ sl, h'.get? b = some { o with slots := sl } := fun b o e z => by
    obtain ⟨sl, e2⟩ := f.un.slot b o e (I.stkFree b z) z (nn b)
    obtain ⟨_, o', ho', hd⟩ := I.stack.mem z
    rw [e] at ho'
    cases ho'
    obtain ⟨sl', e3⟩ := up b _ e2 hd
    exact ⟨sl', e3⟩
  have un : Un (frs X.stack) [] H1 H2 s1.heap h' := ⟨fun b o e n nb _ => st b o (big b o ⟨o, e⟩ (f.un.keep b o e n nb (nn b)) nb), fun b o e n nb _ => fr b o e nb, fun b o e n _ => f.un.free b o e n (nn b), fun b o e _ => by
      by_cases z : b ∈ frs X.stack
      · obtain ⟨sl, e2⟩ := fr b o e z
        exact ⟨_, e2⟩
      · obtain ⟨o2, e2⟩ := f.un.there b o e (nn b)
        exact ⟨o2, st b o2 (big b o2 ⟨o, e⟩ e2 z)⟩, f.un.tups, f.un.frzs, f.un.tbls⟩
  exact I.call' (s' := { s2 with heap := h' }) (ch := []) f.os un (hb.kept st) f.bare (fun b z => nomatch z)
end
/-- the exception's class C is D or stands under it -/
structure XSub (K : PySem.W.Frag) (C D : Addr) : Prop where
  ty : PySem.W.typeIn K (.ref D) = some (.type "type")
  cl : (PySem.W.clsIn K D).isSome = true
  ex : PySem.W.subIn K (.ref D) (.type "BaseException") = some true
  sub : PySem.W.subIn K (.ref C) (.ref D) = some true
theorem exc_match {M : Model} {A : Around} {E : Value → Shared → Prop} {K : PySem.W.Frag} {s : Shared} {e C D : Addr} {oe : Obj} {Q : Bool → Shared → Prop} (X : K.In s.heap) (S : XSub K C D) (he : s.heap.get? e = some oe) (hc : oe.cls = .ref C) (hq : Q true s) :
    wpAny M A (excMatches (.ref e) (.ref D)) Q E s := by
  obtain ⟨h, g, d, t, os⟩ := s
  have L1 := PySem.W.looks_typeIn (M := M) X S.ty
  have L2 := PySem.W.looks_subIn (M := M) X S.ex
  have L3 := PySem.W.looks_subIn (M := M) X S.sub
  have L4 : PySem.W.Looks M h (isType (.ref D)) true := by
    have z := S.cl
    unfold PySem.W.clsIn at z
    split at z
    · rename_i c' d' cd' sl' ho
      intro A' Q' E' s' k q
      unfold isType loadHead
      exact wpAny_bind (wpAny_loadPart (k _ _ (X _ _ ho)) (wpAny_pure q))
    · cases z
  have L5 : PySem.W.Looks M h (typeOf (.ref e)) (.ref C) := hc ▸ (PySem.W.Looks.ld he).andThen .now
  have f := tc_notTuple
  unfold excMatches isExcClass isInstance
  open PySem.W in repeat lk
  exact hq
end L2
end
section
set_option Elab.async false
set_option linter.all false
set_option maxRecDepth 100000
set_option maxHeartbeats 4000000

namespace L2
open PySem PySem.Spec PyProof.Rows
/-- an exception of an expression, with the state ahead of the call -/
def XP (X : Cx) (pins : List (Addr × Obj)) (σ : St) (E : XK) (x : Value) (s2 : Shared) : Prop := ∃ H1 s1, Inv X pins σ H1 s1 ∧ CXF X.prog X.w X.stack H1 s1 E x s2
def PEX (X : Cx) (e : Expr) (E : XK) (t : TE) : Prop :=
  ∀ (pins : List (Addr × Obj)) (s : Shared) (σ : St) (H : Hp) (Q : VK), Inv X pins σ H s → t σ H Q → wpAny (model X.prog X.w) X.A (eval e X.env) (EP X pins σ Q) (XP X pins σ E) s
section
variable {X : Cx} {k : Nat} {f C : Addr} {fd : FuncData} {ps : List Str} {sp : Sp} {dvs : List V} {ds : List Value} {E : XK} {x m : Str} {p pos apos : Pos} {e o : Expr} {es : List Expr} {ta : TE} {t : TA}
theorem pex_call (F : FnOk X.prog X.w X.K X.mg X.base (CXF X.prog X.w) k f fd ps sp) (hr : Room k X.A) (hg : Gl X x) (hm : X.mg x = some (.ref f)) (hk : PySem.W.keepIn X.K (.ref f) = true) (hb : Binds X.K fd ps ds) (hd : Vals dvs ds)
    (ha : PA X.nox (e :: es) t) (hdb : (x == ("__debug__" : Str)) = false := by decide) (he : starEach (e :: es) X.env = (false, eval e X.env) :: starEach es X.env := by rfl) (hpl : (backTo pos (starEach es X.env)).any (·.1) = false := by rfl) :
    PEX X (.Call (.Name x p) (e :: es) [] pos) E (tCall sp dvs E t) := by
  intro pins s σ H Q I h
  refine wpAny_Call_Name_kw (ld_glob I hg hm ?_ hdb)
  refine PySem.W.callWith_K (h₀ := X.base) I.ok.mod.kin hk (wpAny_mono (ha pos pins s σ H _ (I.wish _) h) (fun us s1 ⟨vs, H1, I1, r, q⟩ => ⟨I1.unwish.kIn, ?_⟩) fun _ _ z => z.elim) he hpl
  have J := I1.unwish
  have r2 : Vals (vs ++ dvs) (us ++ ds) := r.append hd
  have hl : (us ++ ds).length = ps.length := by rw [← r2.length]; exact F.len _ _ _ _ q
  refine wpAny_call (codeAny_mono (F.run X.A X.stack s1 H1 ⟨us, []⟩ (us ++ ds) (vs ++ dvs) Q E hr J.env0 (hb s1 us J.kIn hl) r2 q) fun r s' hq => ?_)
  cases r with
  | error e => exact ⟨H1, s1, J, hq⟩
  | ok fl =>
    cases fl with
    | ret u => exact J.after hq
    | next => exact False.elim hq
    | brk => exact False.elim hq
    | cont => exact False.elim hq
end
/-- the ends of a suite: its name e goes -/
def goneD (D : Ends) (j : Nat) : Ends := { nx := fun σ H => D.nx (σ.set j none) H, rt := D.rt, bk := fun σ H => D.bk (σ.set j none) H, ct := fun σ H => D.ct (σ.set j none) H }
section
variable {X : Cx} {pins : List (Addr × Obj)} {σ : St} {H1 H2 : Hp} {s1 s2 : Shared} {a C D : Addr} {d n : Str} {np hpos pos : Pos} {b0 : Stmt} {suite : List Stmt} {rest : List ExceptHandler} {j : Nat} {th : TS} {DD : Ends} {E' : Value → Shared → Prop}
theorem try_caught (hst : X.stack = X.env :: X.outer) (hfr : X.env.frame = some X.env.locals) (hN : X.N.Nodup) (hD : Gl X d) (hmD : X.mg d = some (.ref D)) (hj : X.N[j]? = some n) (hk : X.env.scope.names.lookup n = some .local)
    (I : Inv X pins σ H1 s1) (f : Fly X.prog X.w X.stack H1 H2 s1 s2 a (.ref C)) (S : XSub X.K C D) (hs : ∀ oe : Obj, oe.cls = .ref C → PSs (sx X a oe) (b0 :: suite) th) (hth : th (goneD DD j) (σ.set j (some (.ref a))) H2)
    (hdb : (d == ("__debug__" : Str)) = false) :
    wpAny (model X.prog X.w) X.A (noteFrame (.ref a) X.env) (fun _ s₂ => wpAny (model X.prog X.w) X.A (setFlight (.ref a) none) (fun _ s₃ => wpAny (model X.prog X.w) X.A (handleBy (.ref a) X.env (.ExceptHandler (some (.Name d np)) (some n) (b0 :: suite) hpos :: rest)) (SP X pins DD) E' s₃) E' s₂) E' s2 := by
  have frames : X.A.frames = some (X.env :: X.outer) := by rw [← hst]; exact I.ok.frames
  obtain ⟨B, a0, fl, hb, big⟩ := f.fly
  have fl' : Heap.FlyingW B (X.env :: X.outer) a (.ref C) a0 s2.heap := by rw [← hst]; exact fl
  have pinOf : ∀ {h : Heap}, Heap.FlyingW B (X.env :: X.outer) a (.ref C) a0 h → ∃ oe, h.get? a = some oe ∧ oe.cls = .ref C ∧ a ≠ X.env.locals ∧ a ∉ X.fs ∧ ∀ v, oe.data ≠ .cell v := fun {h} x => by
    obtain ⟨oe, vs, e1, e2, e3, _⟩ := x.first
    have nfr : a ∉ frs X.stack := fun z => by
      rw [hst] at z
      obtain ⟨_, o, ho, hd⟩ := x.2.2.1.mem z
      rw [e1] at ho
      cases ho
      exact hd vs e3
    exact ⟨oe, e1, e2, fun z => nfr ((frs_stack hst hfr).mpr (.inl z)), fun z => nfr ((frs_stack hst hfr).mpr (.inr z)), fun v z => by rw [e3] at z; cases z⟩
  refine wpAny_looks_onW (base := B) frames hfr fl' fun h4 held4 up4 => wpAny_landsW held4 fun h5 fl5 up5' => ?_
  have up5 := up4.trans up5'
  have I5 := f.inv I hb big fl5.1 up5
  obtain ⟨oe5, e5, c5, n5, m5, d5⟩ := pinOf fl5
  have I5s := I5.suite e5 f.new n5 m5 d5
  refine wpAny_handleBy_cons (codeAny_handlers_test (ld_glob (X := sx X a oe5) I5s hD hmD ?_ hdb)) (by intro q; cases q)
  refine exc_match I5.kIn S e5 c5 (codeAny_handlers_suite_as ?_)
  refine lands_againW fl5 fun h6 fl6 up6 => ?_
  have I6 := f.inv I hb big fl6.1 (up5.trans up6)
  obtain ⟨oe6, e6, c6, n6, m6, d6⟩ := pinOf fl6
  have I6s := I6.suite e6 f.new n6 m6 d6
  refine store_ok (X := sx X a oe6) I6s hN hj (Or.inl hk) (v := .ref a) rfl (fun s7 I7 => ?_) (.inr hk)
  refine wpAny_mono (hs oe6 c6 pins s7 _ H2 (goneD DD j) I7 hth) (fun fl s8 h8 => ?_) fun _ _ z => z.elim
  cases fl with
  | next =>
    obtain ⟨σ', H', I8, q⟩ := h8
    exact (I8.unsuite I.ok).gone hN hj hk fun s9 I9 => ⟨_, H', I9, q⟩
  | brk =>
    obtain ⟨σ', H', I8, q⟩ := h8
    exact (I8.unsuite I.ok).gone hN hj hk fun s9 I9 => ⟨_, H', I9, q⟩
  | cont =>
    obtain ⟨σ', H', I8, q⟩ := h8
    exact (I8.unsuite I.ok).gone hN hj hk fun s9 I9 => ⟨_, H', I9, q⟩
  | ret u =>
    obtain ⟨v, σ', H', I8, rv, q⟩ := h8
    exact (I8.unsuite I.ok).gone hN hj hk fun s9 I9 => ⟨v, _, H', I9, rv, q⟩
/-- try: x = call, except d as n: suite -/
def tTry (i : Option Nat) (te : TE) (E : XK) (j : Nat) (th : Addr → Addr → TS) : TS := fun DD σ H =>
  te σ H (fun v H1 => DD.nx (match i with | some i => σ.set i (some v) | none => σ) H1) ∧ ∀ a C H2, E (.ref C) none H2 → th a C (goneD DD j) (σ.set j (some (.ref a))) H2
variable {te : TE} {E : XK} {e : Expr} {G : Addr → Prop} {tt : Addr → Addr → TS}
theorem ps_try_expr {spos : Pos} (hst : X.stack = X.env :: X.outer) (hfr : X.env.frame = some X.env.locals) (hN : X.N.Nodup) (hD : Gl X d) (hmD : X.mg d = some (.ref D)) (hj : X.N[j]? = some n) (hk : X.env.scope.names.lookup n = some .local)
    (he : PEX X e E te) (hE : ∀ cls H', E cls none H' → ∃ C, cls = .ref C ∧ XSub X.K C D ∧ G C) (hs : ∀ (a C : Addr) (oe : Obj), G C → oe.cls = .ref C → PSs (sx X a oe) (b0 :: suite) (tt a C))
    (hsw : swapsWith e none spos.line X.env = pure false := by rfl) (hdb : (d == ("__debug__" : Str)) = false := by decide) :
    PS X (.Try [.Expr e spos] [.ExceptHandler (some (.Name d np)) (some n) (b0 :: suite) hpos] [] [] pos) (tTry none te E j tt) := by
  intro pins s σ H DD I ⟨h1, h2⟩
  refine wpAny_Try_except (wpAny_execs_cons (wpAny_Expr_any (wpAny_mono (he pins s σ H _ I h1) (fun v s1 ⟨y, H1, I1, r1, q1⟩ => ?_) fun z s2 hz => ?_) I.quiet hsw))
  · exact wpAny_execs_nil (wpAny_execs_nil ⟨σ, H1, I1, q1⟩)
  · obtain ⟨H1, s1, I1, a, cls, H2, rfl, fl, hc⟩ := hz
    obtain ⟨C, rfl, S, g⟩ := hE _ _ hc
    exact try_caught hst hfr hN hD hmD hj hk I1 fl S (fun oe hoe => hs a C oe g hoe) (h2 a C H2 hc) hdb
end
end L2

namespace L2
open PySem PySem.Spec PyProof.Rows
section
variable {X : Cx} {tg : Expr}
end
theorem log_small {i : Int} (h1 : -1000 ≤ i) (h2 : i ≤ 1000) : i.natAbs.log2 < 1920 := by
  by_cases h : i.natAbs = 0
  · rw [h]; decide
  · exact (Nat.log2_lt h).mpr (Nat.lt_of_lt_of_le (show i.natAbs < 2 ^ 10 by omega) (Nat.pow_le_pow_right (by decide) (by decide)))
end L2
end
section
set_option Elab.async false
set_option linter.all false
set_option maxRecDepth 100000
set_option maxHeartbeats 4000000

namespace L2
open PySem PySem.Spec PyProof.Rows PySem.W
/-- what the text says of an own exception's class -/
structure XCl (K : Frag) (C : Addr) : Prop where
  ga : findIn K (.ref C) "__getattribute__" = some (some (.builtin "BaseException.__getattribute__"))
  gt : findIn K (.ref C) "__getattr__" = some none
  cl : findIn K (.ref C) "__class__" = some (some (.builtin "object.__class__"))
  ob : mroIn K C (.type "object") = some true
  be : mroIn K C (.type "BaseException") = some true
  is : (clsIn K C).isSome = true
section
variable {prog : Program} {w : World} {A : Around} {E : Value → Shared → Prop} {K : Frag} {s : Shared} {a C : Addr} {oe : Obj} {h : Heap} {g : Array GenState} {d : Drawn} {t : Nat} {os : OsState}
/-- the exception's object -/
structure XAt (h : Heap) (a : Addr) (oe : Obj) (C : Addr) : Prop where
  at_ : h.get? a = some oe
  cls : oe.cls = .ref C
theorem XAt.type {M : Model} (I : XAt h a oe C) : Looks M h (typeOf (.ref a)) (.ref C) := I.cls ▸ (Looks.ld I.at_).andThen .now
theorem xc_get {R : Result → Shared → Prop} {tp : Value} (X : K.In h) (Z : XCl K C) (I : XAt h a oe C) (hq : R (.ok (.ret (.ref C))) ⟨h, g, d, t, os⟩) :
    codeAny (model prog w) A (.call (.builtin "getset_descriptor.__get__") ⟨[.builtin "object.__class__", .ref a, tp], []⟩) R ⟨h, g, d, t, os⟩ := by
  have L0 := I.type (M := model prog w)
  have L1 : Looks (model prog w) h (isSubtype (.ref C) (.type (".".intercalate ("object.__class__".cutAt '.').dropLast))) true := by
    rw [F.owner_object_class]
    exact looks_mroIn X Z.ob
  have ty5 : (⟨h, g, d, t, os⟩ : Shared).TypeIs (.builtin "object.__class__") "getset_descriptor" := F.typeOf_object_class
  refine codeAny_call_builtin F.slot_gs_get.plain F.entry_gs_get (F.slot_gs_get.check _ _ _ _ _ _ _ _ ty5 (F.args_gs_get _ _ _) ?_)
  repeat (any_goals (first | assumption | with_reducible refine L0.at ?_ | with_reducible refine L1.at ?_ | wp_step))
  refine ⟨Code.quiet_builtin _ (by decide +kernel), codeAny_builtin F.entry_object_class ?_⟩
  repeat (any_goals (first | assumption | with_reducible refine L0.at ?_ | wp_step))
theorem xc_entry {tk : Tok} {Q : Fin → Shared → Prop} (X : K.In h) (Z : XCl K C) (I : XAt h a oe C) (hq : Q (.done (.ret (.ref C))) ⟨h, g, d, t, os⟩) :
    wpAny (model prog w) A (Builtin.«object.__getattribute__» ⟨[.ref a, .str "__class__" tk], []⟩) Q E ⟨h, g, d, t, os⟩ := by
  have L0 := I.type (M := model prog w)
  have L1 := looks_findIn (M := model prog w) X Z.cl
  have f5 := F.typeOf_object_class
  have f6 := F.slot_gs_get.lookup
  have f7 := F.slot_gs_set.lookup
  repeat (any_goals (first | assumption | with_reducible refine L0.at ?_ | with_reducible refine L1.at ?_ | wp_step))
  refine xc_get X Z I ?_
  repeat (any_goals (first | assumption | wp_step))
theorem xc_check {M : Model} {nameV : Value} {Q : Unit → Shared → Prop} (X : K.In h) (Z : XCl K C) (I : XAt h a oe C) (hq : Q () ⟨h, g, d, t, os⟩) : wpAny M A (checkBuiltinCall "BaseException.__getattribute__" ⟨[.ref a, nameV], []⟩) Q E ⟨h, g, d, t, os⟩ := by
  have hk : builtinKind "BaseException.__getattribute__" = some .slot := by decide +kernel
  have hsplit : splitId "BaseException.__getattribute__" = some ("BaseException", "__getattribute__") := by decide +kernel
  have ha := F.args_bexc_ga (.ref a) nameV
  have L0 := I.type (M := M)
  have L2 := looks_mroIn (M := M) X Z.be
  simp only [checkBuiltinCall, hk, hsplit]
  refine wpAny_bind ?_
  · unfold isInstance
    repeat (first | with_reducible refine L0.at ?_ | with_reducible refine L2.at ?_ | wp_step)
    exact hq
theorem xc_call {tk : Tok} {R : Result → Shared → Prop} (X : K.In h) (Z : XCl K C) (I : XAt h a oe C) (hq : R (.ok (.ret (.ref C))) ⟨h, g, d, t, os⟩) :
    codeAny (model prog w) A (.call (.builtin "BaseException.__getattribute__") ⟨[.ref a, .str "__class__" tk], []⟩) R ⟨h, g, d, t, os⟩ :=
  codeAny_call_builtin (by decide +kernel) F.entry_bexc_ga (xc_check X Z I (xc_entry X Z I hq))
theorem xc_by {tk : Tok} {fill expr : Bool} {Q : Value → Shared → Prop} (X : K.In h) (Z : XCl K C) (I : XAt h a oe C) (hq : Q (.ref C) ⟨h, g, d, t, os⟩) :
    wpAny (model prog w) A (getAttrBy (.ref a) (.str "__class__" tk) fill expr) Q E ⟨h, g, d, t, os⟩ := by
  have L0 := I.type (M := model prog w)
  have L1 := looks_findIn (M := model prog w) X Z.ga
  have L2 := looks_findIn (M := model prog w) X Z.gt
  have f3 := F.excAttr_ValueError.ga.bind (.ref a)
  have hx0 : (expr && onTheHeap (Value.builtin "BaseException.__getattribute__")) = false := by cases expr <;> rfl
  have hx2 : (Value.builtin "BaseException.__getattribute__" == Value.builtin "object.__getattribute__") = false := by decide +kernel
  have hx1 : (onTheHeap (Value.ref C) && Value.builtin "BaseException.__getattribute__" == Value.builtin "object.__getattribute__") = false := by rw [hx2]; rfl
  repeat (any_goals (first | assumption | with_reducible refine L0.at ?_ | with_reducible refine L1.at ?_ | with_reducible refine L2.at ?_ | wp_step))
  refine xc_call X Z I ?_
  repeat (any_goals (first | assumption | wp_step))
theorem xc_attr {Q : Option Value → Shared → Prop} (X : K.In s.heap) (Z : XCl K C) (I : XAt s.heap a oe C) (hq : Q (some (.ref C)) { s with toks := s.toks + 1 }) : wpAny (model prog w) A (getAttr? (.ref a) "__class__") Q E s := by
  obtain ⟨h, g, d, t, os⟩ := s
  unfold getAttr? getAttrBy?
  repeat (any_goals (first | assumption | with_reducible apply xc_by X Z I | wp_step))
theorem kitx_exc (Z : XCl K C) : KitX K (.ref a) (.ref C) (fun h => XAt h a oe C) where
  ty := fun _ _ _ I => I.type
  it := fun _ _ X _ => by
    have z := Z.is
    unfold clsIn at z
    split at z
    · rename_i c' d' cd' sl' ho
      intro A' Q' E' s' k q
      unfold isType loadHead
      exact wpAny_bind (wpAny_loadPart (k _ _ (X _ _ ho)) (wpAny_pure q))
    · cases z
  ne := fun h tp dd its n sl X htp => by
    refine Bool.eq_false_iff.mpr fun q => ?_
    have e : C = tp := Value.ref.inj (beq_iff_eq.mp q)
    subst e
    have z := Z.is
    unfold clsIn at z
    split at z
    · rename_i c' d' cd' sl' ho
      have z2 := (X _ _ ho).symm.trans htp
      cases z2
    · cases z
  ca := fun X I k => xc_attr X Z I k
end
/-- isinstance(e, ..) of the exception that the suite holds -/
def rIsX (K : Frag) (a C : Addr) : List V → Hp → VK → Prop := fun xs H Q =>
  (∃ (D : Addr) (b : Bool), xs = [.ref a, .ref D] ∧ kitOne K (.ref C) (.ref D) = some b ∧ Q (.bl b) H) ∨ (∃ (T : String) (b : Bool), xs = [.ref a, .ty T] ∧ kitOne K (.ref C) (.type T) = some b ∧ Q (.bl b) H) ∨
  (∃ (tp : Addr) (Ds : List Addr) (b : Bool), xs = [.ref a, .ref tp] ∧ SqT K H tp (Ds.map V.ref) ∧ kitAny K (.ref C) (Ds.map Value.ref) = some b ∧ Q (.bl b) H)
theorem refs_vals : ∀ {Ds : List Addr} {us : List Value}, Vals (Ds.map V.ref) us → us = Ds.map Value.ref
  | [], _, .nil => rfl
  | _ :: _, _, .cons r t => by cases r; rw [refs_vals t]; rfl
theorem isi_exc {X : Cx} {a C : Addr} {oe : Obj} (hp : (a, oe) ∈ X.pn) (hc : oe.cls = .ref C) (Z : XCl X.K C) : CallR X (.builtin "isinstance") (rIsX X.K a C) := by
  intro pins s σ H xs us Q I rr h
  have J : XAt s.heap a oe C := ⟨(I.pin (a, oe) (List.mem_append_left _ hp)).1, hc⟩
  have nl : (Value.ref a) ≠ .builtin "__main__.__loader__#opaque" := by intro z; cases z
  rcases h with ⟨D, b, rfl, e, q⟩ | ⟨T, b, rfl, e, q⟩ | ⟨tp, Ds, b, rfl, ht, e, q⟩
  · obtain ⟨u, v, rfl, r1, r2⟩ := rr.two
    cases r1; cases r2
    exact kia_one (kitx_exc Z) I.kIn J e nl fun tk => ⟨.bl b, H, I.tok _, rfl, q⟩
  · obtain ⟨u, v, rfl, r1, r2⟩ := rr.two
    cases r1; cases r2
    exact kia_one (kitx_exc Z) I.kIn J e nl fun tk => ⟨.bl b, H, I.tok _, rfl, q⟩
  · obtain ⟨u, v, rfl, r1, r2⟩ := rr.two
    cases r1; cases r2
    obtain ⟨its, rv, ⟨o, ho, ho2, n, ho3⟩, _⟩ := I.tuple ht
    have ei := refs_vals rv
    subst ei
    obtain ⟨oc, od, odt, osl⟩ := o
    dsimp only at ho2 ho3
    subst ho2 ho3
    exact kia_tup (kitx_exc Z) I.kIn J ho e nl fun tk => ⟨.bl b, H, I.tok _, rfl, q⟩
end L2

namespace L2
open PySem PySem.Spec PyProof.Rows
/-- what a for wants of its iterator -/
abbrev loopR (g : TG) (tb : TS) (D : Ends) (σ : St) (J : It) (H1 : Hp) : Prop := ∃ W : Nat → Nat → St → Hp → Prop, (∃ m, W 0 m σ H1) ∧ ∀ i m σ H, W i m σ H →
  (J.stop i H ∧ D.nx σ H) ∨ (J.go i H ∧ ∃ N : St → Hp → Prop, (∀ σ' H', N σ' H' → ∃ m', m' < m ∧ W (i + 1) m' σ' H') ∧ ∀ x H', J.yld i H x H' → g x σ H' fun σ2 H2 => tb { D with nx := N, ct := N, bk := D.nx } σ2 H2)
end L2

namespace L2
open PySem PySem.Spec PyProof.Rows
section
variable {X : Cx} {K : PySem.W.Frag} {T id : String} {name : Str} {r : V → List V → Hp → VK → Prop} {o e : Expr} {es : List Expr} {to : TE} {t : TA} {apos cpos : Pos} {tg l : Expr} {tl : TE}
theorem isi_excK (hK : X.K = K) {a C : Addr} {oe : Obj} (hp : (a, oe) ∈ X.pn) (hc : oe.cls = .ref C) (Z : XCl K C) : CallR X (.builtin "isinstance") (rIsX K a C) := by subst hK; exact isi_exc hp hc Z
theorem pi_listK (hK : X.K = K) (hl : PE X l tl) : PI X tg l (iList K tl) := by subst hK; exact pi_list hl
end
end L2
end
section
set_option Elab.async false
set_option linter.all false
set_option maxRecDepth 100000
set_option maxHeartbeats 4000000

namespace L2
open PySem PySem.Spec PyProof.Rows
section
variable {X : Cx} {st : Stmt} {rest : List Stmt} {t u : TS}
/-- a block with a claim in its midst -/
def tMid (t u : TS) : TS := fun D σ H => ∃ M : St → Hp → Prop, t { D with nx := M } σ H ∧ ∀ σ' H', M σ' H' → u D σ' H'
theorem pss_mid (h1 : PS X st t) (h2 : PSs X rest u) : PSs X (st :: rest) (tMid t u) := by
  intro pins s σ H D I h
  obtain ⟨M, ha, hb⟩ := h
  refine wpAny_execs_cons (thn (h1 pins s σ H { D with nx := M } I ha) fun f s1 q => ?_)
  cases f with
  | next =>
    obtain ⟨σ', H', I', q⟩ := q
    exact h2 pins s1 σ' H' D I' (hb _ _ q)
  | ret v => exact q
  | brk => exact q
  | cont => exact q
end
end L2
end
section
set_option Elab.async false
set_option linter.all false
set_option maxRecDepth 100000
set_option maxHeartbeats 4000000

namespace L2
open PySem PySem.Spec PyProof.Rows PySem.W
section
variable {X : Cx}
theorem Vals.app {xs ys : List V} {us vs : List Value} (h : Vals xs us) (k : Vals ys vs) : Vals (xs ++ ys) (us ++ vs) := by
  induction h with
  | nil => exact k
  | cons r t ih => exact .cons r ih
/-- xs + ys of lists -/
def rAddL (K : PySem.W.Frag) : R2 := fun x y H Q => ∃ a b xs ys, x = .ref a ∧ y = .ref b ∧ SqL K H a xs ∧ SqL K H b ys ∧ xs.length + ys.length ≤ sizeLine ∧ ∀ p, H p = none → Q (.ref p) (upd H p (.lst (xs ++ ys)))
theorem op_addL : OpR X (binaryOp .Add) (rAddL X.K) := by
  intro pins s σ H x y v u Q I rx ry h
  obtain ⟨a, b, xs, ys, rfl, rfl, ha, hb, hz, q⟩ := h
  cases rx; cases ry
  obtain ⟨vs, r1, p1, _⟩ := I.list ha
  obtain ⟨ws, r2, p2, _⟩ := I.list hb
  have hl := p1.isList
  have hb' := p2.isList
  obtain ⟨⟨cls, dd, data, sl⟩, ho, hc, n, hd⟩ := id hl
  obtain ⟨⟨cls2, dd2, data2, sl2⟩, ho2, hc2, n2, hd2⟩ := id hb'
  simp only at hc hd hc2 hd2
  subst hc hd hc2 hd2
  have e : vs.toArray ++ ws.toArray = (vs ++ ws).toArray := by simp
  have l1 := r1.length
  have l2 := r2.length
  refine concat_meets ⟨_, ho, rfl⟩ ⟨_, ho2, rfl⟩ noFill_list_add seq_list_add PySem.F.slot_list_add PySem.F.entry_list_add (PySem.F.args_list_add_2 _ _) (list_addW a b vs.toArray ws.toArray n n2 dd dd2 sl sl2 (by rw [List.size_toArray, List.size_toArray]; omega)) ⟨ho, ho2, ?_⟩
  rw [e]
  refine ⟨.ref s.heap.objs.size, _, I.laid (t' := s.toks) (o := .lst (xs ++ ys)) (fun b ob q => Heap.get?_push_of_some _ q) (Nat.le_refl _) ?_, rfl, q _ (I.hok.fresh (Nat.le_refl _))⟩
  exact ⟨by rw [List.length_append]; exact hz, _, 0, Vals.app r1 r2, Heap.get?_push_size _ rfl⟩
/-- isinstance(x, C) of a C -/
structure Own (K : Frag) (C : Addr) : Prop where
  ha : findIn K (.ref C) "__class__" = some (some (.builtin "object.__class__"))
  hn : specialIn K (.builtin "object.__class__") "__get__" = some (some (.builtin "getset_descriptor.__get__"))
  tk : takesIn K (.builtin "object.__class__") = some true
  hm : mroIn K C (.type "object") = some true
  is : kitOne K (.ref C) (.ref C) = some true
end
/-- a def that may raise, where it does not -/
theorem passN {P : Program} {w : World} {X : Cx} : Passes (CXF P w) X E0 := fun _ _ _ _ _ _ _ h => by
  obtain ⟨a, cls, H2, _, _, h⟩ := h
  exact h.elim
end L2
end
section
set_option Elab.async false
set_option linter.all false
set_option maxRecDepth 100000
set_option maxHeartbeats 4000000

namespace L2
open PySem PySem.Spec PyProof.Rows

section
variable {κ : Type} [DecidableEq κ]
def valV (kvs : List (κ × V)) (k : κ) : Option V := (kvs.find? fun kv => decide (kv.1 = k)).map (·.2)
/-- in its place, or at the end -/
def putK (kvs : List (κ × V)) (k : κ) (v : V) : List (κ × V) :=
  if (kvs.any fun kv => decide (kv.1 = k)) = true then kvs.map (fun kv => if kv.1 = k then (kv.1, v) else kv) else kvs ++ [(k, v)]
theorem valV_pos {p : κ × V} {r : List (κ × V)} {k : κ} (e : p.1 = k) : valV (p :: r) k = some p.2 := by simp [valV, List.find?_cons, e]
theorem valV_neg {p : κ × V} {r : List (κ × V)} {k : κ} (e : ¬ p.1 = k) : valV (p :: r) k = valV r k := by simp [valV, List.find?_cons, e]
theorem valV_any (k : κ) : ∀ kvs : List (κ × V), (kvs.any fun kv => decide (kv.1 = k)) = (valV kvs k).isSome
  | [] => rfl
  | p :: r => by
    rw [List.any_cons]
    by_cases e : p.1 = k
    · simp only [valV_pos e, decide_eq_true e, Bool.true_or, Option.isSome_some]
    · rw [valV_neg e, decide_eq_false e, Bool.false_or]; exact valV_any k r
theorem length_putK (kvs : List (κ × V)) (k : κ) (v : V) : (putK kvs k v).length ≤ kvs.length + 1 := by
  unfold putK
  split
  · rw [List.length_map]; omega
  · rw [List.length_append, List.length_cons, List.length_nil]; omega
theorem RelO.isSome_eq {o : Option V} {u : Option Value} (r : RelO o u) : o.isSome = u.isSome := by
  cases o with
  | none => cases u with
    | none => rfl
    | some _ => exact (show False from r).elim
  | some _ => cases u with
    | none => exact (show False from r).elim
    | some _ => rfl
theorem RelO.getD {o : Option V} {u : Option Value} {d : V} {d' : Value} (r : RelO o u) (rd : RelV d d') : RelV (o.getD d) (u.getD d') := by
  cases o with
  | none => cases u with
    | none => exact rd
    | some _ => exact (show False from r).elim
  | some _ => cases u with
    | none => exact (show False from r).elim
    | some _ => exact r

/-- raw tables of the same keys -/
theorem KV.val {kvs : List (κ × V)} {vs : List (κ × Value)} (r : KV kvs vs) (k : κ) : RelO (valV kvs k) (valueAt vs k) := by
  unfold KV at r
  induction r with
  | nil => exact True.intro
  | @cons p q ps qs h t ih =>
    obtain ⟨h1, h2⟩ := h
    by_cases e : p.1 = k
    · have e' : q.1 = k := h1.symm.trans e
      have b : valueAt (q :: qs) k = some q.2 := by simp [valueAt, List.find?_cons, e']
      rw [valV_pos e, b]; exact h2
    · have e' : ¬ q.1 = k := fun z => e (h1.trans z)
      have b : valueAt (q :: qs) k = valueAt qs k := by simp [valueAt, List.find?_cons, e']
      rw [valV_neg e, b]; exact ih
theorem KV.any {kvs : List (κ × V)} {vs : List (κ × Value)} (r : KV kvs vs) (k : κ) : (kvs.any fun kv => decide (kv.1 = k)) = vs.any fun kv => decide (kv.1 = k) := by
  unfold KV at r
  induction r with
  | nil => rfl
  | cons h t ih => rw [List.any_cons, List.any_cons, ih, h.1]
theorem KV.repl {kvs : List (κ × V)} {vs : List (κ × Value)} (r : KV kvs vs) (k : κ) {y : V} {u : Value} (ry : RelV y u) :
    KV (kvs.map fun kv => if kv.1 = k then (kv.1, y) else kv) (vs.map fun kv => if kv.1 = k then (kv.1, u) else kv) := by
  unfold KV at r ⊢
  induction r with
  | nil => exact .nil
  | @cons p q ps qs h t ih =>
    rw [List.map_cons, List.map_cons]
    refine .cons ?_ ih
    obtain ⟨h1, h2⟩ := h
    by_cases e : p.1 = k
    · rw [if_pos e, if_pos (h1.symm.trans e)]; exact ⟨h1, ry⟩
    · rw [if_neg e, if_neg (fun z => e (h1.trans z))]; exact ⟨h1, h2⟩
theorem KV.put {kvs : List (κ × V)} {vs : List (κ × Value)} (r : KV kvs vs) (k : κ) {y : V} {u : Value} (ry : RelV y u) : KV (putK kvs k y) (stored vs k u) := by
  unfold putK stored
  rw [r.any k]
  by_cases e : (vs.any fun kv => decide (kv.1 = k)) = true
  · rw [if_pos e, if_pos e]; exact r.repl k ry
  · rw [if_neg e, if_neg e]; exact Paired.snoc r ⟨rfl, ry⟩
theorem KV.length {kvs : List (κ × V)} {vs : List (κ × Value)} (r : KV kvs vs) : kvs.length = vs.length := Paired.length r
end


theorem kV_is {P : Program} {w : World} {k : Key} {u : Value} (r : RelV (kV k) u) : (mixKind P w).is k u = true := by
  cases k with
  | inl i => obtain ⟨t, e⟩ := (show ∃ t, u = Value.int i t from r); subst e; exact mixKind_int P w i t
  | inr x => obtain ⟨t, e⟩ := (show ∃ t, u = Value.str x t from r); subst e; exact mixKind_str P w x t
theorem items_are {P : Program} {w : World} : ∀ {ks : List Key} {us : List Value}, Vals (ks.map kV) us → ItemsAre (mixKind P w) ks us
  | [], _, r => by rw [List.map_nil] at r; cases r; exact .nil
  | k :: ks, _, r => by
    rw [List.map_cons] at r
    cases r with
    | cons h t => exact .cons (kV_is h) (items_are t)

/-- raw entries of a dict with tuple keys -/
abbrev KT (H : Hp) : List (List Key × V) → List (List Key × Addr × Value) → Prop := Paired fun p q => p.1 = q.1 ∧ H q.2.1 = some (.tup (p.1.map kV)) ∧ RelV p.2 q.2.2
theorem KT.val {H : Hp} {kvs : List (List Key × V)} {xs : List (List Key × Addr × Value)} (r : KT H kvs xs) (k : List Key) : RelO (valV kvs k) ((atKey xs k).map (·.2)) := by
  induction r with
  | nil => exact True.intro
  | @cons p q ps qs h t ih =>
    obtain ⟨h1, _, h2⟩ := h
    by_cases e : p.1 = k
    · have e' : q.1 = k := h1.symm.trans e
      have b : atKey (q :: qs) k = some q.2 := by simp [atKey, List.find?_cons, e']
      rw [valV_pos e, b]; exact h2
    · have e' : ¬ q.1 = k := fun z => e (h1.trans z)
      have b : atKey (q :: qs) k = atKey qs k := by simp [atKey, List.find?_cons, e']
      rw [valV_neg e, b]; exact ih
theorem KT.repl {H : Hp} {kvs : List (List Key × V)} {xs : List (List Key × Addr × Value)} (r : KT H kvs xs) (k : List Key) {y : V} {u : Value} (ry : RelV y u) :
    KT H (kvs.map fun kv => if kv.1 = k then (kv.1, y) else kv) (xs.map (putAt k u)) := by
  induction r with
  | nil => exact .nil
  | @cons p q ps qs h t ih =>
    rw [List.map_cons, List.map_cons]
    refine .cons ?_ ih
    obtain ⟨h1, h2, h3⟩ := h
    unfold putAt
    by_cases e : p.1 = k
    · rw [if_pos e, if_pos (h1.symm.trans e)]; exact ⟨h1, h2, ry⟩
    · rw [if_neg e, if_neg (fun z => e (h1.trans z))]; exact ⟨h1, h2, h3⟩
theorem KT.put {H : Hp} {kvs : List (List Key × V)} {xs : List (List Key × Addr × Value)} (r : KT H kvs xs) (k : List Key) {b : Addr} {y : V} {u : Value} (hb : H b = some (.tup (k.map kV))) (ry : RelV y u) :
    KT H (putK kvs k y) (storedH xs k b u) := by
  have e : (kvs.any fun kv => decide (kv.1 = k)) = (atKey xs k).isSome := by
    rw [valV_any, (r.val k).isSome_eq, Option.isSome_map]
  unfold putK storedH
  rw [e]
  by_cases q : (atKey xs k).isSome = true
  · rw [if_pos q, if_pos q]; exact r.repl k ry
  · rw [if_neg q, if_neg q]; exact Paired.snoc r ⟨rfl, hb, ry⟩
theorem KT.keeps {H H' : Hp} {kvs : List (List Key × V)} {xs : List (List Key × Addr × Value)} (r : KT H kvs xs) (ht : ∀ b ys, H b = some (.tup ys) → H' b = some (.tup ys)) : KT H' kvs xs :=
  Paired.mapP r fun _ _ z => ⟨z.1, ht _ _ z.2.1, z.2.2⟩

section
variable {P : Program} {w : World} {H : Hp} {h : Heap} {a : Addr}
theorem rd_of {u : HO} (ok : HOk P w H h) (e : Rd H a u) : ObjOk P w H h a u := e.ok ok
theorem dk_rd {kvs : List (Key × V)} (ok : HOk P w H h) (e : Rd H a (.dK kvs)) : kvs.length ≤ sizeLine ∧ (a == sysModules) = false ∧ ∃ vs, KV kvs vs ∧ h.DictOf (mixKind P w) a vs :=
  show ObjOk P w H h a (.dK kvs) from rd_of ok e
theorem dk_of {kvs : List (Key × V)} (ok : HOk P w H h) (e : H a = some (.dK kvs)) : kvs.length ≤ sizeLine ∧ (a == sysModules) = false ∧ ∃ vs, KV kvs vs ∧ h.DictOf (mixKind P w) a vs := dk_rd ok (.inl e)
/-- a tracked tuple of ints and texts is a key -/
theorem key_of {ks : List Key} (ok : HOk P w H h) (e : H a = some (.tup (ks.map kV))) : (tupleKind (mixKind P w)).is h ks a := by
  obtain ⟨_, its, r, o, h1, h2, n, h3⟩ := (show ObjOk P w H h a (.tup (ks.map kV)) from ok a _ e)
  exact ⟨o, its.toArray, n, h1, h2, h3, by simpa using items_are r⟩
theorem dt_rd {kvs : List (List Key × V)} (ok : HOk P w H h) (e : Rd H a (.dT kvs)) : kvs.length ≤ sizeLine ∧ (a == sysModules) = false ∧
    ∃ xs, KT H kvs xs ∧ h.DictOfH (tupleKind (mixKind P w)) a xs := by
  obtain ⟨z, y, xs, r, o, es, ep, h1, h2, h3, h4, h5⟩ := (show ObjOk P w H h a (.dT kvs) from rd_of ok e)
  refine ⟨z, y, xs, r, o, es, ep, h1, h2, h3, h4, fun x hx => ?_, h5⟩
  have all : ∀ {l : List (List Key × V)} {m : List (List Key × Addr × Value)}, KT H l m → ∀ x ∈ m, (tupleKind (mixKind P w)).is h x.1 x.2.1 := by
    intro l m q
    induction q with
    | nil => intro x hx; exact nomatch hx
    | @cons p q ps qs hq t ih =>
      intro x hx
      rcases List.mem_cons.mp hx with e | hx
      · subst e
        exact key_of ok (by rw [← hq.1]; exact hq.2.1)
      · exact ih x hx
  exact all r x hx
theorem dt_of {kvs : List (List Key × V)} (ok : HOk P w H h) (e : H a = some (.dT kvs)) : kvs.length ≤ sizeLine ∧ (a == sysModules) = false ∧
    ∃ xs, KT H kvs xs ∧ h.DictOfH (tupleKind (mixKind P w)) a xs := dt_rd ok (.inl e)
end

/-- what the dict at a holds at the key y -/
def DGet (H : Hp) (a : Addr) (y : V) (r : Option V) : Prop :=
  (∃ kvs k, Rd H a (.dK kvs) ∧ y = kV k ∧ r = valV kvs k) ∨ ∃ kvs k b, Rd H a (.dT kvs) ∧ y = .ref b ∧ H b = some (.tup (k.map kV)) ∧ r = valV kvs k
/-- the heap behind a[y] = v -/
def DPut (H : Hp) (a : Addr) (y v : V) (H' : Hp) : Prop :=
  (∃ kvs k, H a = some (.dK kvs) ∧ y = kV k ∧ kvs.length < sizeLine ∧ H' = upd H a (.dK (putK kvs k v))) ∨
  ∃ kvs k b, H a = some (.dT kvs) ∧ y = .ref b ∧ H b = some (.tup (k.map kV)) ∧ kvs.length < sizeLine ∧ H' = upd H a (.dT (putK kvs k v))
theorem DGet.t {H : Hp} {a b : Addr} {kvs : List (List Key × V)} {k : List Key} (e : H a = some (.dT kvs)) (eb : H b = some (.tup (k.map kV))) : DGet H a (.ref b) (valV kvs k) := .inr ⟨kvs, k, b, .inl e, rfl, eb, rfl⟩
theorem DPut.t {H : Hp} {a b : Addr} {kvs : List (List Key × V)} {k : List Key} {v : V} (e : H a = some (.dT kvs)) (eb : H b = some (.tup (k.map kV))) (hl : kvs.length < sizeLine) :
    DPut H a (.ref b) v (upd H a (.dT (putK kvs k v))) := .inr ⟨kvs, k, b, e, rfl, eb, hl, rfl⟩


section
variable {X : Cx} {pins : List (Addr × Obj)} {σ : St} {H : Hp} {s : Shared} {a : Addr} {y v : V} {u r : Value} {o : Option V} {A : Around} {E : Value → Shared → Prop}

theorem Inv.big (I : Inv X pins σ H s) : sysModules < s.heap.objs.size := by
  have h : mainGlobals < s.heap.objs.size := (I.mod.glob.keeps I.bk).lt
  exact Nat.lt_trans (by decide) h

/-- d[y], there -/
theorem d_getItem {Q : Value → Shared → Prop} (hu : A.units + 1 < cLine) (I : Inv X pins σ H s) (g : DGet H a y (some v)) (ry : RelV y u) (h : ∀ w' s', Inv X pins σ H s' → RelV v w' → Q w' s') :
    wpAny (model X.prog X.w) A (getItem (.ref a) u) Q E s := by
  rcases g with ⟨kvs, k, e, ey, l⟩ | ⟨kvs, k, b, e, ey, eb, l⟩
  · subst ey
    obtain ⟨z, hd, vs, rel, dd⟩ := dk_rd I.hok e
    obtain ⟨w', hw, rw'⟩ := RelO.some_of (v := v) (o := valueAt vs k) (by rw [l]; exact rel.val k)
    exact wpAny_getItem_of (kV_is ry) dd.mapOf hw (h w' _ (I.tok _) rw')
  · subst ey
    cases (show u = Value.ref b from ry)
    obtain ⟨z, hd, xs, rel, dd⟩ := dt_rd I.hok e
    obtain ⟨w', hw, rw'⟩ := RelO.some_of (v := v) (o := (atKey xs k).map (·.2)) (by rw [l]; exact rel.val k)
    obtain ⟨p, hp, hp2⟩ := Option.map_eq_some_iff.mp hw
    refine wpAny_getItem_heap (tupleKind_room_in1 hu) (key_of I.hok eb) dd hp ?_
    rw [hp2]
    exact h w' _ (I.tok _) rw'
/-- a dict's object is replaced -/
theorem d_write {h' : Heap} {t' : Nat} {ob : HO} (I : Inv X pins σ H s) (mu : Mut (H a)) (hs : Heap.SameBut a s.heap h') (he : ∃ q, h'.get? a = some q) (new : ObjOk X.prog X.w (upd H a ob) h' a ob) :
    Inv X pins σ (upd H a ob) { s with heap := h', toks := t' } :=
  I.write (x := a) (e := a) mu (.inl rfl) (fun b q hb z => (hs.2 b hb).trans z) he new
theorem dk_new {P : Program} {w : World} {H' : Hp} {h' : Heap} {kvs : List (Key × V)} {vs : List (Key × Value)} (z : kvs.length ≤ sizeLine) (hd : (a == sysModules) = false) (rel : KV kvs vs) (dd : h'.DictOf (mixKind P w) a vs) :
    ObjOk P w H' h' a (.dK kvs) := ⟨z, hd, vs, rel, dd⟩
/-- d[y] = v -/
theorem d_setItem {H' : Hp} {Q : Unit → Shared → Prop} (hu : A.units + 1 < cLine) (I : Inv X pins σ H s) (g : DPut H a y v H') (ry : RelV y u) (rv : RelV v r) (h : ∀ s', Inv X pins σ H' s' → Q () s') :
    wpAny (model X.prog X.w) A (setItem (.ref a) u r) Q E s := by
  rcases g with ⟨kvs, k, e, ey, l, eH⟩ | ⟨kvs, k, b, e, ey, eb, l, eH⟩
  · subst ey eH
    obtain ⟨z, hd, vs, rel, dd⟩ := dk_of I.hok e
    have hz : vs.length ≤ sizeLine := by rw [← rel.length]; exact z
    have hl : (putK kvs k v).length ≤ sizeLine := by have := length_putK kvs k v; omega
    refine wpAny_setItem_pairs (hsz := hz) (kV_is ry) dd fun h' dd' hs => h _ ?_
    have he : ∃ q, h'.get? a = some q := let ⟨q, _, _, hq, _⟩ := dd'; ⟨q, hq⟩
    exact d_write I (by rw [e]; exact True.intro) hs he (dk_new hl hd (rel.put k rv) dd')
  · subst ey eH
    cases (show u = Value.ref b from ry)
    obtain ⟨z, hd, xs, rel, dd⟩ := dt_of I.hok e
    have hz : xs.length ≤ sizeLine := by rw [← Paired.length rel]; exact z
    have hl : (putK kvs k v).length ≤ sizeLine := by have := length_putK kvs k v; omega
    refine wpAny_setItem_heap (hsz := hz) (tupleKind_room_in1 hu) (key_of I.hok eb) dd fun h' dd' hs => h _ ?_
    obtain ⟨q, es, ep, hq, h2, h3, h4, _, h5⟩ := dd'
    refine d_write I (by rw [e]; exact True.intro) hs ⟨q, hq⟩ ⟨hl, hd, _, (rel.put k eb rv).keeps fun c ys ec => ?_, q, es, ep, hq, h2, h3, h4, h5⟩
    rw [upd_ne (ne_of ec e (fun z => nomatch z))]
    exact ec
end

section
variable {X : Cx} {pins : List (Addr × Obj)} {σ : St} {H : Hp} {s : Shared} {a : Addr} {kvs : List (Key × V)} {k : Key} {u : Value} {A : Around} {E : Value → Shared → Prop}
end


/-- the element of a subscription, not a slice -/
def NoSl (i : Expr) : Prop := ∀ ov iv, subscripted i false ov iv = operate [ov, iv] (getItem ov iv)
theorem subD_of {prog : Program} {w : World} {A : Around} {E : Value → Shared → Prop} {s : Shared} {env : Env} {value slice : Expr} {pos : Pos} {T id : String} {Q : Value → Shared → Prop}
    (hl : typeLookup (.type T) "__getitem__" = pure (some (.builtin id))) (hs : NoSl slice)
    (h : wpAny (model prog w) A (eval value env) (fun o s₁ => wpAny (model prog w) A (eval slice env) (fun i s₂ => s₂.TypeIs o T ∧ wpAny (model prog w) A (getItem o i) Q E s₂) E s₁) E s) :
    wpAny (model prog w) A (eval (.Subscript value slice pos) env) Q E s := by
  refine Subscript_ (wpAny_mono h (fun o s₁ h₁ => wpAny_mono h₁ (fun i s₂ h₂ => ?_) fun _ _ x => x) fun _ _ x => x)
  obtain ⟨hT, h₂⟩ := h₂
  unfold subscriptTail
  refine wpAny_bind ?_
  rw [getitemInPython_of_ne hT.not_modules]
  refine wpAny_bind (wpAny_specialOf hT hl ?_)
  have fin : wpAny (model prog w) A (subscripted slice false o i) (fun r s₃ => wpAny (model prog w) A (letTemporaryGo value o r >>= fun _ => pure r) Q E s₃) E s₂ := by
    rw [hs o i]
    exact wpAny_operating (wpAny_mono h₂ (fun r s₃ h₃ => wpAny_bind (wpAny_letTemporaryGo (wpAny_pure h₃))) fun _ _ x => x)
  first
    | exact wpAny_pure (wpAny_bind fin)
    | exact wpAny_bind (wpAny_pure (wpAny_bind fin))
    | exact wpAny_bind fin

theorem dict_typeIs {X : Cx} {pins : List (Addr × Obj)} {σ : St} {H : Hp} {s : Shared} {a : Addr} {y : V} {o : Option V} (I : Inv X pins σ H s) (g : DGet H a y o) : s.TypeIs (.ref a) "dict" := by
  rcases g with ⟨kvs, k, e, _, _⟩ | ⟨kvs, k, b, e, _, _, _⟩
  · obtain ⟨_, _, vs, _, dd⟩ := dk_rd I.hok e
    exact dd.typeIs
  · obtain ⟨_, _, xs, _, dd⟩ := dt_rd I.hok e
    exact dd.typeIs
/-- d[y] -/
def tDGet (td ty : TE) : TE := fun σ H Q => td σ H fun x H1 => ty σ H1 fun y H2 => ∃ a v, x = .ref a ∧ DGet H2 a y (some v) ∧ Q v H2
/-- d[y] = v -/
def sDPut (td ty tv : TE) : TS := fun D σ H => tv σ H fun v H1 => td σ H1 fun x H2 => ty σ H2 fun y H3 => ∃ a H4, x = .ref a ∧ DPut H3 a y v H4 ∧ D.nx σ H4
section
variable {X : Cx} {o i e value : Expr} {pos pos' tpos : Pos} {td ty tv : TE}
theorem pe_dget (hu : X.A.units + 1 < cLine) (ho : PE X o td) (hi : PE X i ty) (hs : NoSl i) : PE X (.Subscript o i pos) (tDGet td ty) := by
  intro pins s σ H Q I h
  refine subD_of PySem.F.slot_dict_getitem.lookup hs (thn (ho pins s σ H _ I h) fun u s1 ⟨x, H1, I1, rx, q1⟩ => thn (hi pins s1 σ H1 _ I1 q1) fun iv s2 ⟨y, H2, I2, ry, a, v, ex, g, q2⟩ => ?_)
  subst ex
  obtain rfl : u = Value.ref a := rx
  exact ⟨dict_typeIs I2 g, d_getItem hu I2 g ry fun w' s3 I3 rw' => ⟨v, H2, I3, rw', q2⟩⟩
theorem ps_dput (hu : X.A.units + 1 < cLine) (ho : PE X o td) (hi : PE X i ty) (hv : PE X value tv) (hs : swapsWith value (some (.Subscript o i pos')) pos.line X.env = pure false) :
    PS X (.Assign [.Subscript o i pos'] value pos) (sDPut td ty tv) := by
  intro pins s σ H D I h
  refine wpAny_Assign_Subscript (thn (hv pins s σ H _ I h) fun r s1 ⟨v, H1, I1, rv, q1⟩ => thn (ho pins s1 σ H1 _ I1 q1) fun u s2 ⟨x, H2, I2, rx, q2⟩ => thn (hi pins s2 σ H2 _ I2 q2) fun iv s3 ⟨y, H3, I3, ry, a, H4, ex, g, q3⟩ => ?_) hs
  subst ex
  obtain rfl : u = Value.ref a := rx
  exact d_setItem hu I3 g ry rv fun s4 I4 => ⟨σ, H4, I4, q3⟩
end


theorem dt_empty {P : Program} {w : World} {H : Hp} (h : Heap) (hb : sysModules < h.objs.size) : ObjOk P w H (h.push { cls := .type "dict", data := .dict #[] }) h.objs.size (.dT []) :=
  ⟨Nat.zero_le _, beq_eq_false_iff_ne.mpr (Ne.symm (Nat.ne_of_lt hb)), [], .nil, _, #[], 0, Heap.get?_push_size _ rfl, ⟨rfl, rfl, rfl⟩, rfl, rfl, List.nodup_nil⟩
def tDNewT : TE := fun _ H Q => ∀ p, H p = none → Q (.ref p) (upd H p (.dT []))
section
variable {X : Cx} {pos : Pos}
theorem pe_dnewT : PE X (.Dict [] [] pos) tDNewT := fun pins s σ H Q I h =>
  wpAny_Dict_empty ⟨.ref s.heap.objs.size, _, I.laid (a := s.heap.objs.size) (o := .dT []) (t' := s.toks) (fun _ _ q => Heap.get?_push_of_some _ q) (Nat.le_refl _) (dt_empty s.heap I.big), rfl, h _ (I.hok.fresh (Nat.le_refl _))⟩
end

/-- a method call o.m(e) of a built-in, with one argument: what must be seen of the text -/
structure M1 (X : Cx) (o : Expr) (m : Str) (apos : Pos) (e : Expr) (cpos : Pos) : Prop where
  base : attributeBase o m X.env (eval o X.env) = eval o X.env
  few : ((backTo cpos (starEach [e] X.env)).all (fun x => !x.1) && (backToKw cpos (keywordEach [] X.env)).all (fun x => x.1.isSome)
    && decide (([e] : List Expr).length + ([] : List Keyword).length + (if ([] : List Keyword).isEmpty then 0 else 1) < 30)) = true
  line : (apos.endLine == cpos.line) = true
  trees : backTo cpos (starEach [e] X.env) = [(false, eval e X.env)]
structure M2 (X : Cx) (o : Expr) (m : Str) (apos : Pos) (e f : Expr) (cpos : Pos) : Prop where
  base : attributeBase o m X.env (eval o X.env) = eval o X.env
  few : ((backTo cpos (starEach [e, f] X.env)).all (fun x => !x.1) && (backToKw cpos (keywordEach [] X.env)).all (fun x => x.1.isSome)
    && decide (([e, f] : List Expr).length + ([] : List Keyword).length + (if ([] : List Keyword).isEmpty then 0 else 1) < 30)) = true
  line : (apos.endLine == cpos.line) = true
  trees : backTo cpos (starEach [e, f] X.env) = [(false, eval e X.env), (false, eval f X.env)]

/-- a is a dict, whatever its keys -/
def IsD (H : Hp) (a : Addr) : Prop := (∃ kvs, Rd H a (.dK kvs)) ∨ ∃ kvs, Rd H a (.dT kvs)
theorem isD_at {X : Cx} {pins : List (Addr × Obj)} {σ : St} {H : Hp} {s : Shared} {a : Addr} (I : Inv X pins σ H s) (d : IsD H a) :
    s.TypeIs (.ref a) "dict" ∧ (∀ b, Value.ref a = .ref b → ∃ ob, s.heap.get? b = some ob ∧ ob.dict = none) ∧ (a == sysModules) = false := by
  rcases d with ⟨kvs, e⟩ | ⟨kvs, e⟩
  · obtain ⟨_, hd, vs, _, dd⟩ := dk_rd I.hok e
    refine ⟨dd.typeIs, fun b q => ?_, hd⟩
    cases q
    obtain ⟨ob, _, _, h1, h2, _⟩ := dd
    exact ⟨ob, h1, h2.2.1⟩
  · obtain ⟨_, hd, xs, _, dd⟩ := dt_rd I.hok e
    refine ⟨dd.typeIs, fun b q => ?_, hd⟩
    cases q
    obtain ⟨ob, _, _, h1, h2, _⟩ := dd
    exact ⟨ob, h1, h2.2.1⟩

section
variable {X : Cx} {pins : List (Addr × Obj)} {σ : St} {H : Hp} {s : Shared} {a : Addr} {y d : V} {u r : Value} {o : Option V} {A : Around} {E : Value → Shared → Prop}
/-- d.get(y, x) -/
theorem d_get2 {Q : Value → Shared → Prop} (hu : A.units + 1 < cLine) (I : Inv X pins σ H s) (g : DGet H a y o) (ry : RelV y u) (rd : RelV d r) (h : ∀ w' s', Inv X pins σ H s' → RelV (o.getD d) w' → Q w' s') :
    wpAny (model X.prog X.w) A (call (.builtin "dict.get") [.ref a, u, r]) Q E s := by
  rcases g with ⟨kvs, k, e, ey, l⟩ | ⟨kvs, k, b, e, ey, eb, l⟩
  · subst ey
    obtain ⟨z, hd, vs, rel, dd⟩ := dk_rd I.hok e
    refine call_meetsIn PySem.F.slot_dict_get dd.typeIs PySem.F.entry_dict_get (PySem.F.args_dict_get_3 _ _ _) (meets_dict_get_default (mixKind X.prog X.w) a (kV_is ry) hd r) ⟨_, dd.mapOf, h _ _ (I.tok _) ?_⟩
    rw [l]
    exact (rel.val k).getD rd
  · subst ey
    cases (show u = Value.ref b from ry)
    obtain ⟨z, hd, xs, rel, dd⟩ := dt_rd I.hok e
    refine call_meetsIn PySem.F.slot_dict_get dd.typeIs PySem.F.entry_dict_get (PySem.F.args_dict_get_3 _ _ _) (meetsH_dict_get_default (tupleKind (mixKind X.prog X.w)) a b hd r) ⟨tupleKind_room_in1 hu, k, xs, key_of I.hok eb, dd, h _ _ (I.tok _) ?_⟩
    rw [l]
    exact (rel.val k).getD rd
end

def tDGet2 (td ty tx : TE) : TE := fun σ H Q => td σ H fun x H1 => ∃ a, x = .ref a ∧ IsD H1 a ∧ ty σ H1 fun y H2 => tx σ H2 fun z H3 => ∃ o, DGet H3 a y o ∧ Q (o.getD z) H3
section
variable {X : Cx} {o e f : Expr} {apos cpos : Pos} {td ty tx : TE}
theorem pe_dget2 (hu : X.A.units + 1 < cLine) (ho : PE X o td) (he : PE X e ty) (hf : PE X f tx) (m : M2 X o "get" apos e f cpos) : PE X (.Call (.Attribute o "get" apos) [e, f] [] cpos) (tDGet2 td ty tx) := by
  intro pins s σ H Q I h
  refine wpAny_Call_method m.base m.few m.line PySem.F.plainAttrs_dict PySem.F.slot_dict_get PySem.F.type_dict_get (thn (ho pins s σ H _ I h) fun u s1 ⟨x, H1, I1, rx, a, ex, d, q1⟩ => ?_)
  subst ex
  obtain rfl : u = Value.ref a := rx
  obtain ⟨t1, t2, _⟩ := isD_at I1 d
  refine ⟨t1, t2, ?_⟩
  rw [m.trees]
  refine Calls.callWith_builtin rfl (Calls.evalArgs_plain (Calls.spliced_cons (thn (he pins s1 σ H1 _ I1 q1) fun iv s2 ⟨y, H2, I2, ry, q2⟩ =>
    Calls.spliced_cons (thn (hf pins s2 σ H2 _ I2 q2) fun fv s3 ⟨z, H3, I3, rz, ov, g, q3⟩ => Calls.spliced_nil ?_))))
  exact d_get2 hu I3 g ry rz fun w' s4 I4 rw' => ⟨_, H3, I4, rw', q3⟩
end

section
variable {X : Cx} {pins : List (Addr × Obj)} {σ : St} {H : Hp} {s : Shared} {a : Addr} {kvs : List (Key × V)} {A : Around} {E : Value → Shared → Prop}
end


section
variable {X : Cx} {pins : List (Addr × Obj)} {σ : St} {H : Hp} {s : Shared} {a : Addr} {y : V} {u : Value} {A : Around} {E : Value → Shared → Prop}
end
end L2

namespace L2
open PySem PySem.Spec PyProof.Rows
section
variable {κ : Type} [DecidableEq κ]
end
end L2
end
section
set_option Elab.async false
set_option linter.all false
set_option maxRecDepth 100000
set_option maxHeartbeats 4000000

namespace L2
open PySem PySem.Spec PyProof.Rows
open Sem (wp)
section
variable {prog : Program} {w : World} {A : Around} {E : Value → Shared → Prop} {s : Shared}
theorem meets_items (prog : Program) (w : World) (d : Addr) (hd : (d == sysModules) = false) :
    MeetsIn prog w (Builtin.«dict.items» ⟨[.ref d], []⟩) (fun _ R s => s.TypeIs (.ref d) "dict" ∧
      R (.ok (.ret (.ref s.heap.objs.size))) { s with heap := s.heap.push { cls := .type "dict_items", data := .fields #[.ref d] } }) :=
  .of_wp fun A R s ⟨hm, h⟩ => by
    unfold Builtin.«dict.items»
    refine wpAny_bind ?_
    unfold Builtin.Dict.noArgs
    refine wpAny_bind (wpAny_notOrdered_dict hm ?_)
    show wpAny _ _ (pure d) _ _ s
    refine wpAny_pure ?_
    show wpAny _ _ (Builtin.Dict.showsAll d >>= _) _ _ s
    unfold Builtin.Dict.showsAll
    rw [if_neg (by rw [hd]; exact Bool.false_ne_true)]
    refine wpAny_bind (wpAny_pure ?_)
    exact wpAny_bind (wpAny_newObj_type (wpAny_pure ⟨_, rfl, h⟩))

theorem iter_items {v d : Addr} {o : Obj} {es : Array DictEntry} {ep : Nat} {Q : Value → Shared → Prop} (hv : s.heap.IsItemsView v d) (ho : s.heap.get? d = some o) (hdat : o.data = .dict es ep)
    (hQ : Q (.ref s.heap.objs.size) { s with heap := s.heap.push { cls := .type "dict_itemiterator", data := .fields #[.none, .bool false, .ref d, .int 0 0, .int es.size 0, .int ep 0, .none, .none] } }) :
    wpAny (model prog w) A (pyIter (.ref v)) Q E s := by
  obtain ⟨ov, hov, hcv, hdv⟩ := id hv
  refine wpAny_pyIter_slot hv.typeIs F.slot_dict_items_iter (wpAny_call_entry F.slot_dict_items_iter hv.typeIs F.entry_dict_items_iter ?_ (F.args_dict_items_iter_1 _))
  unfold Builtin.«dict_items.__iter__»
  refine wpAny_bind (wpAny_pure ?_)
  refine wpAny_bind ?_
  unfold Builtin.Dict_items.dictOf
  refine wpAny_bind (wpAny_field hov hdv (x := .ref d) rfl (wpAny_pure ?_))
  refine wpAny_bind ?_
  unfold Builtin.Dict_items.newIterator
  refine wpAny_bind (wpAny_dictEntries ho hdat ?_)
  refine wpAny_bind (wpAny_dictEpoch ho hdat ?_)
  have hown : Builtin.Dict_items.ownsTuple "dict_itemiterator" = true := by decide
  simp only [hown, if_true]
  refine wpAny_newObj_type (wpAny_pure ⟨_, rfl, "dict_itemiterator", _, ⟨_, Heap.get?_push_size _ rfl, rfl⟩, F.slot_dict_itemiterator_next.lookup, ?_⟩)
    (by simp only [sizeOk, Builtin.Dict_items.ownedTupleFields, List.size_toArray, List.length_append, List.length_cons, List.length_nil, sizeLine_eq]; omega)
  simpa [rawInt, Builtin.Dict_items.ownedTupleFields] using hQ

theorem next_item {it d : Addr} {i ep : Nat} {es : Array DictEntry} {od : Obj} {ok ov : Value} {Q : Option Value → Shared → Prop} (hit : IsItemIter s.heap it d i es.size ep ok ov)
    (hod : s.heap.get? d = some od) (hdd : od.data = .dict es ep) (hlt' : i < es.size)
    (hQ : ∀ h', IsItemIterOut h' it d (i + 1) es.size ep es[i].key es[i].val s.heap.objs.size →
      h'.get? s.heap.objs.size = some { cls := .type "tuple", data := .seq #[es[i].key, es[i].val] } → h'.objs.size = s.heap.objs.size + 1 →
      (∀ b o, b ≠ it → s.heap.get? b = some o → h'.get? b = some o) → Q (some (.ref s.heap.objs.size)) { s with heap := h' }) :
    wpAny (model prog w) A (pyNext (.ref it)) Q E s := by
  obtain ⟨hp, g, dr, tk, os⟩ := s
  have hT : Shared.TypeIs ⟨hp, g, dr, tk, os⟩ (.ref it) "dict_itemiterator" := ⟨_, hit, rfl⟩
  unfold pyNext
  refine wpAny_bind (wpAny_attempt (wpAny_callSpecial?_slot (name := Str.ofString "__next__") hT F.slot_dict_itemiterator_next
    (wpAny_call_entry F.slot_dict_itemiterator_next hT F.entry_dict_itemiterator_next ?_ (F.args_dict_itemiterator_next_1 _))))
  refine wpAny_bind (wpAny_pure ?_)
  refine wpAny_bind ?_
  refine wpAny_bind ?_
  first | refine wpAny_bind (wpAny_typeNameOfWhole_itemiter hT (wpAny_pure ?_)) | refine wpAny_bind (wpAny_typeNameOf_itemiter hT (wpAny_pure ?_))
  refine wpAny_bind (wpAny_fieldsOf hit rfl ?_)
  have hown : Builtin.Dict_items.ownsTuple "dict_itemiterator" = true := by decide
  simp only [hown, if_true]
  show wpAny _ _ (if (Value.ref d == Value.none) = true then _ else _) _ _ _
  rw [if_neg (show ¬ ((Value.ref d == Value.none) = true) from Bool.false_ne_true)]
  refine wpAny_bind (wpAny_pure ?_)
  refine wpAny_bind (wpAny_dictEntries hod hdd ?_)
  rw [if_neg (by simp)]
  refine wpAny_bind (wpAny_pure ?_)
  refine wpAny_bind (wpAny_dictEpoch hod hdd ?_)
  rw [if_neg (by simp)]
  refine wpAny_pure ?_
  simp only [show ¬ ((i : Int) < 0) from by omega, if_false, Int.toNat_natCast, Array.getElem?_eq_getElem hlt']
  refine wpAny_bind ?_
  first | refine wpAny_bind (wpAny_typeNameOfWhole_itemiter hT (wpAny_pure ?_)) | refine wpAny_bind (wpAny_typeNameOf_itemiter hT (wpAny_pure ?_))
  refine wpAny_bind (wpAny_isOneOf_itemiter hT ?_)
  show wpAny _ _ (setField (.ref it) 3 (rawInt ((i : Int) + 1)) >>= _) _ _ ⟨hp, g, dr, tk, os⟩
  refine wpAny_bind (wpAny_setField_rec hit (by simp) fun h₁ he₁ hs₁ => ?_)
  replace hs₁ : Heap.SameBut it hp h₁ := hs₁
  replace he₁ : IsItemIter h₁ it d (i + 1) es.size ep ok ov := by
    have e : ((i + 1 : Nat) : Int) = (i : Int) + 1 := by omega
    unfold IsItemIter; rw [e]; simpa [rawInt] using he₁
  have hT₁ : Shared.TypeIs ⟨h₁, g, dr, tk, os⟩ (.ref it) "dict_itemiterator" := ⟨_, he₁, rfl⟩
  refine wpAny_bind (wpAny_holding ?_)
  refine wpAny_bind (wpAny_isOneOf_itemiter hT₁ ?_)
  refine wpAny_bind (wpAny_isOneOf_itemiter hT₁ ?_)
  show wpAny _ _ (Builtin.Dict_items.pairFromOwner (.ref it) 6 es[i].key es[i].val) _ _ ⟨h₁, g, dr, tk, os⟩
  unfold Builtin.Dict_items.pairFromOwner
  refine wpAny_bind (wpAny_newTuple ?_)
  have he₂ : IsItemIter (h₁.push { cls := .type "tuple", data := .seq #[es[i].key, es[i].val] }) it d (i + 1) es.size ep ok ov := Heap.get?_push_of_some _ he₁
  generalize hh₂ : h₁.push { cls := .type "tuple", data := .seq #[es[i].key, es[i].val] } = h₂ at he₂
  have hz₁ : h₁.objs.size = hp.objs.size := hs₁.1
  have hil : it < hp.objs.size := Heap.lt_size hit
  have ht₂ : h₂.get? hp.objs.size = some { cls := .type "tuple", data := .seq #[es[i].key, es[i].val] } := by rw [← hh₂, ← hz₁]; exact Heap.get?_push_size _ rfl
  have hz₂ : h₂.objs.size = hp.objs.size + 1 := by rw [← hh₂, Heap.size_push, hz₁]
  have hk₂ : ∀ b o, b ≠ it → hp.get? b = some o → h₂.get? b = some o := fun b o hb e => by rw [← hh₂]; exact Heap.get?_push_of_some _ (hs₁.extBut b o hb e)
  show wpAny _ _ (Builtin.Dict_items.ownedTupleIsFree (.ref it) >>= _) _ _ ⟨h₂, g, dr, tk, os⟩
  rw [hz₁]
  clear hh₂ he₁ hs₁ hT₁ hz₁ h₁
  refine wpAny_bind ?_
  unfold Builtin.Dict_items.ownedTupleIsFree
  refine wpAny_bind (wpAny_field he₂ rfl (x := .none) rfl (wpAny_pure ?_))
  simp only [if_true]
  refine wpAny_bind (wpAny_field he₂ rfl (x := ok) rfl ?_)
  refine wpAny_bind (wpAny_field he₂ rfl (x := ov) rfl ?_)
  refine wpAny_bind (wpAny_setField_rec he₂ (by simp) fun h₃ he₃ hs₃ => ?_)
  replace hs₃ : Heap.SameBut it h₂ h₃ := hs₃
  replace he₃ : IsItemIter h₃ it d (i + 1) es.size ep es[i].key ov := he₃
  refine wpAny_bind (wpAny_setField_rec he₃ (by simp) fun h₄ he₄ hs₄ => ?_)
  replace hs₄ : Heap.SameBut it h₃ h₄ := hs₄
  replace he₄ : IsItemIter h₄ it d (i + 1) es.size ep es[i].key es[i].val := he₄
  refine wpAny_bind (wpAny_setField_rec he₄ (by simp) fun h₅ he₅ hs₅ => ?_)
  replace hs₅ : Heap.SameBut it h₄ h₅ := hs₅
  replace he₅ : IsItemIterOut h₅ it d (i + 1) es.size ep es[i].key es[i].val hp.objs.size := he₅
  refine wpAny_bind (wpAny_setField_rec he₅ (by simp) fun h₆ he₆ hs₆ => ?_)
  replace hs₆ : Heap.SameBut it h₅ h₆ := hs₆
  replace he₆ : IsItemIterOut h₆ it d (i + 1) es.size ep es[i].key es[i].val hp.objs.size := he₆
  refine wpAny_bind (wpAny_letGo (wpAny_pure (wpAny_pure ⟨_, rfl, wpAny_pure (hQ h₆ he₆ ?_ ?_ ?_)⟩)))
  · exact hs₆.extBut _ _ (Nat.ne_of_gt hil) (hs₅.extBut _ _ (Nat.ne_of_gt hil) (hs₄.extBut _ _ (Nat.ne_of_gt hil) (hs₃.extBut _ _ (Nat.ne_of_gt hil) ht₂)))
  · show h₆.objs.size = hp.objs.size + 1
    rw [hs₆.1, hs₅.1, hs₄.1, hs₃.1, hz₂]
  · exact fun b o hb e => hs₆.extBut b o hb (hs₅.extBut b o hb (hs₄.extBut b o hb (hs₃.extBut b o hb (hk₂ b o hb e))))

theorem next_end {it d : Addr} {i ep : Nat} {es : Array DictEntry} {od : Obj} {ok ov : Value} {Q : Option Value → Shared → Prop} (hh : A.handled = none) (hit : IsItemIter s.heap it d i es.size ep ok ov)
    (hod : s.heap.get? d = some od) (hdd : od.data = .dict es ep) (hge : es.size ≤ i)
    (hQ : ∀ h', Heap.ExtBut it s.heap h' → Q none { s with heap := h' }) : wpAny (model prog w) A (pyNext (.ref it)) Q E s := by
  have hT : s.TypeIs (.ref it) "dict_itemiterator" := ⟨_, hit, rfl⟩
  unfold pyNext
  refine wpAny_bind (wpAny_attempt (wpAny_callSpecial?_slot (name := Str.ofString "__next__") hT F.slot_dict_itemiterator_next
    (wpAny_call_entry F.slot_dict_itemiterator_next hT F.entry_dict_itemiterator_next ?_ (F.args_dict_itemiterator_next_1 _))))
  refine wpAny_bind (wpAny_pure ?_)
  refine wpAny_bind ?_
  refine wpAny_bind ?_
  first | refine wpAny_bind (wpAny_typeNameOfWhole_itemiter hT (wpAny_pure ?_)) | refine wpAny_bind (wpAny_typeNameOf_itemiter hT (wpAny_pure ?_))
  refine wpAny_bind (wpAny_fieldsOf hit rfl ?_)
  have hown : Builtin.Dict_items.ownsTuple "dict_itemiterator" = true := by decide
  simp only [hown, if_true]
  show wpAny _ _ (if (Value.ref d == Value.none) = true then _ else _) _ _ s
  rw [if_neg (show ¬ ((Value.ref d == Value.none) = true) from Bool.false_ne_true)]
  refine wpAny_bind (wpAny_pure ?_)
  refine wpAny_bind (wpAny_dictEntries hod hdd ?_)
  rw [if_neg (by simp)]
  refine wpAny_bind (wpAny_pure ?_)
  refine wpAny_bind (wpAny_dictEpoch hod hdd ?_)
  rw [if_neg (by simp)]
  refine wpAny_pure ?_
  simp only [show ¬ ((i : Int) < 0) from by omega, if_false, Int.toNat_natCast, Array.getElem?_eq_none hge]
  refine wpAny_bind ?_
  first | refine wpAny_bind (wpAny_typeNameOfWhole_itemiter hT (wpAny_pure ?_)) | refine wpAny_bind (wpAny_typeNameOf_itemiter hT (wpAny_pure ?_))
  show wpAny _ _ (setField (.ref it) 2 .none >>= _) _ _ s
  refine wpAny_bind (wpAny_setField hit rfl (by simp) ?_)
  show wpAny _ _ (newExc (.type "StopIteration") [] >>= _) _ _ _
  refine wpAny_bind ?_
  simp only [newExc, newTuple]
  refine wpAny_bind (wpAny_newObj_type ?_ (by size_fits))
  refine wpAny_bind (m := firstArgMember _ _) (wpAny_of_eq (a := Value.none) (by first | rfl | (simp only [firstArgMember]; rfl)) ?_)
  refine wpAny_newObj_type ?_ (by size_fits)
  simp only [raiseNew]
  refine wpAny_bind (wpAny_handled ?_)
  rw [show A.in1.handled = none from hh]
  refine wpAny_bind (wpAny_pure (wpAny_throw ?_))
  refine wpAny_bind (wpAny_isInstance (T := "StopIteration") (b := true) ⟨_, Heap.get?_push_size _ rfl, rfl⟩ isSubtype_stop ?_)
  exact wpAny_pure (hQ _ (((Heap.SameBut.update ..).extBut.push _).push _))
end
end L2
end
section
set_option Elab.async false
set_option linter.all false
set_option maxRecDepth 100000
set_option maxHeartbeats 4000000

namespace L2
open PySem PySem.Spec PyProof.Rows
theorem entry_itemiter : entryFor table "dict_itemiterator.__iter__" = some Builtin.«dict_keyiterator.__iter__» := entryFor_alias (id' := "dict_keyiterator.__iter__") (by kernel_rfl) rfl (by decide +kernel) (by kernel_rfl)
/-- the pairs of a dict whose keys are tuples, each a new tuple (key, value); the dict stands still meanwhile -/
def Idt (d : Addr) (o : Obj) (kvs : List (List Key × V)) : It :=
  ⟨fun i H => H d = some (.frz o (.dT kvs)) ∧ i < kvs.length, fun i H v H' => ∃ T b k x, v = .ref T ∧ H T = none ∧ kvs[i]? = some (k, x) ∧ H b = some (.tup (k.map kV)) ∧ H' = upd H T (.tup [.ref b, x]), fun i H => H d = some (.frz o (.dT kvs)) ∧ kvs.length = i⟩
theorem frz_row {P : Program} {w : World} {H : Hp} {h : Heap} {d : Addr} {o : Obj} {kvs : List (List Key × V)} {es : Array DictEntry} {ep : Nat} (hd : o.data = .dict es ep) (ok : HOk P w H h) (e : H d = some (.frz o (.dT kvs))) :
    h.get? d = some o ∧ es.size = kvs.length ∧ ∀ i (hi : i < es.size), ∃ b k x, kvs[i]? = some (k, x) ∧ H b = some (.tup (k.map kV)) ∧ es[i].key = .ref b ∧ RelV x es[i].val := by
  obtain ⟨g, _, _, xs, r, o', es', ep', g', _, d', hes, _⟩ := (show ObjOk P w H h d (.frz o (.dT kvs)) from ok d _ e)
  rw [g] at g'
  have eo : o = o' := Option.some.inj g'
  subst eo
  rw [hd] at d'
  obtain ⟨rfl, rfl⟩ : es = es' ∧ ep = ep' := by cases d'; exact ⟨rfl, rfl⟩
  have lx : kvs.length = xs.length := Paired.length r
  have ls : es.size = xs.length := by rw [← Array.length_toList, hes, List.length_map]
  refine ⟨g, by omega, fun i hi => ?_⟩
  have hk : i < kvs.length := by omega
  have hx : i < xs.length := by omega
  obtain ⟨q, hq, e1, e2, e3⟩ := Paired.getL r (List.getElem?_eq_getElem hk)
  have hq' : q = xs[i] := by rw [List.getElem?_eq_getElem hx] at hq; exact (Option.some.inj hq).symm
  have ei : es[i] = entryOfKey (tupleKind (mixKind P w)) xs[i] := by
    have z : es.toList[i]? = (xs.map (entryOfKey (tupleKind (mixKind P w))))[i]? := by rw [hes]
    rw [List.getElem?_map, List.getElem?_eq_getElem hx, Array.getElem?_toList, Array.getElem?_eq_getElem hi] at z
    exact Option.some.inj z
  refine ⟨q.2.1, kvs[i].1, kvs[i].2, List.getElem?_eq_getElem hk, e2, ?_, ?_⟩
  · rw [ei, ← hq']; rfl
  · rw [ei, ← hq']; exact e3
theorem turn_items {P : Program} {w : World} {K : PySem.W.Frag} {elts : List Expr} {k : Nat} {tp : Pos} {it d : Addr} {o : Obj} {kvs : List (List Key × V)} {es : Array DictEntry} {ep : Nat} (hdd : o.data = .dict es ep) :
    Turn P w K (.Tuple elts k tp) (Idt d o kvs) [it] it (fun i h => ∃ ok ov, IsItemIter h it d i es.size ep ok ov) where
  mem := by simp
  obj := fun i h st b hb => by
    obtain ⟨ok, ov, he⟩ := st
    obtain rfl : b = it := by simpa using hb
    exact ⟨_, he, fun v z => by
      have z' : Data.fields _ = Data.cell v := z
      cases z'⟩
  keep := fun i h h' st k => let ⟨ok, ov, he⟩ := st; ⟨ok, ov, k it (by simp) _ he⟩
  item := by
    intro X hP hw hK hc i pins s σ H E I hf st hg
    subst hP hw
    obtain ⟨ok, ov, he⟩ := st
    obtain ⟨hod, hsz, row⟩ := frz_row hdd I.hok hg.1
    have hlt : i < es.size := by have := hg.2; omega
    obtain ⟨b, kk, x, hkv, hb, ek, rx⟩ := row i hlt
    refine next_item he hod hdd hlt fun h' hout htup hz hk => ⟨_, rfl, ?_⟩
    have hk' : ∀ b o, b ∉ [it] → s.heap.get? b = some o → h'.get? b = some o := fun b o hb e => hk b o (by simpa using hb) e
    have I1 : Inv X pins σ H { s with heap := h', toks := s.toks } := I.walked hk' hf
    have hTn : H s.heap.objs.size = none := I.hok.fresh (Nat.le_refl _)
    have I2 : Inv X pins σ (upd H s.heap.objs.size (.tup [.ref b, x])) { s with heap := h', toks := s.toks } := by
      refine I1.track (I.fpOk (Nat.le_refl _) hTn) ⟨by show 2 ≤ sizeLine; decide, [es[i].key, es[i].val], .cons ek (.cons rx .nil), ?_⟩
      exact ⟨_, htup, rfl, _, rfl⟩
    have hwr2 : ∀ b' ∈ [it], FpOk X pins (upd H s.heap.objs.size (.tup [.ref b, x])) b' := fun b' hb' => by
      obtain ⟨f0, fr⟩ := hf b' hb'
      have ne : b' ≠ s.heap.objs.size := fun z => by
        obtain rfl : b' = it := by simpa using hb'
        exact absurd (Heap.lt_size he) (by rw [z]; exact Nat.lt_irrefl _)
      exact ⟨by rw [upd_ne ne]; exact f0, fr⟩
    refine wpAny_letOwnedTupleGo_items hout fun h'' he'' hs'' => ?_
    have hk'' : ∀ b o, b ∉ [it] → h'.get? b = some o → h''.get? b = some o := fun b o hb e => hs''.extBut b o (by simpa using hb) e
    exact ⟨.ref s.heap.objs.size, _, I2.walked (t' := s.toks) hk'' hwr2, rfl, ⟨_, b, kk, x, rfl, hTn, hkv, hb, rfl⟩, ⟨_, _, he''⟩, fun b hb => (hwr2 b hb).1⟩
  done := by
    intro X hP hw hK hc i pins s σ H E I hf st hg
    subst hP hw
    obtain ⟨ok, ov, he⟩ := st
    obtain ⟨hod, hsz, row⟩ := frz_row hdd I.hok hg.1
    refine next_end (I.ok.hd hc) he hod hdd (by have := hg.2; omega) fun h' hx => ⟨rfl, ?_⟩
    exact I.walked (t' := s.toks) (wr := [it]) (fun b o hb e => hx b o (by simpa using hb) e) hf
  self := fun A i s Q E st h => by
    obtain ⟨ok, ov, he⟩ := st
    have hT : s.TypeIs (.ref it) "dict_itemiterator" := ⟨_, he, rfl⟩
    refine wpAny_pyIter_slot hT PySem.F.slot_dict_itemiterator_iter (wpAny_call_entry PySem.F.slot_dict_itemiterator_iter hT entry_itemiter ?_ (PySem.F.args_dict_itemiterator_iter_1 _))
    show wpAny _ _ (ret (.ref it)) _ _ s
    exact wpAny_pure ⟨_, rfl, "dict_itemiterator", _, hT, PySem.F.slot_dict_itemiterator_next.lookup, h⟩
section
variable {X : Cx} {elts : List Expr} {k : Nat} {tp apos cpos : Pos}
def iItems (to : TE) : TI := fun σ H R => to σ H fun x H1 => ∃ d kvs, x = .ref d ∧ H1 d = some (.dT kvs) ∧ ∀ o, R (Idt d o kvs) (upd H1 d (.frz o (.dT kvs)))
theorem pi_items {o : Expr} {to : TE} (ho : PE X o to) (hbase : attributeBase o "items" X.env (eval o X.env) = eval o X.env := by rfl) (hline : (apos.endLine == cpos.line) = true := by rfl) :
    PI X (.Tuple elts k tp) (.Call (.Attribute o "items" apos) [] [] cpos) (iItems to) := by
  intro pins s σ H R I h
  refine wpAny_Call_method0_late hbase hline (thn (ho pins s σ H _ I h) fun v s1 ⟨x, H1, I1, r1, d, kvs, e, hd, q⟩ => ?_)
  subst e
  cases r1
  obtain ⟨z, hsm, xs, r, ob, es, ep, hg, hex, hdat, hes, hnd⟩ := (show ObjOk X.prog X.w H1 s1.heap d (.dT kvs) from I1.hok d _ hd)
  have hT : s1.TypeIs (.ref d) "dict" := ⟨ob, hg, hex.1⟩
  refine ⟨"dict", "dict.items", PySem.F.plainAttrs_dict, PySem.F.slot_dict_items, PySem.F.type_dict_items, hT, fun a' ea => by cases ea; exact ⟨ob, hg, hex.2.1⟩, Calls.callWith_builtin rfl (PySem.evalArgs_none ?_)⟩
  refine call_meetsIn PySem.F.slot_dict_items hT PySem.F.entry_dict_items (PySem.F.args_dict_items_1 _) (meets_items X.prog X.w d hsm) ⟨hT, ?_⟩
  have I2 : Inv X pins σ (upd H1 d (.frz ob (.dT kvs))) s1 := I1.write (x := d) (e := d) (t' := s1.toks) (h' := s1.heap) (by rw [hd]; trivial) (.inl rfl) (fun b u _ e => e) ⟨_, hg⟩ ⟨hg, by
    have hk : ∀ b ks, H1 b = some (.tup ks) → (upd H1 d (.frz ob (.dT kvs))) b = some (.tup ks) := fun b ks e => by rw [upd_ne (ne_of e hd (fun z => by cases z))]; exact e
    exact ⟨z, hsm, xs, Paired.imp (fun p q ⟨a1, a2, a3⟩ => ⟨a1, hk _ _ a2, a3⟩) r, ob, es, ep, hg, hex, hdat, hes, hnd⟩⟩
  have I3 : Inv X pins σ (upd H1 d (.frz ob (.dT kvs))) { s1 with heap := s1.heap.push { cls := .type "dict_items", data := .fields #[.ref d] } } := I2.kept (t' := s1.toks) fun b o e => Heap.get?_push_of_some _ e
  refine iter_items ⟨_, Heap.get?_push_size _ rfl, rfl, rfl⟩ (Heap.get?_push_of_some _ hg) hdat ?_
  refine ⟨(s1.heap.push { cls := .type "dict_items", data := .fields #[.ref d] }).objs.size, [(s1.heap.push { cls := .type "dict_items", data := .fields #[.ref d] }).objs.size], _, _, _, rfl, I3.kept (t' := s1.toks) fun b o e => Heap.get?_push_of_some _ e, turn_items hdat, ⟨.none, .none, Heap.get?_push_size _ rfl⟩, fun b hb => ?_, q ob⟩
  have e : b = (s1.heap.push { cls := .type "dict_items", data := .fields #[.ref d] }).objs.size := by simpa using hb
  subst e
  exact I3.fpOk (Nat.le_refl _) (I3.hok.fresh (Nat.le_refl _))
end
end L2
end
section
set_option Elab.async false
set_option linter.all false
set_option maxRecDepth 100000
set_option maxHeartbeats 4000000

namespace L2
open PySem PySem.Spec PyProof.Rows
open Sem (wp)
section
variable {prog : Program} {w : World} {A : Around} {R : Result → Shared → Prop} {I : Addr} {fp wr : List Addr} {n : Nat} {P : Nat → Value → Prop} {St : Nat → Heap → Prop}
theorem min_loopH (W : Walks prog w A.in1 I fp wr n P St) (bt : Nat → Nat → Bool) (Hs : Heap → Prop) (hcmp : ∀ (j : Nat) (v vb : Value) (s : Shared) (Q : Value → Shared → Prop) (E : Value → Shared → Prop), Hs s.heap → P (j + 1) v → P (argBest bt j) vb → Q (.bool (bt (j + 1) (argBest bt j))) s → wpAny (model prog w) A.in1 (richCompare .Lt v vb) Q E s) (S : Addr) (hSf : S ∉ fp) (hHs : ∀ h h' : Heap, Hs h → (∀ b o, b ∉ wr → b ≠ S → h.get? b = some o → h'.get? b = some o) → Hs h') :
    ∀ (k j : Nat) (s : Shared) (vb : Value) (c : Nat), n - (j + 1) = k → j + 1 ≤ n → St (j + 1) s.heap → Hs s.heap → P (argBest bt j) vb →
    s.heap.get? S = some { cls := .type "list", dict := none, data := .seq #[vb, vb] c, slots := #[] } →
    (∀ v h' tk, P (argBest bt (n - 1)) v → (∀ b o, b ∉ wr → b ≠ S → s.heap.get? b = some o → h'.get? b = some o) → R (.ok (.ret v)) { s with heap := h', toks := tk }) →
    codeAny (model prog w) A (.builtin "min.loop" ⟨[.ref I, .none, .ref S], []⟩) R s := by
  have hSw : S ∉ wr := fun h => hSf (W.sub _ h)
  have hname : (toString "min" ++ toString ".loop" : String) = "min.loop" := by decide
  intro k
  induction k with
  | zero =>
    intro j s vb c hk hj hst hz hPb hS hR
    have hin : j + 1 = n := by omega
    refine codeAny_builtin F.entry_min_loop ?_
    rw [Around.under_plainId F.plain_min_loop _]
    show wpAny _ A.in1 (seqItems? (.ref S) >>= _) _ _ s
    refine wpAny_bind (wpAny_seqItems hS rfl ?_)
    show wpAny _ A.in1 (tryCatch (pyNext (.ref I)) _ >>= _) _ _ s
    refine wpAny_bind (wpAny_tryCatch (W.done s _ _ (hin ▸ hst) fun h' tk hk' => ?_))
    have hS' := hk' S _ hSw hS
    show wpAny _ A.in1 (updateSeq S (fun _ => #[]) >>= _) _ _ _
    refine wpAny_bind ?_
    refine wpAny_updateSeq hS' rfl (wpAny_bind (wpAny_letGo (wpAny_pure ?_)))
    refine hR vb _ tk (by rw [← hin]; exact hPb) fun b o hbw hbS e => (Heap.get?_update_other _ _ (Ne.symm hbS)).trans (hk' b o hbw e)
  | succ k ih =>
    intro j s vb c hk hj hst hz hPb hS hR
    have hlt : j + 1 < n := by omega
    refine codeAny_builtin F.entry_min_loop ?_
    rw [Around.under_plainId F.plain_min_loop _]
    show wpAny _ A.in1 (seqItems? (.ref S) >>= _) _ _ s
    refine wpAny_bind (wpAny_seqItems hS rfl ?_)
    show wpAny _ A.in1 (tryCatch (pyNext (.ref I)) _ >>= _) _ _ s
    refine wpAny_bind (wpAny_tryCatch (W.item (j + 1) s _ _ hlt hst fun v h' tk hP hst' hk' => ?_))
    have hS' := hk' S _ hSw hS
    show wpAny _ A.in1 (tryCatch (holding [v, v] (richCompare .Lt v vb >>= _)) _ >>= _) _ _ _
    refine wpAny_bind (wpAny_tryCatch (wpAny_holding (wpAny_bind (hcmp j v vb _ _ _ (hHs _ _ hz fun b o hb _ e => hk' b o hb e) hP hPb ?_))))
    refine wpAny_bind (wpAny_holding (wpAny_truthy_bool ?_))
    refine wpAny_bind (wpAny_letGo (wpAny_pure ?_))
    cases hb : bt (j + 1) (argBest bt j) with
    | true =>
      simp only [if_true]
      refine wpAny_bind ?_
      refine wpAny_updateSeq hS' rfl (wpAny_bind (wpAny_letGo ?_))
      rw [hname]
      refine wpAny_pure ⟨plainId_quiet F.plain_min_loop _, ih (j + 1) _ v _ (by omega) hlt (W.frame _ _ _ hst' fun b hbf o e => ?_) (hHs _ _ hz fun b o hb hbS e => (Heap.get?_update_other _ _ (Ne.symm hbS)).trans (hk' b o hb e)) (by simp only [argBest, hb, if_true]; exact hP) (Heap.get?_update_self _ hS' rfl)
        fun v' h'' tk'' hP' hk'' => ?_⟩
      · exact (Heap.get?_update_other _ _ (fun h : S = b => hSf (by rw [h]; exact hbf))).trans e
      · exact hR v' h'' tk'' hP' fun b o hbw hbS e => hk'' b o hbw hbS ((Heap.get?_update_other _ _ (Ne.symm hbS)).trans (hk' b o hbw e))
    | false =>
      simp only [Bool.false_eq_true, if_false]
      refine wpAny_bind (wpAny_letGo ?_)
      rw [hname]
      refine wpAny_pure ⟨plainId_quiet F.plain_min_loop _, ih (j + 1) _ vb c (by omega) hlt hst' (hHs _ _ hz fun b o hb _ e => hk' b o hb e) (by simp only [argBest, hb, Bool.false_eq_true, if_false]; exact hPb) hS' fun v' h'' tk'' hP' hk'' => ?_⟩
      exact hR v' h'' tk'' hP' fun b o hbw hbS e => hk'' b o hbw hbS (hk' b o hbw e)

theorem min_loop_firstH (W : Walks prog w A.in1 I fp wr n P St) (bt : Nat → Nat → Bool) (Hs : Heap → Prop) (hcmp : ∀ (j : Nat) (v vb : Value) (s : Shared) (Q : Value → Shared → Prop) (E : Value → Shared → Prop), Hs s.heap → P (j + 1) v → P (argBest bt j) vb → Q (.bool (bt (j + 1) (argBest bt j))) s → wpAny (model prog w) A.in1 (richCompare .Lt v vb) Q E s) (S : Addr) (hSf : S ∉ fp) (hHs : ∀ h h' : Heap, Hs h → (∀ b o, b ∉ wr → b ≠ S → h.get? b = some o → h'.get? b = some o) → Hs h') (hn : 0 < n) {s : Shared} {c : Nat} (hst : St 0 s.heap) (hz : Hs s.heap)
    (hS : s.heap.get? S = some { cls := .type "list", dict := none, data := .seq #[] c, slots := #[] })
    (hR : ∀ v h' tk, P (argBest bt (n - 1)) v → (∀ b o, b ∉ wr → b ≠ S → s.heap.get? b = some o → h'.get? b = some o) → R (.ok (.ret v)) { s with heap := h', toks := tk }) :
    codeAny (model prog w) A (.builtin "min.loop" ⟨[.ref I, .none, .ref S], []⟩) R s := by
  have hSw : S ∉ wr := fun h => hSf (W.sub _ h)
  have hname : (toString "min" ++ toString ".loop" : String) = "min.loop" := by decide
  refine codeAny_builtin F.entry_min_loop ?_
  rw [Around.under_plainId F.plain_min_loop _]
  show wpAny _ A.in1 (seqItems? (.ref S) >>= _) _ _ s
  refine wpAny_bind (wpAny_seqItems hS rfl ?_)
  show wpAny _ A.in1 (tryCatch (pyNext (.ref I)) _ >>= _) _ _ s
  refine wpAny_bind (wpAny_tryCatch (W.item 0 s _ _ hn hst fun v h' tk hP hst' hk' => ?_))
  have hS' := hk' S _ hSw hS
  show wpAny _ A.in1 (updateSeq S (fun _ => #[v, v]) >>= _) _ _ _
  refine wpAny_bind ?_
  refine wpAny_updateSeq hS' rfl ?_
  rw [hname]
  refine wpAny_pure ⟨plainId_quiet F.plain_min_loop _, min_loopH W bt Hs hcmp S hSf hHs _ 0 _ v _ rfl hn (W.frame _ _ _ hst' fun b hbf o e => ?_) (hHs _ _ hz fun b o hb hbS e => (Heap.get?_update_other _ _ (Ne.symm hbS)).trans (hk' b o hb e)) hP (Heap.get?_update_self _ hS' rfl) fun v' h'' tk'' hP' hk'' => ?_⟩
  · exact (Heap.get?_update_other _ _ (fun h : S = b => hSf (by rw [h]; exact hbf))).trans e
  · exact hR v' h'' tk'' hP' fun b o hbw hbS e => hk'' b o hbw hbS ((Heap.get?_update_other _ _ (Ne.symm hbS)).trans (hk' b o hbw e))
end
section
variable {prog : Program} {w : World} {A : Around} {E : Value → Shared → Prop} {s : Shared}
theorem call_min_twoH {a b : Value} {Q : Value → Shared → Prop}
    (h : wpAny (model prog w) A.in1 (pyIter (.ref s.heap.objs.size)) (fun it s₂ => ∃ I fp wr n P St bt, ∃ Hs : Heap → Prop, it = .ref I ∧ Walks prog w A.in1 I fp wr n P St ∧ St 0 s₂.heap ∧ (∀ b ∈ fp, b < s₂.heap.objs.size) ∧ 0 < n ∧ Hs s₂.heap ∧ (∀ h h' : Heap, Hs h → (∀ b o, b ∉ wr → b ≠ s₂.heap.objs.size → h.get? b = some o → h'.get? b = some o) → Hs h') ∧ (∀ h : Heap, Hs s₂.heap → (∀ b o, s₂.heap.get? b = some o → h.get? b = some o) → Hs h) ∧ (∀ (j : Nat) (v vb : Value) (s : Shared) (Q : Value → Shared → Prop) (E : Value → Shared → Prop), Hs s.heap → P (j + 1) v → P (argBest bt j) vb → Q (.bool (bt (j + 1) (argBest bt j))) s → wpAny (model prog w) A.in1 (richCompare .Lt v vb) Q E s) ∧
      ∀ v h' tk, P (argBest bt (n - 1)) v → (∀ b o, b ∉ wr → s₂.heap.get? b = some o → h'.get? b = some o) → Q v { s₂ with heap := h', toks := tk }) E
      { s with heap := s.heap.push { cls := .type "tuple", data := .seq #[a, b] } }) :
    wpAny (model prog w) A (call (.builtin "min") [a, b]) Q E s := by
  have hname : (toString "min" ++ toString ".loop" : String) = "min.loop" := by decide
  refine call_function_tree F.kind_min F.plain_min F.entry_min (F.args_min2 _ _) ?_
  show wpAny _ A.in1 (Builtin.Builtins.bindParams "min" ["key", "default"] 0 ⟨[], []⟩ >>= _) _ _ s
  refine wpAny_bind (wpAny_of_eq (show Builtin.Builtins.bindParams "min" ["key", "default"] 0 ⟨[], []⟩ = pure [none, none] from rfl) ?_)
  show wpAny _ A.in1 (newTuple [a, b] >>= _) _ _ s
  refine wpAny_bind (wpAny_newObj_type ?_)
  refine wpAny_bind (wpAny_mono h (fun it s₂ h₂ => ?_) fun _ _ e => e)
  obtain ⟨I, fp, wr, n, P, St, bt, Hs, rfl, W, hst, hfp, hn, hz, hHs, hH2, hcmp, hQ⟩ := h₂
  refine wpAny_bind (wpAny_newObj_type ?_)
  have hSf : s₂.heap.objs.size ∉ fp := fun hm => Nat.lt_irrefl _ (hfp _ hm)
  rw [hname]
  refine wpAny_pure ⟨plainId_quiet F.plain_min_loop _, min_loop_firstH W bt Hs hcmp s₂.heap.objs.size hSf hHs hn (W.frame _ _ _ hst fun b _ o e => Heap.get?_push_of_some _ e) (hH2 _ hz fun b o e => Heap.get?_push_of_some _ e) (Heap.get?_push_size _ rfl) fun v h' tk hP hk => ?_⟩
  exact hQ v h' tk hP fun b o hbw e => hk b o hbw (Nat.ne_of_lt (Heap.lt_size e)) (Heap.get?_push_of_some _ e)
end
end L2
end
section
set_option Elab.async false
set_option linter.all false
set_option maxRecDepth 100000
set_option maxHeartbeats 4000000

namespace L2
open PySem PySem.Spec PyProof.Rows
section
variable {prog : Program} {w : World} {A : Around} {E : Value → Shared → Prop} {s : Shared}
/-- min(a, b), by one comparing that looks at old things only -/
theorem min_two_any {a b : Value} {c : Bool} {Q : Value → Shared → Prop} (hh : A.handled = none)
    (hc : ∀ (s' : Shared) (Q' : Value → Shared → Prop) (E' : Value → Shared → Prop), (∀ x o, s.heap.get? x = some o → s'.heap.get? x = some o) → Q' (.bool c) s' → wpAny (model prog w) A.in1 (richCompare .Lt b a) Q' E' s')
    (h : ∀ h' tk, (∀ x o, s.heap.get? x = some o → h'.get? x = some o) → Q (if c = true then b else a) { s with heap := h', toks := tk }) :
    wpAny (model prog w) A (call (.builtin "min") [a, b]) Q E s := by
  have hT : (s.heap.push { cls := .type "tuple", data := .seq #[a, b] }).IsTuple s.heap.objs.size #[a, b] := ⟨_, Heap.get?_push_size _ rfl, rfl, 0, rfl⟩
  refine call_min_twoH (wpAny_pyIter_tuple hT ?_)
  have hsz : (s.heap.push { cls := .type "tuple", data := .seq #[a, b] }).objs.size = s.heap.objs.size + 1 := Heap.size_push ..
  have old : ∀ x o k, s.heap.get? x = some o → x ≠ s.heap.objs.size + k := fun x o k e z => absurd (Heap.lt_size e) (by rw [z]; exact Nat.not_lt.mpr (Nat.le_add_right _ _))
  refine ⟨_, [_, s.heap.objs.size], [_], _, _, _, fun i j => c, fun h => ∀ x o, s.heap.get? x = some o → h.get? x = some o, rfl, Walks.tuple (A := A.in1) hh _ s.heap.objs.size (by rw [hsz]; exact Nat.ne_of_lt (Nat.lt_succ_self _)) #[a, b],
    ⟨⟨_, Heap.get?_push_size _ rfl, rfl, rfl⟩, hT.push _⟩, fun z hz => ?_, by simp, fun x o e => Heap.get?_push_of_some _ (Heap.get?_push_of_some _ e), fun h h' k1 k2 x o e => ?_, fun h k1 k2 x o e => k2 x o (k1 x o e), fun j v vb s' Q' E' hs hp hq hQ => ?_, fun v h' tk hP hk => ?_⟩
  · show z < ((s.heap.push _).push _).objs.size
    rw [Heap.size_push, hsz]
    rcases List.mem_cons.mp hz with rfl | hz
    · rw [hsz]; exact Nat.lt_succ_self _
    · rcases List.mem_cons.mp hz with rfl | hz
      · exact Nat.lt_succ_of_lt (Nat.lt_succ_self _)
      · cases hz
  · refine k2 x o (fun hm => old x o 1 e ?_) (fun hm => old x o 2 e ?_) (k1 x o e)
    · rw [List.mem_singleton.mp hm, hsz]
    · rw [hm]
      show ((s.heap.push _).push _).objs.size = _
      rw [Heap.size_push, hsz]
  · match j with
    | 0 =>
      have e1 : v = b := by simpa [argBest] using hp.symm
      have e2 : vb = a := by simpa [argBest] using hq.symm
      subst e1 e2
      exact hc s' Q' E' hs hQ
    | j + 1 => simp at hp
  · have hv : v = if c = true then b else a := by
      have hP' : (#[a, b] : Array Value)[argBest (fun _ _ => c) 1]? = some v := hP
      cases c with
      | true => simpa [argBest] using hP'.symm
      | false => simpa [argBest] using hP'.symm
    rw [hv]
    refine h h' tk fun x o e => hk x o (fun hm => old x o 1 e ?_) (Heap.get?_push_of_some _ (Heap.get?_push_of_some _ e))
    rw [List.mem_singleton.mp hm, hsz]
end
end L2
end
section
set_option Elab.async false
set_option linter.all false
set_option maxRecDepth 100000
set_option maxHeartbeats 4000000

namespace L2
open PySem PySem.Spec PyProof.Rows
section
open PySem.SeqAt
open PySem.AutoSeq1 (wpAny_loadPart')
open PySem.MeetsSeq PySem.MeetsSeq2 PySem.MeetsSeq3
/-- (a, x) < (c, y): x, y anything that is compared -/
theorem tuple_lt_pair (l b : Addr) (a c : Int) (t u : Tok) (x y : Value) (n n2 : Nat) (dd dd2 : Option Addr) (sl sl2 : Array (Option Value)) (e lt : Bool) :
    Meets (Builtin.«tuple.__lt__» ⟨[.ref l, .ref b], []⟩)
      (fun A R s => s.heap.get? l = some { cls := .type "tuple", dict := dd, data := .seq #[.int a t, x] n, slots := sl } ∧ s.heap.get? b = some { cls := .type "tuple", dict := dd2, data := .seq #[.int c u, y] n2, slots := sl2 } ∧
        EqAt A.in1 s x y e ∧ (∀ (prog : Program) (w : World) (Q E : Value → Shared → Prop), Q (.bool lt) s → wpAny (model prog w) A.in1 (richCompare .Lt x y) Q E s) ∧
        R (.ok (.ret (.bool (if a = c then (if e = true then false else lt) else decide (a < c))))) s) :=
  .of_wp fun prog w A R s h => by
    obtain ⟨hp, g, d, tk, os⟩ := s; obtain ⟨hl, hb, he, hlt, h⟩ := h
    have f2 := AutoSeq1.sub_tuple_tuple
    wp_walk using wpAny_loadPart' hl, wpAny_loadPart' hb, wpAny_forIn_list _ (fun rest b s' => b.1 = none ∧ s' = ⟨hp, g, d, tk, os⟩ ∧
      ((rest = [(Value.int a t, Value.int c u), (x, y)] ∧ R (.ok (.ret (.bool (if a = c then (if e = true then false else lt) else decide (a < c))))) ⟨hp, g, d, tk, os⟩) ∨
       (rest = [(x, y)] ∧ R (.ok (.ret (.bool (if e = true then false else lt)))) ⟨hp, g, d, tk, os⟩) ∨
       (rest = [] ∧ R (.ok (.ret (.bool false))) ⟨hp, g, d, tk, os⟩))) _
    case turn =>
      rintro ⟨y1, x1⟩ rest b s' ⟨hb', rfl, hR⟩
      rcases hR with ⟨hz, hR⟩ | ⟨hz, hR⟩ | ⟨hz, hR⟩
      · injection hz with hyx hrest
        injection hyx with hy hx
        subst hy hx
        have he1 := EqAt.int_int (A := A.in1) (s := ⟨hp, g, d, tk, os⟩) a t c u
        refine wpAny_bind (he1 prog w _ _ ?_)
        by_cases hac : a = c
        · have z : (a == c) = true := by simp [hac]
          rw [z]
          rw [if_pos hac] at hR
          wp_walk
          exact ⟨rfl, rfl, .inr (.inl ⟨hrest, hR⟩)⟩
        · have z : (a == c) = false := by simp [hac]
          rw [z]
          rw [if_neg hac] at hR
          have hri := HT.rcLt_int A.in1 ⟨hp, g, d, tk, os⟩ a t c u prog w
          wp_walk using hri
          exact ⟨_, rfl, by simpa using hR⟩
      · injection hz with hyx hrest
        injection hyx with hy hx
        subst hy hx
        refine wpAny_bind (he prog w _ _ ?_)
        cases e with
        | true =>
          rw [if_pos rfl] at hR
          wp_walk
          exact ⟨rfl, rfl, .inr (.inr ⟨hrest, hR⟩)⟩
        | false =>
          rw [if_neg (by decide)] at hR
          have hri := hlt prog w
          wp_walk using hri
          exact ⟨_, rfl, by simpa using hR⟩
      · cases hz
    case fin =>
      rintro ⟨b1, b2⟩ s' ⟨hb', rfl, hR⟩
      simp only at hb'
      subst hb'
      rcases hR with ⟨hz, hR⟩ | ⟨hz, hR⟩ | ⟨hz, hR⟩
      · cases hz
      · cases hz
      · wp_walk
        exact ⟨_, rfl, by simpa [Builtin.Tuple.tupleCompareSizes] using hR⟩
    case h =>
      exact ⟨rfl, rfl, .inl ⟨rfl, h⟩⟩
end
end L2
end
section
set_option Elab.async false
set_option linter.all false
set_option maxRecDepth 100000
set_option maxHeartbeats 4000000

namespace L2
open PySem PySem.Spec PyProof.Rows
theorem ints_get : ∀ {us : List Value} {ns : List Int}, IntsAre us ns → ∀ (j : Nat) (h : j < us.length), ∃ t, us[j] = .int (ns.getD j 0) t
  | _, _, .nil, j, h => absurd h (Nat.not_lt_zero _)
  | _, _, .cons n t r, 0, h => ⟨t, rfl⟩
  | _, _, .cons n t r, j + 1, h => by
    obtain ⟨t', e⟩ := ints_get r j (Nat.lt_of_succ_lt_succ h)
    exact ⟨t', e⟩
def eqPl (o p : Addr) (us vs : List Value) (ns ms : List Int) : Bool := if o = p then true else ((List.range (min us.toArray.size vs.toArray.size)).all fun j => ns.getD j 0 == ms.getD j 0) && us.toArray.size == vs.toArray.size
theorem eqAt_tupInts {A : Around} {s : Shared} {o p : Addr} {us vs : List Value} {ns ms : List Int} (ho : IsTup s.heap o us.toArray) (hp : IsTup s.heap p vs.toArray) (iu : IntsAre us ns) (iv : IntsAre vs ms) (hu : A.units + 1 < cLine) :
    SeqAt.EqAt A s (.ref o) (.ref p) (eqPl o p us vs ns ms) := by
  unfold eqPl
  by_cases e : o = p
  · subst e
    rw [if_pos rfl]
    exact SeqAt.EqAt.same _
  · rw [if_neg e]
    refine .of_refs e (SeqAt.RcAt.tuples (A := A) (s := s) (e := fun j => ns.getD j 0 == ms.getD j 0) ho hp (by omega) fun j h1 h2 => ?_)
    rw [List.size_toArray] at h1 h2
    obtain ⟨t, e1⟩ := ints_get iu j h1
    obtain ⟨t', e2⟩ := ints_get iv j h2
    rw [List.getElem_toArray, List.getElem_toArray, e1, e2]
    exact SeqAt.EqAt.int_int _ _ _ _
theorem lexLt_same : ∀ ns : List Int, HT.lexLt ns ns = false
  | [] => rfl
  | x :: xs => by rw [HT.lexLt_cons, if_pos rfl]; exact lexLt_same xs
theorem eqPl_true {o p : Addr} {us vs : List Value} {ns ms : List Int} (hu : us.length = ns.length) (hv : vs.length = ms.length) (hs : o = p → ns = ms) (h : eqPl o p us vs ns ms = true) : ns = ms := by
  unfold eqPl at h
  by_cases e : o = p
  · exact hs e
  · rw [if_neg e, Bool.and_eq_true] at h
    obtain ⟨h1, h2⟩ := h
    have hl : us.length = vs.length := by simpa using h2
    refine List.ext_getElem? fun j => ?_
    by_cases hj : j < ns.length
    · have hj2 : j < ms.length := by omega
      have z := List.all_eq_true.mp h1 j (List.mem_range.mpr (by simp; omega))
      have z2 : ns.getD j 0 = ms.getD j 0 := beq_iff_eq.mp z
      rw [List.getD_eq_getElem?_getD, List.getD_eq_getElem?_getD, List.getElem?_eq_getElem hj, List.getElem?_eq_getElem hj2] at z2
      rw [List.getElem?_eq_getElem hj, List.getElem?_eq_getElem hj2]
      exact congrArg some z2
    · rw [List.getElem?_eq_none (by omega), List.getElem?_eq_none (by omega)]
/-- (w, o) ahead of (v, p) -/
def ltP (a b : Int × List Int) : Bool := if a.1 = b.1 then HT.lexLt a.2 b.2 else decide (a.1 < b.1)
section
variable {X : Cx}
/-- min of two pairs (a number, a tuple of numbers): a lesser number decides -/
def rMinP (K : PySem.W.Frag) : List V → Hp → VK → Prop := fun xs H Q => ∃ (p1 p2 o1 o2 : Addr) (w1 w2 : Int) (ns1 ns2 : List Int), xs = [.ref p1, .ref p2] ∧ SqT K H p1 [.int w1, .ref o1] ∧ SqT K H p2 [.int w2, .ref o2] ∧ SqT K H o1 (ns1.map V.int) ∧ SqT K H o2 (ns2.map V.int) ∧
  (ltP (w2, ns2) (w1, ns1) = true → Q (.ref p2) H) ∧ (ltP (w2, ns2) (w1, ns1) = false → Q (.ref p1) H)
theorem call_minP (hc : X.calm = true) (hu : X.A.units + 8 < cLine) : CallR X (.builtin "min") (rMinP X.K) := by
  intro pins s σ H xs us Q I r h
  obtain ⟨p1, p2, o1, o2, w1, w2, ns1, ns2, rfl, h1, h2, k1, k2, q2, q1⟩ := h
  obtain ⟨u, v, rfl, ru, rv⟩ := r.two
  cases ru; cases rv
  obtain ⟨its1, r1, t1, _⟩ := I.tuple h1
  obtain ⟨its2, r2, t2, _⟩ := I.tuple h2
  obtain ⟨us1, a1, b1, _⟩ := I.tuple k1
  obtain ⟨us2, a2, b2, _⟩ := I.tuple k2
  obtain ⟨x1, y1, rfl, ⟨tk1, rfl⟩, rfl⟩ := r1.two
  obtain ⟨x2, y2, rfl, ⟨tk2, rfl⟩, rfl⟩ := r2.two
  have i1 := intsAre_of a1
  have i2 := intsAre_of a2
  refine min_two_any (c := if w2 = w1 then (if eqPl o2 o1 us2 us1 ns2 ns1 = true then false else HT.lexLt ns2 ns1) else decide (w2 < w1)) (I.ok.hd hc) (fun s' Q' E' keep hq => ?_) fun h' tk keep => ?_
  · have up : ∀ {a : Addr} {arr : Array Value}, IsTup s.heap a arr → IsTup s'.heap a arr := fun {a arr} ⟨o, e, c, n, d⟩ => ⟨o, keep _ _ e, c, n, d⟩
    obtain ⟨⟨cls, dd, data, sl⟩, ho, hcl, n, hd⟩ := up t2
    obtain ⟨⟨cls2, dd2, data2, sl2⟩, ho2, hcl2, n2, hd2⟩ := up t1
    simp only at hcl hd hcl2 hd2
    subst hcl hd hcl2 hd2
    refine richCompare_meets_room (op := .Lt) ⟨_, ho, rfl⟩ ⟨_, ho2, rfl⟩ PySem.F.slot_tuple_lt PySem.F.entry_tuple_lt (PySem.F.args_tuple_lt_2 _ _) (tuple_lt_pair p2 p1 w2 w1 tk2 tk1 (.ref o2) (.ref o1) n n2 dd dd2 sl sl2 (eqPl o2 o1 us2 us1 ns2 ns1) (HT.lexLt ns2 ns1))
      ⟨ho, ho2, eqAt_tupInts (up b2) (up b1) i2 i1 (by show X.A.units + 1 + 1 + 1 < cLine; omega), fun prog w Q E hq => ?_, ?_⟩ (by show X.A.units + 1 < cLine; omega)
    · exact HT.lt_tupInts (up b2) (up b1) (by simpa using i2) (by simpa using i1) (by show X.A.units + 1 + 1 < cLine; omega) hq
    · exact ⟨(fun x => nomatch x), hq⟩
  · have I' := I.kept (t' := tk) keep
    have same : o2 = o1 → ns2 = ns1 := fun e => by
      rw [e] at k2
      have z := I.tuple_inj k2 k1
      exact List.map_inj_right (fun a b h => V.int.inj h) |>.mp z
    have l1 : us1.length = ns1.length := by have := a1.length; rw [List.length_map] at this; omega
    have l2 : us2.length = ns2.length := by have := a2.length; rw [List.length_map] at this; omega
    have ec : (if w2 = w1 then (if eqPl o2 o1 us2 us1 ns2 ns1 = true then false else HT.lexLt ns2 ns1) else decide (w2 < w1)) = ltP (w2, ns2) (w1, ns1) := by
      unfold ltP
      by_cases hw : w2 = w1
      · rw [if_pos hw, if_pos hw]
        by_cases he : eqPl o2 o1 us2 us1 ns2 ns1 = true
        · rw [if_pos he]
          have z := eqPl_true l2 l1 same he
          show false = HT.lexLt ns2 ns1
          rw [z, lexLt_same]
        · rw [if_neg he]
      · rw [if_neg hw, if_neg hw]
    rw [ec]
    cases hp : ltP (w2, ns2) (w1, ns1) with
    | true => exact ⟨.ref p2, H, I', rfl, q2 hp⟩
    | false => exact ⟨.ref p1, H, I', rfl, q1 hp⟩
end
end L2
end
section
set_option Elab.async false
set_option linter.all false
set_option maxRecDepth 100000
set_option maxHeartbeats 4000000

namespace L2
open PySem PySem.Spec PyProof.Rows
section
variable {X : Cx} {ke ve : Expr} {pos : Pos} {tk tv : TE}
/-- {key: value}, the key a tuple -/
def tDisp1 (tk tv : TE) : TE := fun σ H Q => ∀ p, H p = none → tk σ (upd H p (.dT [])) fun y H1 => tv σ H1 fun v H2 => ∃ (k : List Key) (b : Addr), y = .ref b ∧ H2 b = some (.tup (k.map kV)) ∧ H2 p = some (.dT []) ∧ Q (.ref p) (upd H2 p (.dT [(k, v)]))
theorem pe_disp1 (hu : X.A.units + 1 < cLine) (hk : PE X ke tk) (hv : PE X ve tv) : PE X (.Dict [some ke] [ve] pos) (tDisp1 tk tv) := by
  intro pins s σ H Q I q
  have hn := I.hok.fresh (Nat.le_refl s.heap.objs.size)
  have I1 := I.laid (a := s.heap.objs.size) (o := .dT []) (h' := s.heap.push { cls := .type "dict", data := .dict #[] }) (t' := s.toks) (fun _ _ q => Heap.get?_push_of_some _ q) (Nat.le_refl _) (dt_empty s.heap I.big)
  rw [arm_eval_Dict, zip_pairTrees [some ke] [ve] X.env pos rfl rfl, dictDisplay_pairs _ (by simp [pairTrees]) (by simp [pairTrees])]
  refine wpAny_bind (wpAny_standAt (wpAny_bind ?_))
  unfold subDict
  refine wpAny_bind (wpAny_alloc ?_)
  refine wpAny_bind (wpAny_holding ?_)
  rw [if_pos (by simp [pairTrees])]
  refine wpAny_bind (pairTrees_cons_walk (thn (hk pins _ σ _ _ I1 (q _ hn)) fun u s1 ⟨y, H1, I2, ry, q1⟩ => thn (hv pins s1 σ H1 _ I2 q1) fun r s2 ⟨v, H2, I3, rv, k, b, ey, hb, hd, q2⟩ => pairTrees_nil_walk ?_))
  subst ey
  cases (show u = Value.ref b from ry)
  refine wpAny_holding ?_
  refine wpAny_bind ?_
  rw [List.forIn_cons]
  obtain ⟨z, hd0, xs, rel, dd⟩ := dt_of I3.hok hd
  cases rel
  refine wpAny_bind (wpAny_bind (wpAny_dictSet_heap (hsz := Nat.zero_le _) (by show X.A.units < cLine; omega) (key_of I3.hok hb) dd fun h' dd' hs => wpAny_pure ?_))
  show wpAny _ _ (forIn ([] : List (Value × Value)) PUnit.unit _) _ _ _
  rw [List.forIn_nil]
  refine wpAny_pure (wpAny_pure (wpAny_pure (wpAny_pure ?_)))
  obtain ⟨o, es, ep, ho, h2, h3, h4, _, h5⟩ := dd'
  have e0 : storedH ([] : List (List Key × Addr × Value)) k b r = [(k, b, r)] := rfl
  rw [e0] at h4 h5
  refine ⟨.ref s.heap.objs.size, _, d_write (ob := .dT [(k, v)]) I3 (by rw [hd]; exact True.intro) hs ⟨o, ho⟩ ⟨by show 1 ≤ sizeLine; decide, hd0, [(k, b, r)], .cons ⟨rfl, ?_, rv⟩ .nil, o, es, ep, ho, h2, h3, h4, h5⟩, rfl, q2⟩
  rw [upd_ne (ne_of hb hd (fun z => by cases z))]
  exact hb
end
section
variable {X : Cx}
/-- t + u of tuples: an empty one gives the other -/
def rAddT (K : PySem.W.Frag) : R2 := fun x y H Q => ∃ a b xs ys, x = .ref a ∧ y = .ref b ∧ SqT K H a xs ∧ SqT K H b ys ∧ xs.length + ys.length ≤ sizeLine ∧
  (xs = [] → Q (.ref b) H) ∧ (xs ≠ [] → ys = [] → Q (.ref a) H) ∧ (xs ≠ [] → ys ≠ [] → ∀ p, H p = none → Q (.ref p) (upd H p (.tup (xs ++ ys))))
theorem op_addT : OpR X (binaryOp .Add) (rAddT X.K) := by
  intro pins s σ H x y v u Q I rx ry h
  obtain ⟨a, b, xs, ys, rfl, rfl, ha, hb, hz, q0, q1, q2⟩ := h
  by_cases e : xs = []
  · cases rx; cases ry
    obtain ⟨its, r1, p1, _⟩ := I.tuple ha
    obtain ⟨its2, r2, p2, _⟩ := I.tuple hb
    subst e
    cases r1
    obtain ⟨⟨cls, dd, data, sl⟩, ho, hc, n, hd⟩ := id p1
    obtain ⟨⟨cls2, dd2, data2, sl2⟩, ho2, hc2, n2, hd2⟩ := id p2
    simp only at hc hd hc2 hd2
    subst hc hd hc2 hd2
    exact concat_meets ⟨_, ho, rfl⟩ ⟨_, ho2, rfl⟩ noFill_tuple_add seq_tuple_add PySem.F.slot_tuple_add PySem.F.entry_tuple_add (PySem.F.args_tuple_add_2 _ _)
      (tuple_addW0 a b #[] its2.toArray n n2 dd dd2 sl sl2 rfl) ⟨ho, ho2, ⟨.ref b, H, I, rfl, q0 rfl⟩⟩
  · exact op_catT pins s σ H _ _ v u Q I rx ry ⟨a, b, xs, ys, rfl, rfl, ha, hb, e, hz, q1 e, q2 e⟩
end
end L2
end
section
set_option Elab.async false
set_option linter.all false
set_option maxRecDepth 100000
set_option maxHeartbeats 4000000

namespace NW
open PySem L2
def sortI (ns : List Int) : List Int := ns.mergeSort (fun a b => decide (a ≤ b))
theorem sortI_perm (ns : List Int) : (sortI ns).Perm ns := List.mergeSort_perm _ _
theorem sortI_le (ns : List Int) : (sortI ns).Pairwise (· ≤ ·) := by
  have h := List.pairwise_mergeSort (le := fun a b : Int => decide (a ≤ b)) (fun a b c h1 h2 => by simp at *; omega) (fun a b => by simp; omega) ns
  exact h.imp fun h => of_decide_eq_true h
theorem sortI_of {ms ns : List Int} (p : ms.Perm ns) (s : ms.Pairwise (· ≤ ·)) : ms = sortI ns :=
  List.Perm.eq_of_pairwise (le := (· ≤ ·)) (fun a b _ _ h1 h2 => by omega) s (sortI_le ns) (p.trans (sortI_perm ns).symm)
theorem sortI_eq {ms ns : List Int} (p : ms.Perm ns) : sortI ms = sortI ns := sortI_of ((sortI_perm ms).trans p) (sortI_le ms)
/-- the numbers of ties that a set has -/
def within (ns some : List Int) : List Int := ns.filter fun n => decide (n ∈ some)
def front (some ns : List Int) : Bool := decide (0 < (within ns some).length) && decide ((within ns some).length < ns.length)
def fb (pts : List (List Int)) (some : List Int) : Nat := (pts.filter (front some)).length
theorem within_perm {ns a b : List Int} (p : a.Perm b) : within ns a = within ns b := by
  unfold within
  congr 1
  funext n
  exact decide_eq_decide.mpr p.mem_iff
theorem fb_perm {pts : List (List Int)} {a b : List Int} (p : a.Perm b) : fb pts a = fb pts b := by
  unfold fb
  congr 2
  funext ns
  unfold front
  rw [within_perm p]
theorem foldl_same {α β : Type} {f g : β → α → β} : ∀ {l : List α} {b : β}, (∀ b a, a ∈ l → f b a = g b a) → l.foldl f b = l.foldl g b
  | [], _, _ => rfl
  | x :: xs, b, h => by
    show xs.foldl f (f b x) = xs.foldl g (g b x)
    rw [h b x List.mem_cons_self]
    exact foldl_same fun b a ha => h b a (List.mem_cons_of_mem _ ha)
/-- the greatest front behind an order's proper beginnings -/
def wOf (pts : List (List Int)) (o : List Int) : Int := (List.range o.length).foldl (fun m i => max m ((fb pts (o.take i) : Nat) : Int)) 0
theorem wOf_snoc (pts : List (List Int)) (o : List Int) (n : Int) : wOf pts (o ++ [n]) = max (wOf pts o) ((fb pts o : Nat) : Int) := by
  unfold wOf
  rw [List.length_append, List.length_singleton, List.range_succ, List.foldl_append]
  have e : (List.range o.length).foldl (fun m i => max m ((fb pts ((o ++ [n]).take i) : Nat) : Int)) 0 = (List.range o.length).foldl (fun m i => max m ((fb pts (o.take i) : Nat) : Int)) 0 := by
    refine foldl_same fun m i hi => ?_
    have := List.mem_range.mp hi
    rw [List.take_append_of_le_length (by omega)]
  rw [e]
  simp
abbrev Ent := List Int × (Int × List Int)
def getE (es : List Ent) (k : List Int) : Option (Int × List Int) := (es.find? fun e => decide (e.1 = k)).map (·.2)
def putE (es : List Ent) (k : List Int) (v : Int × List Int) : List Ent :=
  if (es.any fun e => decide (e.1 = k)) = true then es.map (fun e => if e.1 = k then (e.1, v) else e) else es ++ [(k, v)]
def minP (a b : Int × List Int) : Int × List Int := if ltP b a = true then b else a
def keep (es : List Ent) (ties : List Int) (off : Int × List Int) : List Ent := putE es (sortI ties) (minP ((getE es (sortI ties)).getD off) off)
def inner (many : Nat) (fu : List Ent) (e : Ent) (w : Int) : List Ent := (below many).foldl (fun fu n => if n ∈ e.1 then fu else keep fu (e.1 ++ [n]) (w, e.2.2 ++ [n])) fu
def oneOn (pts : List (List Int)) (many : Nat) (es : List Ent) : List Ent := es.foldl (fun fu e => inner many fu e (max e.2.1 ((fb pts e.1 : Nat) : Int))) []
def narrow (pts : List (List Int)) (many : Nat) : Nat → List Ent
  | 0 => [([], (0, []))]
  | s + 1 => oneOn pts many (narrow pts many s)
theorem minP_or (a b : Int × List Int) : minP a b = a ∨ minP a b = b := by
  unfold minP
  split
  · exact .inr rfl
  · exact .inl rfl
theorem minP_le (a b : Int × List Int) : (minP a b).1 ≤ a.1 ∧ (minP a b).1 ≤ b.1 := by
  unfold minP ltP
  by_cases h : b.1 = a.1
  · rw [if_pos h]
    split <;> omega
  · rw [if_neg h]
    by_cases h2 : b.1 < a.1
    · rw [if_pos (decide_eq_true h2)]; omega
    · rw [if_neg (by simp [h2])]; omega
theorem getE_nil (k : List Int) : getE [] k = none := rfl
theorem getE_cons (e : Ent) (r : List Ent) (k : List Int) : getE (e :: r) k = if e.1 = k then some e.2 else getE r k := by
  unfold getE
  rw [List.find?_cons]
  by_cases h : e.1 = k
  · rw [if_pos h, decide_eq_true h]; rfl
  · rw [if_neg h, decide_eq_false h]
theorem getE_any (k : List Int) : ∀ es : List Ent, (es.any fun e => decide (e.1 = k)) = (getE es k).isSome
  | [] => rfl
  | e :: r => by
    rw [List.any_cons, getE_cons, getE_any k r]
    by_cases h : e.1 = k
    · rw [if_pos h, decide_eq_true h]; rfl
    · rw [if_neg h, decide_eq_false h]; rfl
theorem getE_map (k j : List Int) (v : Int × List Int) : ∀ es : List Ent, getE (es.map fun e => if e.1 = k then (e.1, v) else e) j = if j = k then (getE es k).map (fun _ => v) else getE es j
  | [] => by simp [getE_nil]
  | e :: r => by
    rw [List.map_cons, getE_cons, getE_map k j v r, getE_cons, getE_cons]
    by_cases h : e.1 = k
    · rw [if_pos h]
      by_cases hj : j = k
      · rw [if_pos (by rw [hj]; exact h), if_pos hj, if_pos h]; rfl
      · rw [if_neg (fun z => hj (z.symm.trans h)), if_neg hj, if_neg hj, if_neg (fun z => hj (z.symm.trans h))]
    · rw [if_neg h]
      by_cases hj : j = k
      · rw [if_neg (fun z => h (z.trans hj)), if_pos hj, if_pos hj, if_neg h]
      · rw [if_neg hj, if_neg hj]
theorem getE_snoc (k j : List Int) (v : Int × List Int) : ∀ es : List Ent, getE es k = none → getE (es ++ [(k, v)]) j = if j = k then some v else getE es j
  | [], _ => by
    show getE [(k, v)] j = _
    rw [getE_cons]
    by_cases hj : j = k
    · rw [if_pos hj.symm, if_pos hj]
    · rw [if_neg (fun z => hj z.symm), if_neg hj]
  | e :: r, h => by
    rw [getE_cons] at h
    by_cases he : e.1 = k
    · rw [if_pos he] at h; cases h
    · rw [if_neg he] at h
      rw [List.cons_append, getE_cons, getE_snoc k j v r h, getE_cons]
      by_cases hj : j = k
      · rw [if_neg (fun z => he (z.trans hj)), if_pos hj, if_pos hj]
      · rw [if_neg hj, if_neg hj]
theorem getE_put (es : List Ent) (k j : List Int) (v : Int × List Int) : getE (putE es k v) j = if j = k then some v else getE es j := by
  unfold putE
  rw [getE_any]
  cases h : getE es k with
  | none => exact getE_snoc k j v es h
  | some u =>
    rw [if_pos (by rfl), getE_map, h]
    rfl
theorem getE_mem {es : List Ent} {k : List Int} {v : Int × List Int} (h : getE es k = some v) : (k, v) ∈ es := by
  induction es with
  | nil => cases h
  | cons e r ih =>
    rw [getE_cons] at h
    by_cases he : e.1 = k
    · rw [if_pos he] at h
      have : e = (k, v) := by rw [← he, ← Option.some.inj h]
      rw [this]; exact List.mem_cons_self
    · rw [if_neg he] at h
      exact List.mem_cons_of_mem _ (ih h)
theorem mem_put {es : List Ent} {k : List Int} {v : Int × List Int} {e : Ent} (h : e ∈ putE es k v) : e ∈ es ∨ e = (k, v) := by
  unfold putE at h
  split at h
  · obtain ⟨x, hx, rfl⟩ := List.mem_map.mp h
    by_cases hk : x.1 = k
    · rw [if_pos hk, hk]; exact .inr rfl
    · rw [if_neg hk]; exact .inl hx
  · rcases List.mem_append.mp h with h | h
    · exact .inl h
    · exact .inr (List.mem_singleton.mp h)
/-- an entry that is right: an order of its key, its own width -/
structure Right (pts : List (List Int)) (many s : Nat) (e : Ent) : Prop where
  so : e.1.Pairwise (· < ·)
  mem : ∀ n ∈ e.1, 0 ≤ n ∧ n < many
  len : e.1.length = s
  perm : e.2.2.Perm e.1
  w : e.2.1 = wOf pts e.2.2
/-- one more tie -/
theorem Right.on {pts : List (List Int)} {many s : Nat} {e : Ent} (h : Right pts many s e) {n : Int} (n0 : 0 ≤ n) (n1 : n < many) (hn : n ∉ e.1) :
    Right pts many (s + 1) (sortI (e.1 ++ [n]), (max e.2.1 ((fb pts e.1 : Nat) : Int), e.2.2 ++ [n])) := by
  have p := sortI_perm (e.1 ++ [n])
  have nd : (e.1 ++ [n]).Nodup := by
    refine List.nodup_append.mpr ⟨h.so.imp fun z => by omega, by simp, fun a ha b hb => ?_⟩
    rw [List.mem_singleton.mp hb]
    exact fun z => hn (z ▸ ha)
  refine ⟨?_, fun m hm => ?_, ?_, ?_, ?_⟩
  · have nd2 : (sortI (e.1 ++ [n])).Nodup := (List.Perm.nodup_iff p).mpr nd
    have le := sortI_le (e.1 ++ [n])
    exact (List.Pairwise.and le nd2).imp fun {a b} ⟨h1, h2⟩ => by omega
  · rcases List.mem_append.mp (p.mem_iff.mp hm) with hm | hm
    · exact h.mem m hm
    · rw [List.mem_singleton.mp hm]; exact ⟨n0, n1⟩
  · show (sortI (e.1 ++ [n])).length = s + 1
    rw [p.length_eq, List.length_append, h.len]; rfl
  · exact (List.Perm.append_right [n] h.perm).trans p.symm
  · show max e.2.1 _ = wOf pts (e.2.2 ++ [n])
    rw [wOf_snoc, h.w, fb_perm h.perm]
end NW
end
section
set_option Elab.async false
set_option linter.all false
set_option maxRecDepth 100000
set_option maxHeartbeats 4000000

namespace NW
open PySem L2
def All (pts : List (List Int)) (many s : Nat) (es : List Ent) : Prop := ∀ e ∈ es, Right pts many s e
/-- some entry at the key, no wider -/
def Has (es : List Ent) (k : List Int) (w : Int) : Prop := ∃ v, getE es k = some v ∧ v.1 ≤ w
theorem Has.le {es : List Ent} {k : List Int} {w w' : Int} (h : Has es k w) (z : w ≤ w') : Has es k w' := let ⟨v, a, b⟩ := h; ⟨v, a, by omega⟩
section
variable {pts : List (List Int)} {many s : Nat} {fu es : List Ent} {ties j : List Int} {off : Int × List Int} {w : Int}
theorem keep_all (h : All pts many s fu) (r : Right pts many s (sortI ties, off)) : All pts many s (keep fu ties off) := fun e he => by
  rcases mem_put he with he | rfl
  · exact h e he
  · rcases minP_or ((getE fu (sortI ties)).getD off) off with z | z
    · rw [z]
      cases g : getE fu (sortI ties) with
      | none => exact r
      | some v => exact h _ (getE_mem g)
    · rw [z]; exact r
theorem keep_down (h : Has fu j w) : Has (keep fu ties off) j w := by
  obtain ⟨v, a, b⟩ := h
  unfold keep Has
  rw [getE_put]
  by_cases e : j = sortI ties
  · rw [if_pos e, ← e, a]
    exact ⟨_, rfl, Int.le_trans (minP_le v off).1 b⟩
  · rw [if_neg e]
    exact ⟨v, a, b⟩
theorem keep_new : Has (keep fu ties off) (sortI ties) off.1 := by
  unfold keep Has
  rw [getE_put, if_pos rfl]
  exact ⟨_, rfl, (minP_le _ off).2⟩
theorem foldl_ind {α β : Type} {f : β → α → β} (P : β → Prop) : ∀ {l : List α} {b : β}, P b → (∀ b a, a ∈ l → P b → P (f b a)) → P (l.foldl f b)
  | [], _, h, _ => h
  | x :: xs, b, h, hs => foldl_ind P (l := xs) (hs b x List.mem_cons_self h) fun b a ha p => hs b a (List.mem_cons_of_mem _ ha) p
theorem foldl_hit {α β : Type} {f : β → α → β} (P : β → Prop) {x : α} : ∀ {l : List α} {b : β}, x ∈ l → (∀ b, P (f b x)) → (∀ b a, P b → P (f b a)) → P (l.foldl f b)
  | [], _, h, _, _ => by cases h
  | y :: ys, b, h, h1, h2 => by
    rcases List.mem_cons.mp h with rfl | h
    · show P (ys.foldl f (f b x))
      exact foldl_ind P (l := ys) (h1 b) fun b a _ p => h2 b a p
    · exact foldl_hit P (l := ys) h h1 h2
theorem inner_all {e : Ent} (h : All pts many (s + 1) fu) (r : Right pts many s e) : All pts many (s + 1) (inner many fu e (max e.2.1 ((fb pts e.1 : Nat) : Int))) := by
  refine foldl_ind (All pts many (s + 1)) h fun b n hn p => ?_
  obtain ⟨n0, n1⟩ := mem_below.mp hn
  by_cases hm : n ∈ e.1
  · rw [if_pos hm]; exact p
  · rw [if_neg hm]
    exact keep_all p (r.on n0 n1 hm)
theorem inner_down {e : Ent} {v : Int} (h : Has fu j w) : Has (inner many fu e v) j w := by
  refine foldl_ind (fun fu => Has fu j w) h fun b n hn p => ?_
  split
  · exact p
  · exact keep_down p
theorem inner_new {e : Ent} {v n : Int} (n0 : 0 ≤ n) (n1 : n < many) (hn : n ∉ e.1) : Has (inner many fu e v) (sortI (e.1 ++ [n])) v := by
  refine foldl_hit (fun fu => Has fu (sortI (e.1 ++ [n])) v) (mem_below.mpr ⟨n0, n1⟩) (fun b => ?_) fun b a p => ?_
  · rw [if_neg hn]
    exact keep_new
  · split
    · exact p
    · exact keep_down p
theorem one_all (h : All pts many s es) : All pts many (s + 1) (oneOn pts many es) := by
  refine foldl_ind (All pts many (s + 1)) (fun e he => by cases he) fun b e he p => inner_all p (h e he)
theorem one_new {e : Ent} {n : Int} (he : e ∈ es) (n0 : 0 ≤ n) (n1 : n < many) (hn : n ∉ e.1) : Has (oneOn pts many es) (sortI (e.1 ++ [n])) (max e.2.1 ((fb pts e.1 : Nat) : Int)) :=
  foldl_hit (fun fu => Has fu (sortI (e.1 ++ [n])) (max e.2.1 ((fb pts e.1 : Nat) : Int))) he (fun b => inner_new n0 n1 hn) fun b a p => inner_down p
theorem narrow_all : ∀ s, All pts many s (narrow pts many s)
  | 0 => fun e he => by
    rw [List.mem_singleton.mp he]
    exact ⟨.nil, (fun n hn => by cases hn), rfl, List.Perm.refl _, rfl⟩
  | s + 1 => one_all (narrow_all s)
theorem sortI_nil : sortI [] = [] := List.Perm.eq_nil (sortI_perm [])
theorem narrow_best : ∀ (s : Nat) (o : List Int), o.Nodup → (∀ n ∈ o, 0 ≤ n ∧ n < many) → o.length = s → Has (narrow pts many s) (sortI o) (wOf pts o)
  | 0, o, _, _, hl => by
    have : o = [] := List.length_eq_zero_iff.mp hl
    subst this
    rw [sortI_nil]
    exact ⟨(0, []), rfl, Int.le_refl _⟩
  | s + 1, o, nd, hm, hl => by
    have hne : o ≠ [] := fun z => by rw [z] at hl; cases hl
    have eo : o.dropLast ++ [o.getLast hne] = o := List.dropLast_concat_getLast hne
    have nd' := nd
    rw [← eo] at nd'
    obtain ⟨nd1, _, nd3⟩ := List.nodup_append.mp nd'
    have hl1 : o.dropLast.length = s := by rw [List.length_dropLast]; omega
    obtain ⟨v, gv, hv⟩ := narrow_best s o.dropLast nd1 (fun n hn => hm n (List.dropLast_subset o hn)) hl1
    have hmem := getE_mem gv
    have hr := narrow_all s _ hmem
    have pk : (sortI o.dropLast).Perm o.dropLast := sortI_perm _
    have hlast := hm _ (List.getLast_mem hne)
    have hnk : o.getLast hne ∉ sortI o.dropLast := fun z => nd3 _ (pk.mem_iff.mp z) _ (List.mem_singleton.mpr rfl) rfl
    have z := one_new (pts := pts) hmem hlast.1 hlast.2 hnk
    have ek : sortI (sortI o.dropLast ++ [o.getLast hne]) = sortI o := by
      refine sortI_eq ?_
      conv => rhs; rw [← eo]
      exact List.Perm.append_right _ pk
    show Has (oneOn pts many (narrow pts many s)) (sortI o) (wOf pts o)
    rw [← ek]
    refine z.le ?_
    conv => rhs; rw [← eo]
    rw [wOf_snoc]
    show max v.1 ((fb pts (sortI o.dropLast) : Nat) : Int) ≤ _
    rw [fb_perm pk]
    omega
/-- the told order -/
def told (pts : List (List Int)) (many : Nat) : List Int := ((getE (narrow pts many many) (below many)).getD (0, [])).2
theorem below_sorted : sortI (below many) = below many := (sortI_of (.refl _) ((asc_below many).imp fun h => by omega)).symm
theorem below_nd : (below many).Nodup := (asc_below many).imp fun h => by omega
theorem below_len : (below many).length = many := by unfold below; simp
theorem told_get : ∃ w, getE (narrow pts many many) (below many) = some (w, told pts many) ∧ (told pts many).Perm (below many) ∧ w = wOf pts (told pts many) := by
  obtain ⟨v, gv, _⟩ := narrow_best (pts := pts) many (below many) below_nd (fun n hn => mem_below.mp hn) below_len
  rw [below_sorted] at gv
  have hr := narrow_all many _ (getE_mem gv)
  have et : told pts many = v.2 := by unfold told; rw [gv]; rfl
  rw [et]
  exact ⟨v.1, gv, hr.perm, hr.w⟩
/-- no order is narrower -/
theorem told_least {o : List Int} (h : o.Perm (below many)) : wOf pts (told pts many) ≤ wOf pts o := by
  obtain ⟨w, gw, _, ew⟩ := told_get (pts := pts) (many := many)
  obtain ⟨v, gv, hv⟩ := narrow_best (pts := pts) many o ((List.Perm.nodup_iff h).mpr below_nd) (fun n hn => mem_below.mp (h.mem_iff.mp hn)) (by rw [h.length_eq, below_len])
  rw [sortI_eq h, below_sorted, gw] at gv
  have := Option.some.inj gv
  subst this
  rw [← ew]
  exact hv
end
end NW
end
section
set_option Elab.async false
set_option linter.all false
set_option maxRecDepth 100000
set_option maxHeartbeats 4000000

namespace NW
open PySem L2
def keysNd (es : List Ent) : Prop := (es.map (·.1)).Nodup
theorem put_nd {es : List Ent} {k : List Int} {v : Int × List Int} (h : keysNd es) : keysNd (putE es k v) := by
  unfold putE keysNd
  split
  · rw [List.map_map]
    have e : ((fun e : Ent => e.1) ∘ fun e : Ent => if e.1 = k then (e.1, v) else e) = fun e : Ent => e.1 := by
      funext e
      show (if e.1 = k then (e.1, v) else e).1 = e.1
      split <;> rfl
    rw [e]
    exact h
  · rename_i hk
    rw [List.map_append]
    refine List.nodup_append.mpr ⟨h, by simp, fun a ha b hb => ?_⟩
    have eb : b = k := by simpa using hb
    subst eb
    intro z
    subst z
    obtain ⟨x, hx, ex⟩ := List.mem_map.mp ha
    exact hk (List.any_eq_true.mpr ⟨x, hx, decide_eq_true ex⟩)
theorem keep_nd {fu : List Ent} {ties : List Int} {off : Int × List Int} (h : keysNd fu) : keysNd (keep fu ties off) := put_nd h
def subs : Nat → List (List Int)
  | 0 => [[]]
  | n + 1 => subs n ++ (subs n).map (· ++ [(n : Int)])
theorem subs_len : ∀ n, (subs n).length = 2 ^ n
  | 0 => rfl
  | n + 1 => by
    show (subs n ++ (subs n).map (· ++ [(n : Int)])).length = _
    rw [List.length_append, List.length_map, subs_len n, Nat.pow_succ]
    omega
theorem mem_subs : ∀ (n : Nat) (l : List Int), l.Pairwise (· < ·) → (∀ x ∈ l, 0 ≤ x ∧ x < n) → l ∈ subs n
  | 0, l, _, h => by
    have : l = [] := by
      cases l with
      | nil => rfl
      | cons a t => have := h a List.mem_cons_self; omega
    rw [this]; exact List.mem_singleton.mpr rfl
  | n + 1, l, hp, h => by
    show l ∈ subs n ++ (subs n).map (· ++ [(n : Int)])
    by_cases hn : (n : Int) ∈ l
    · refine List.mem_append_right _ (List.mem_map.mpr ?_)
      obtain ⟨s, t, rfl⟩ := List.append_of_mem hn
      have ht : t = [] := by
        cases t with
        | nil => rfl
        | cons a t =>
          have h1 := (List.pairwise_append.mp hp).2.1
          have h2 := (List.pairwise_cons.mp h1).1 a List.mem_cons_self
          have h3 := h a (by simp)
          omega
      subst ht
      refine ⟨s, mem_subs n s (List.pairwise_append.mp hp).1 (fun x hx => ?_), rfl⟩
      have h1 := (List.pairwise_append.mp hp).2.2 x hx (n : Int) (by simp)
      have h2 := h x (by simp [hx])
      omega
    · refine List.mem_append_left _ (mem_subs n l hp fun x hx => ?_)
      have h1 := h x hx
      have h2 : x ≠ (n : Int) := fun z => hn (z ▸ hx)
      omega
theorem few {pts : List (List Int)} {many s : Nat} {es : List Ent} (h : All pts many s es) (nd : keysNd es) (m10 : many ≤ 10) : es.length ≤ 1024 := by
  have z := List.Nodup.length_le_of_subset (l₁ := es.map (fun e : Ent => e.1)) (l₂ := subs many) nd fun k hk => by
    obtain ⟨e, he, rfl⟩ := List.mem_map.mp hk
    exact mem_subs many _ (h e he).so (h e he).mem
  rw [List.length_map, subs_len] at z
  have : 2 ^ many ≤ 2 ^ 10 := Nat.pow_le_pow_right (by decide) m10
  omega
abbrev ik (k : List Int) : List Key := k.map Sum.inl
theorem ik_V (k : List Int) : (ik k).map kV = k.map V.int := by unfold ik; rw [List.map_map]; rfl
theorem ik_inj {a b : List Int} : ik a = ik b ↔ a = b := List.map_inj_right (fun x y h => Sum.inl.inj h)
/-- (w, o) in a tuple -/
def rEnt (K : PySem.W.Frag) : Rep (Int × List Int) := fun H e v => ∃ p o, v = .ref p ∧ SqT K H p [.int e.1, .ref o] ∧ SqT K H o (e.2.map V.int)
theorem trep_ent {K : PySem.W.Frag} : TRep (rEnt K) := fun H H' e v t ⟨p, o, a, b, c⟩ => ⟨p, o, a, t.seq b, t.seq c⟩
def rKV (K : PySem.W.Frag) (H : Hp) (e : Ent) (kv : List Key × V) : Prop := kv.1 = ik e.1 ∧ rEnt K H e.2 kv.2
theorem val_none {K : PySem.W.Frag} {H : Hp} {es : List Ent} {kvs : List (List Key × V)} (r : Paired (rKV K H) es kvs) {k : List Int} (g : getE es k = none) : valV kvs (ik k) = none := by
  induction r with
  | nil => rfl
  | @cons e kv es kvs h t ih =>
    rw [getE_cons] at g
    by_cases he : e.1 = k
    · rw [if_pos he] at g; cases g
    · rw [if_neg he] at g
      rw [valV_neg (fun z => he (ik_inj.mp (h.1.symm.trans z)))]
      exact ih g
theorem val_some {K : PySem.W.Frag} {H : Hp} {es : List Ent} {kvs : List (List Key × V)} (r : Paired (rKV K H) es kvs) {k : List Int} {v : Int × List Int} (g : getE es k = some v) : ∃ x, valV kvs (ik k) = some x ∧ rEnt K H v x := by
  induction r with
  | nil => cases g
  | @cons e kv es kvs h t ih =>
    rw [getE_cons] at g
    by_cases he : e.1 = k
    · rw [if_pos he] at g
      rw [valV_pos (h.1.trans (ik_inj.mpr he))]
      exact ⟨_, rfl, Option.some.inj g ▸ h.2⟩
    · rw [if_neg he] at g
      rw [valV_neg (fun z => he (ik_inj.mp (h.1.symm.trans z)))]
      exact ih g
theorem any_keys {K : PySem.W.Frag} {H : Hp} {es : List Ent} {kvs : List (List Key × V)} (r : Paired (rKV K H) es kvs) (k : List Int) : (kvs.any fun kv => decide (kv.1 = ik k)) = (es.any fun e => decide (e.1 = k)) := by
  rw [valV_any, getE_any]
  cases g : getE es k with
  | none => rw [val_none r g]; rfl
  | some v => obtain ⟨x, e, _⟩ := val_some r g; rw [e]; rfl
theorem put_pair {K : PySem.W.Frag} {H : Hp} {es : List Ent} {kvs : List (List Key × V)} (r : Paired (rKV K H) es kvs) {k : List Int} {v : Int × List Int} {x : V} (h : rEnt K H v x) : Paired (rKV K H) (putE es k v) (putK kvs (ik k) x) := by
  have e := any_keys r k
  unfold putE putK
  rw [e]
  split
  · clear e
    rename_i q
    clear q
    induction r with
    | nil => exact .nil
    | @cons a b es kvs h1 t ih =>
      refine .cons ?_ ih
      show rKV K H (if a.1 = k then (a.1, v) else a) (if b.1 = ik k then (b.1, x) else b)
      by_cases ha : a.1 = k
      · rw [if_pos ha, if_pos (h1.1.trans (ik_inj.mpr ha))]
        exact ⟨h1.1, h⟩
      · rw [if_neg ha, if_neg (fun z => ha (ik_inj.mp (h1.1.symm.trans z)))]
        exact h1
  · exact Paired.app r (Paired.one ⟨rfl, h⟩)
end NW
end
section
set_option Elab.async false
set_option linter.all false
set_option maxRecDepth 100000
set_option maxHeartbeats 4000000

namespace L2
open PySem PySem.Spec PyProof.Rows
open AutoSeq1 (wpAny_loadPart')
section
variable {prog : Program} {w : World} {A : Around} {E : Value → Shared → Prop} {s : Shared}
theorem collect_range {Q : List Value → Shared → Prop} {r : Addr} {a b c : Int} {t u v : Tok} {n : Nat} (hh : A.handled = none) (hr : IsRange s.heap r a b c t u v) (hsmall : Builtin.Range.small a b c = true)
    (hn : Builtin.Range.rangeSize a b c = n) (hlen : n ≤ 2 ^ 24)
    (hQ : ∀ h' tk acc, (∀ b o, s.heap.get? b = some o → h'.get? b = some o) → ItemsOf (fun i v => ∃ t, v = .int (a + i * c) t) acc n → Q acc.toList { s with heap := h', toks := tk }) :
    wpAny (model prog w) A (collect (.ref r)) Q E s := by
  unfold collect
  refine wpAny_bind (wpAny_runValue (codeAny_builtin PySem.F.entry_proto_collect ?_))
  rw [Around.under_plainId PySem.F.plain_proto_collect _]
  show wpAny _ A.in1 (newList [] >>= fun l => again (.builtin "list.__iadd__" ⟨[l, .ref r], []⟩)) _ _ s
  refine wpAny_bind (wpAny_newObj_type ?_)
  refine wpAny_pure ⟨plainId_quiet PySem.F.plain_list_iadd _, codeAny_builtin PySem.F.entry_list_iadd ?_⟩
  rw [Around.under_plainId PySem.F.plain_list_iadd _]
  have hS : (s.heap.push { cls := .type "list", data := .seq ([] : List Value).toArray }).get? s.heap.objs.size = some { cls := .type "list", data := .seq #[] 0 } := Heap.get?_push_size _ rfl
  show wpAny _ A.in1 (Builtin.List.listExtendWith (.ref s.heap.objs.size) (.ref r) (.ref s.heap.objs.size)) _ _ _
  have fin' : ∀ (h' : Heap) (tk : Nat) (acc' : Array Value) (c' : Nat), (∀ b o, b ≠ s.heap.objs.size → (s.heap.push { cls := .type "list", data := .seq ([] : List Value).toArray }).get? b = some o → h'.get? b = some o) → h'.get? s.heap.objs.size = some { cls := .type "list", dict := none, data := .seq acc' c', slots := #[] } →
      ItemsOf (fun i v => ∃ t, v = .int (a + i * c) t) acc' n → wpAny (model prog w) A (match Value.ref s.heap.objs.size with
      | Value.ref a => do
        match (← load a).data with
          | Data.seq xs _ => pure xs.toList
          | _ => unsupported "internal:collect"
      | _ => unsupported "internal:collect") Q E { s with heap := h', toks := tk } := fun h' tk acc' c' hk hS' hacc => by
    show wpAny _ A (load s.heap.objs.size >>= _) _ _ _
    refine wpAny_bind (wpAny_load hS' ?_)
    refine wpAny_pure ?_
    exact hQ h' tk acc' (fun b o e => hk b o (Nat.ne_of_lt (Heap.lt_size e)) (Heap.get?_push_of_some _ e)) hacc
  refine wpAny_mono (wpAny_extend_range (A := A) (R := fun r s' => ∃ h' tk acc' c', r = .ok (.ret (.ref s.heap.objs.size)) ∧ s' = { s with heap := h', toks := tk } ∧ (∀ b o, b ≠ s.heap.objs.size → (s.heap.push { cls := .type "list", data := .seq ([] : List Value).toArray }).get? b = some o → h'.get? b = some o) ∧ h'.get? s.heap.objs.size = some { cls := .type "list", dict := none, data := .seq acc' c', slots := #[] } ∧ ItemsOf (fun i v => ∃ t, v = .int (a + i * c) t) acc' n)
    (s := { s with heap := s.heap.push { cls := .type "list", data := .seq ([] : List Value).toArray } }) hh (Heap.get?_push_of_some _ hr) hsmall hn hlen s.heap.objs.size (.ref s.heap.objs.size) 0 hS fun h' tk acc' c' hk hS' hacc => ⟨h', tk, acc', c', rfl, rfl, hk, hS', hacc⟩) (fun fin s' h => ?_) (fun e s' h => ?_)
  · cases fin with
    | done f =>
      obtain ⟨h', tk, acc', c', e, rfl, hk, hS', hacc⟩ := h
      cases e
      exact fin' h' tk acc' c' hk hS' hacc
    | again c' => exact ⟨h.1, codeAny_mono h.2 fun r s'' hr => by obtain ⟨h', tk, acc', c', rfl, rfl, hk, hS', hacc⟩ := hr; exact fin' h' tk acc' c' hk hS' hacc⟩
  · obtain ⟨_, _, _, _, e, _⟩ := h
    cases e
end
theorem meets_tuple_range (r : Addr) (a b c : Int) (t u v : Tok) (n : Nat) (hsmall : Builtin.Range.small a b c = true) (hn : Builtin.Range.rangeSize a b c = n) (hlen : n ≤ 1000) :
    Meets (Builtin.«tuple.__new__» ⟨[.type "tuple", .ref r], []⟩)
      (fun A R s => A.handled = none ∧ IsRange s.heap r a b c t u v ∧ ∀ (h' : Heap) (tk : Nat) (acc : Array Value), (∀ b o', s.heap.get? b = some o' → h'.get? b = some o') → ItemsOf (fun i v => ∃ t, v = .int (a + i * c) t) acc n →
        R (.ok (.ret (.ref h'.objs.size))) { s with heap := h'.push { cls := .type "tuple", data := .seq acc }, toks := tk }) :=
  .of_wp fun prog w A R s h => by
    obtain ⟨hp, g, d, tk, os⟩ := s; obtain ⟨hh, ht, h⟩ := h
    have hsub := sub_tuple_self
    have hinit := init_tuple_lookup
    have hmh := madeHere_tuple
    have hT : Shared.TypeIs ⟨hp, g, d, tk, os⟩ (.ref r) "range" := ⟨_, ht, rfl⟩
    wp_walk using wpAny_loadPart' ht, wpAny_typeOf hT, collect_range (A := A.in1) hh ht hsmall hn (by omega)
    intro h' tk' acc hk hacc
    show wpAny _ _ (Builtin.Tuple.tupleExact acc.toList.toArray >>= fun v => ret v) _ _ _
    unfold Builtin.Tuple.tupleExact
    refine wpAny_bind (wpAny_newObj_type ?_ (by show acc.toList.toArray.size ≤ sizeLine; rw [Array.toArray_toList, hacc.1]; exact small hlen))
    refine wpAny_pure ⟨_, rfl, ?_⟩
    have e : acc.toList.toArray = acc := by simp
    rw [e]
    exact h h' tk' acc hk hacc
section
variable {X : Cx}
theorem call_tuple_rng (hc : X.calm = true) : CallR X (.type "tuple") (fun xs H Q => ∃ r j, xs = [.ref r] ∧ H r = some (.rng 0 j) ∧ 0 ≤ j ∧ j ≤ 1000 ∧ ∀ l, H l = none → Q (.ref l) (upd H l (.tup ((below j.toNat).map V.int)))) := by
  intro pins s σ H xs us Q I rr h
  obtain ⟨r, j, rfl, hr, j0, j1, q⟩ := h
  obtain ⟨u, rfl, ru⟩ := rr.one
  cases ru
  obtain ⟨t1, t2, t3, e⟩ := I.hok r _ hr
  refine callType_new PySem.F.called_tuple (by decide) (PySem.F.typeCall_tuple_1 _) (PySem.F.newCall_tuple_1 _) (fun obj => PySem.F.args_object_init_2 obj _) PySem.F.entry_tuple_new
    (meets_tuple_range r 0 j 1 t1 t2 t3 j.toNat (small_one (by omega) (by omega) (by omega) (by omega)) (by rw [rangeSize_one]; split <;> omega) (by omega)) ⟨I.ok.hd hc, e, fun h' tk acc hk hacc => ⟨⟨_, Heap.get?_push_size _ rfl, rfl⟩, ?_⟩⟩
  have I1 : Inv X pins σ H { s with heap := h', toks := tk } := I.kept hk
  have hn : H h'.objs.size = none := I1.hok.fresh (Nat.le_refl _)
  refine ⟨.ref h'.objs.size, _, I1.laid (a := h'.objs.size) (o := .tup ((below j.toNat).map V.int)) (t' := tk) (fun b o e => Heap.get?_push_of_some _ e) (Nat.le_refl _) ⟨?_, acc.toList, ?_, ⟨_, Heap.get?_push_size _ rfl, rfl, 0, by simp⟩⟩, rfl, q _ hn⟩
  · rw [List.length_map, List.length_map, List.length_range]
    exact small (by omega)
  · refine vals_of (by simp [hacc.1]) fun i x u h1 h2 => ?_
    have h2' : acc[i]? = some u := by simpa using h2
    obtain ⟨t, rfl⟩ := hacc.2 i u h2'
    have hi : i < j.toNat := by
      have := (Array.getElem?_eq_some_iff.mp h2').1
      rw [hacc.1] at this
      exact this
    rw [List.getElem?_map, List.getElem?_map, List.getElem?_range hi] at h1
    have ex : x = .int (i : Int) := (Option.some.inj h1).symm
    subst ex
    exact ⟨t, by rw [Int.mul_one, Int.zero_add]⟩
end
end L2
end
section
set_option Elab.async false
set_option linter.all false
set_option maxRecDepth 100000
set_option maxHeartbeats 4000000

namespace L2
open PySem PySem.Spec PyProof.Rows
open AutoSeq1 (wpAny_loadPart')
theorem lri_no_len : typeLookup (.type "list_reverseiterator") "__len__" = pure none := by rw [typeLookup_type, builtinLookup_eq_fast]; kernel_rfl
theorem lri_hint : typeLookup (.type "list_reverseiterator") "__length_hint__" = pure (some (.builtin "list_reverseiterator.__length_hint__")) := by rw [typeLookup_type, builtinLookup_eq_fast]; kernel_rfl
section
variable {prog : Program} {w : World} {A : Around} {E : Value → Shared → Prop} {s : Shared}
theorem hint_rev {it l : Addr} {i : Int} {Q : Bool → Shared → Prop} (hit : s.heap.IsRevIter it l i) (h : Q false s) : wpAny (model prog w) A (Builtin.List.listLengthHint (.ref it)) Q E s := by
  unfold Builtin.List.listLengthHint
  refine wpAny_bind (wpAny_specialOf hit.typeIs lri_no_len ?_)
  show wpAny _ A (specialOf (Value.ref it) (Str.ofString "__length_hint__") >>= _) _ _ _
  refine wpAny_bind (wpAny_specialOf hit.typeIs lri_hint ?_)
  generalize hid : ("list_reverseiterator.__length_hint__" : String) = id0
  wp_delta
  rw [show splitId id0 = some ("list_reverseiterator", "__length_hint__") from by subst hid; decide +kernel]
  subst hid
  refine wpAny_bind (wpAny_isInstance (T := "list_reverseiterator") (b := true) hit.typeIs (by rw [isSubtype_type]; kernel_rfl) ?_)
  refine wpAny_ite_split (fun hab => absurd hab (by decide)) (fun _ => ?_)
  refine wpAny_ite_split (fun _ => ?_) (fun hab => absurd (by decide +kernel) hab)
  refine wpAny_ite_split (fun hab => absurd hab (by decide +kernel)) (fun _ => ?_)
  exact wpAny_pure h
theorem extend_rev {R : Result → Shared → Prop} {it l : Addr} {items : Array Value} (hh : A.handled = none) (hit : s.heap.IsRevIter it l ((items.size : Int) - 1)) (hl : s.heap.IsList l items) (hne : l ≠ it) (hlen : items.size ≤ 2 ^ 24)
    (S : Addr) (res : Value) (c₀ : Nat) (hS : s.heap.get? S = some { cls := .type "list", data := .seq #[] c₀ }) (hSI : S ≠ it) (hSl : S ≠ l)
    (hR : ∀ h' tk acc' c', (∀ b o, b ≠ S → b ≠ it → s.heap.get? b = some o → h'.get? b = some o) → h'.get? S = some { cls := .type "list", dict := none, data := .seq acc' c', slots := #[] } →
      ItemsOf (fun i v => items[items.size - 1 - i]? = some v) acc' items.size → R (.ok (.ret res)) { s with heap := h', toks := tk }) :
    wpAny (model prog w) A.in1 (Builtin.List.listExtendWith (.ref S) (.ref it) res)
      (fun fin s' => match fin with | .done f => R (.ok f) s' | .again c' => c'.quiet = true ∧ codeAny (model prog w) A c' R s') (fun e s' => R (.error e) s') s := by
  have hSf : S ∉ [it, l] := fun hm => by
    rcases List.mem_cons.mp hm with e | hm
    · exact hSI e
    · exact hSl (List.mem_singleton.mp hm)
  have W := (Walks.listRev (prog := prog) (w := w) (A := A.in1) hh it l hne items).toS
  unfold Builtin.List.listExtendWith
  refine wpAny_bind (wpAny_typeOf (T := "list_reverseiterator") hit.typeIs ?_)
  have h1 : Builtin.List.listSameRef (.ref S) (.ref it) = false := by simp [Builtin.List.listSameRef, hSI]
  have h2 : (Value.type "list_reverseiterator" == Value.type "list") = false := by decide
  have h3 : (Value.type "list_reverseiterator" == Value.type "tuple") = false := by decide
  simp only [h1, h2, h3, Bool.or_false, Bool.false_eq_true, if_false]
  refine wpAny_bind (wpAny_pyIter_revIter hit ?_)
  refine wpAny_bind (wpAny_holding (hint_rev hit ?_))
  refine wpAny_ite_split (fun hab => absurd hab (by decide +kernel)) (fun _ => wpAny_pure ⟨plainId_quiet F.plain_extend_loop _, ?_⟩)
  refine codeAny_extend_loopS W (by rw [sizeLine_eq]; omega) S hSf res items.size 0 _ #[] c₀ rfl (Nat.zero_le _) ⟨Nat.zero_le _, ?_, hl⟩ hS (ItemsOf.nil _) fun s' acc' c' hm hS' hacc => ?_
  · have e : (items.size : Int) - 1 - ((0 : Nat) : Int) = (items.size : Int) - 1 := by omega
    rw [e]
    exact hit
  rw [Moved.eq_with hm]
  refine hR s'.heap s'.toks acc' c' (fun b o hb hb2 e => hm.heap b o (fun hmem => ?_) e) hS' hacc
  rcases List.mem_cons.mp hmem with e' | hmem
  · exact hb e'
  · exact hb2 (List.mem_singleton.mp hmem)
theorem init_rev {R : Result → Shared → Prop} {it l : Addr} {items : Array Value} (hh : A.handled = none) (hit : s.heap.IsRevIter it l ((items.size : Int) - 1)) (hl : s.heap.IsList l items) (hne : l ≠ it) (hlen : items.size ≤ 2 ^ 24)
    (S : Addr) (hS : s.heap.get? S = some { cls := .type "list", data := .seq #[] }) (hSI : S ≠ it) (hSl : S ≠ l)
    (hR : ∀ h' tk acc' c', (∀ b o, b ≠ S → b ≠ it → s.heap.get? b = some o → h'.get? b = some o) → h'.get? S = some { cls := .type "list", dict := none, data := .seq acc' c', slots := #[] } →
      ItemsOf (fun i v => items[items.size - 1 - i]? = some v) acc' items.size → R (.ok (.ret .none)) { s with heap := h', toks := tk }) :
    wpAny (model prog w) A.in1 (Builtin.«list.__init__» ⟨[.ref S, .ref it], []⟩)
      (fun fin s' => match fin with | .done f => R (.ok f) s' | .again c' => c'.quiet = true ∧ codeAny (model prog w) A c' R s') (fun e s' => R (.error e) s') s := by
  show wpAny _ _ (do let old ← Builtin.List.listItems (.ref S); Builtin.List.listUpdate (.ref S) (fun _ => #[]); letGo old.toList.reverse; Builtin.List.listExtendWith (.ref S) (.ref it) .none) _ _ s
  refine wpAny_bind ?_
  unfold Builtin.List.listItems
  refine wpAny_bind (wpAny_seqItems hS rfl (wpAny_pure ?_))
  show wpAny _ _ (updateSeq S (fun _ => #[]) >>= fun _ => letGo (#[] : Array Value).toList.reverse >>= fun _ => Builtin.List.listExtendWith (.ref S) (.ref it) .none) _ _ s
  refine wpAny_bind (wpAny_updateSeq hS rfl ?_)
  have hS₂ := Heap.get?_update_self (Obj.mapSeq (fun _ => (#[] : Array Value))) hS rfl
  have oth : ∀ b o, b ≠ S → s.heap.get? b = some o → (s.heap.update S (Obj.mapSeq (fun _ => (#[] : Array Value)))).get? b = some o :=
    fun b o hb e => (Heap.get?_update_other _ _ (Ne.symm hb)).trans e
  refine wpAny_bind (wpAny_letGo ?_)
  refine extend_rev hh (hit.at fun o e => oth it o (Ne.symm hSI) e) (hl.at fun o e => oth l o (Ne.symm hSl) e) hne hlen S .none _ hS₂ hSI hSl fun h' tk acc' c' hk hS' hacc => ?_
  exact hR h' tk acc' c' (fun b o hb hb2 e => hk b o hb hb2 (oth b o hb e)) hS' hacc
theorem list_rev {Q : Value → Shared → Prop} {it l : Addr} {items : Array Value} (hh : A.handled = none) (hit : s.heap.IsRevIter it l ((items.size : Int) - 1)) (hl : s.heap.IsList l items) (hne : l ≠ it) (hlen : items.size ≤ 2 ^ 24)
    (hQ : ∀ h' tk acc' c', (∀ b o, b ≠ it → s.heap.get? b = some o → h'.get? b = some o) →
      h'.get? s.heap.objs.size = some { cls := .type "list", dict := none, data := .seq acc' c', slots := #[] } → ItemsOf (fun i v => items[items.size - 1 - i]? = some v) acc' items.size → Q (.ref s.heap.objs.size) { s with heap := h', toks := tk }) :
    wpAny (model prog w) A (call (.type "list") [.ref it]) Q E s := by
  refine callType_codes (Q₁ := fun obj s₁ => obj = .ref s.heap.objs.size ∧ s₁ = { s with heap := s.heap.push { cls := .type "list", data := .seq #[] } }) F.called_list (F.typeCall_list_1 _) F.entry_list_init
    (code_list_new _ ⟨rfl, rfl⟩) fun obj s₁ h₁ => ?_
  obtain ⟨rfl, rfl⟩ := h₁
  have hS : (s.heap.push { cls := .type "list", data := .seq #[] }).get? s.heap.objs.size = some { cls := .type "list", data := .seq #[] } := Heap.get?_push_size _ rfl
  have ni : s.heap.objs.size ≠ it := fun e => by
    obtain ⟨o, ho, _⟩ := hit
    have := Heap.lt_size ho
    rw [e] at this
    exact Nat.lt_irrefl _ this
  have nl : s.heap.objs.size ≠ l := fun e => by
    obtain ⟨o, ho, _⟩ := hl
    have := Heap.lt_size ho
    rw [e] at this
    exact Nat.lt_irrefl _ this
  refine ⟨⟨_, hS, rfl⟩, F.args_list_init_2 _ _, init_rev (A := A.in1) hh (hit.at fun o e => Heap.get?_push_of_some _ e) (hl.at fun o e => Heap.get?_push_of_some _ e) hne hlen _ hS ni nl fun h' tk acc' c' hk hS' hacc => ?_⟩
  exact ⟨rfl, hQ h' tk acc' c' (fun b o hb e => hk b o (Nat.ne_of_lt (Heap.lt_size e)) hb (Heap.get?_push_of_some _ e)) hS' hacc⟩
end
section
variable {X : Cx} {e : Expr} {te : TE} {p1 p2 pos pos2 : Pos}
/-- list(reversed(a list)) -/
def tLRev (K : PySem.W.Frag) (te : TE) : TE := fun σ H Q => te σ H fun v H1 => ∃ a xs, v = .ref a ∧ SqL K H1 a xs ∧ xs.length ≤ 1000 ∧ ∀ l, H1 l = none → Q (.ref l) (upd H1 l (.lst xs.reverse))
theorem pe_lrev (hc : X.calm = true) (hg : Gl X "list") (hm : X.mg "list" = none) (hg2 : Gl X "reversed") (hm2 : X.mg "reversed" = none) (he : PE X e te)
    (hv : bootBuiltins "list" = some (.type "list") := by exact PyProof.Rows.boot_list) (hv2 : bootBuiltins "reversed" = some (.type "reversed") := by decide +kernel)
    (s1 : starEach [e] X.env = (false, eval e X.env) :: starEach [] X.env := by rfl)
    (s2 : starEach [.Call (.Name "reversed" p2) [e] [] pos2] X.env = (false, eval (.Call (.Name "reversed" p2) [e] [] pos2) X.env) :: starEach [] X.env := by rfl) :
    PE X (.Call (.Name "list" p1) [.Call (.Name "reversed" p2) [e] [] pos2] [] pos) (tLRev X.K te) := by
  intro pins s σ H Q I h
  refine wpAny_Call_Name_kw (ld_blt I hg hm hv ?_ (by decide) (by decide))
  refine PyProof.Rows.callWith_type1 ?_ s2 rfl
  rw [s2]
  show wpAny _ _ (spliced ((false, eval (.Call (.Name "reversed" p2) [e] [] pos2) X.env) :: backTo pos (starEach [] X.env))) _ _ s
  refine Calls.spliced_cons ?_
  refine wpAny_Call_Name_kw (ld_blt I hg2 hm2 hv2 ?_ (by decide) (by decide))
  refine PyProof.Rows.callWith_type1 ?_ s1 rfl
  rw [s1]
  show wpAny _ _ (spliced ((false, eval e X.env) :: backTo pos2 (starEach [] X.env))) _ _ s
  refine Calls.spliced_cons (thn (he pins s σ H _ I h) fun u s1 ⟨x, H1, I1, r1, q1⟩ => ?_)
  refine Calls.spliced_nil ?_
  obtain ⟨a, xs, rfl, ha, hz, q⟩ := q1
  cases r1
  obtain ⟨its, r, pl, _⟩ := I1.list ha
  have lx := r.length
  have hl := pl.isList
  refine call_reversed_list hl ?_
  refine Calls.spliced_nil ?_
  have hne : a ≠ s1.heap.objs.size := fun e => by
    obtain ⟨o, ho, _⟩ := hl
    have := Heap.lt_size ho
    rw [e] at this
    exact Nat.lt_irrefl _ this
  refine list_rev (items := its.toArray) (I1.ok.hd hc) ⟨_, Heap.get?_push_size _ rfl, rfl, rfl⟩ (hl.at fun o e => Heap.get?_push_of_some _ e) hne (by rw [List.size_toArray]; omega) fun h' tk acc' c' hk hS' hacc => ?_
  have hsz : (s1.heap.push (revObj a ((its.toArray.size : Int) - 1))).objs.size = s1.heap.objs.size + 1 := by simp [Heap.push]
  refine ⟨.ref _, _, I1.laid (o := .lst xs.reverse) (a := (s1.heap.push (revObj a ((its.toArray.size : Int) - 1))).objs.size) (t' := tk) (fun b o e => hk b o (Nat.ne_of_lt (Heap.lt_size e)) (Heap.get?_push_of_some _ e)) (by rw [hsz]; omega) ⟨?_, acc'.toList, c', ?_, by simpa using hS'⟩, rfl, q _ (I1.hok.fresh (by rw [hsz]; omega))⟩
  · rw [List.length_reverse]
    exact small (by omega)
  · refine vals_of (by rw [List.length_reverse, lx, ← List.size_toArray, ← hacc.1]; simp) fun i x u h1 h2 => ?_
    have h2' : acc'[i]? = some u := by simpa using h2
    have hi : i < its.length := by
      have := (Array.getElem?_eq_some_iff.mp h2').1
      rw [hacc.1, List.size_toArray] at this
      exact this
    have g := hacc.2 i u h2'
    rw [List.size_toArray] at g
    have g' : its[its.length - 1 - i]? = some u := by simpa using g
    rw [List.getElem?_reverse (by omega), lx] at h1
    obtain ⟨u', hu', rr⟩ := r.get h1
    rw [hu'] at g'
    cases g'
    exact rr
end
end L2
end
section
set_option Elab.async false
set_option linter.all false
set_option maxRecDepth 100000
set_option maxHeartbeats 4000000

namespace K16
open PySem L2
def top (i : Nat) : Stmt := PySem.Challenge.pw_frontways_k16_whole_no_narrower_order.main.body.getD i (.Pass ⟨0, 0, 0, 0⟩)
abbrev sInit : Stmt := inClass (top 20) 0
abbrev sSize : Stmt := inClass (top 20) 1
abbrev sTies : Stmt := inClass (top 20) 2
abbrev sAt : Stmt := inClass (top 20) 3
abbrev sAmt : Stmt := top 21
abbrev sChk : Stmt := top 22
abbrev sPts : Stmt := top 23
abbrev sWithin : Stmt := top 24
abbrev sNarrow : Stmt := top 27
abbrev sOne : Stmt := top 28
abbrev sFront : Stmt := top 29
abbrev sKeep : Stmt := top 30
abbrev sCell : Stmt := top 32
abbrev sMix : Stmt := top 33
abbrev sDraw : Stmt := top 34
abbrev sWeb : Stmt := top 35
abbrev sOrder : Stmt := top 36
abbrev sWidth : Stmt := top 37
abbrev sRefuse : Stmt := top 38
abbrev sIsOrd : Stmt := top 39
abbrev sLaw : Stmt := top 40

theorem ja : ¬ (("amount" : Str) = "joints") := by decide +kernel
def flds (z : Int) (j : Addr) : List (Str × V) := putF "joints" (.ref j) (putF "amount" (.int z) [])
theorem flds_amount (z : Int) (j : Addr) : (flds z j).lookup ("amount" : Str) = some (.int z) := by
  unfold flds
  rw [lookup_putF, if_neg ja, lookup_putF, if_pos rfl]
theorem flds_joints (z : Int) (j : Addr) : (flds z j).lookup ("joints" : Str) = some (.ref j) := by
  unfold flds
  rw [lookup_putF, if_pos rfl]
theorem flds_no (z : Int) (j : Addr) {m : Str} (h1 : ¬ m = "joints") (h2 : ¬ m = "amount") : (flds z j).lookup m = none := by
  unfold flds
  rw [lookup_putF, if_neg h1, lookup_putF, if_neg h2]
  all_goals rfl

/-- what the top has made -/
structure Txt (K : PySem.W.Frag) (mg : Str → Option Value) (C : Addr) : Prop where
  cl : Cls K C
  nA : NoAttr K C "amount"
  nJ : NoAttr K C "joints"
  mgC : mg "Web" = some (.ref C)
  mp : ∃ t, mg "MOST_POINTS" = some (.int 10 t)
  mt : ∃ t, mg "MOST_TIES" = some (.int 12 t)
  len : mg "len" = none
  range : mg "range" = none
  int : mg "int" = none
  max : mg "max" = none
  min : mg "min" = none
  sorted : mg "sorted" = none
  tuple : mg "tuple" = none
  list : mg "list" = none
  bool : mg "bool" = none
  enum : mg "enumerate" = none
  isi : mg "isinstance" = none

/-- a web of z points with the sorted ties as stands at p -/
def WebAt (K : PySem.W.Frag) (C : Addr) (H : Hp) (p : Addr) (z : Int) (as : List (List Int)) : Prop := ∃ dx j, H p = some (.ins C dx (flds z j)) ∧ rTup K (rPair K) H as (.ref j)
theorem WebAt.same {K : PySem.W.Frag} {C : Addr} {H H' : Hp} {p : Addr} {z : Int} {as : List (List Int)} (h : WebAt K C H p z as) (e : Same H H') : WebAt K C H' p z as := by
  obtain ⟨dx, j, h1, h2⟩ := h
  exact ⟨dx, j, e _ _ h1, trep_tup (trep_tup trep_int) _ _ _ _ e.ts h2⟩

def spCell (K : PySem.W.Frag) : Sp := fun vs H Q _ => ∃ (a : Addr) (ns : List Int) (k : Int), vs = [.ref a, .int k] ∧ SqL K H a (ns.map V.int) ∧ 0 ≤ k ∧ ∀ c : Int, Q (.int c) H
def spMix : Sp := fun vs H Q _ => ∃ (c k : Int), vs = [.int c, .int k] ∧ ∀ r : Int, Q (.int r) H
def spDraw : Sp := fun vs H Q _ => ∃ (c many most : Int), vs = [.int c, .int many, .int most] ∧ 0 ≤ many ∧ many ≤ 20 ∧ 0 < most ∧ most ≤ 1000 ∧
  ∀ (l : Addr) (ms : List Int) (H' : Hp), Same H H' → H l = none → H' l = some (.lst (ms.map V.int)) → (ms.length : Int) = many → (∀ m ∈ ms, 0 ≤ m ∧ m < most) → Q (.ref l) H'
def spWeb (K : PySem.W.Frag) : Sp := fun vs H Q _ => ∃ (a : Addr) (ns : List Int), vs = [.ref a] ∧ SqL K H a (ns.map V.int) ∧
  ∀ (t l : Addr) (z : Int) (xs : List V) (as : List (List Int)) (H' : Hp), Same H H' → H' t = some (.tup [.int z, .ref l]) → H' l = some (.lst xs) → H l = none → Paired (rPair K H') as xs → 1 ≤ z → z ≤ 10 → as.length ≤ 12 → OkTies z as → Q (.ref t) H'
def spAmt : Sp := fun vs H Q _ => ∃ (p t : Int), vs = [.int p, .int t] ∧ 1 ≤ p ∧ p ≤ 10 ∧ 0 ≤ t ∧ t ≤ 12 ∧ Q .non H
def spPts (K : PySem.W.Frag) : Sp := fun vs H Q _ => ∃ (m a b : Int) (t : Addr), vs = [.int m, .ref t] ∧ SqT K H t [.int a, .int b] ∧ 0 ≤ a ∧ a < b ∧ b < m ∧ Q .non H
def spChk (K : PySem.W.Frag) : Sp := fun vs H Q _ => ∃ (m : Int) (l : Addr) (xs : List V) (as : List (List Int)), vs = [.int m, .ref l] ∧ SqL K H l xs ∧ Paired (rSeq K H) as xs ∧ OkTies m as ∧ as.length ≤ 12 ∧
  ∀ (j : Addr) (H' : Hp), Same H H' → rTup K (rPair K) H' (as.map srt) (.ref j) → Q (.ref j) H'
def spInit (K : PySem.W.Frag) (C : Addr) : Sp := fun vs H Q _ => ∃ (p dx l : Addr) (m : Int) (xs : List V) (as : List (List Int)), vs = [.ref p, .int m, .ref l] ∧ H p = some (.ins C dx []) ∧ SqL K H l xs ∧ Paired (rSeq K H) as xs ∧ OkTies m as ∧ as.length ≤ 12 ∧ 1 ≤ m ∧ m ≤ 10 ∧
  ∀ (H' : Hp), (∀ b o, H b = some o → b ≠ p → H' b = some o) → WebAt K C H' p m (as.map srt) → Q .non H'
def spSize (K : PySem.W.Frag) (C : Addr) : Sp := fun vs H Q _ => ∃ (p : Addr) (m : Int) (as : List (List Int)), vs = [.ref p] ∧ WebAt K C H p m as ∧ Q (.int m) H
def spTies (K : PySem.W.Frag) (C : Addr) : Sp := fun vs H Q _ => ∃ (p : Addr) (m : Int) (as : List (List Int)), vs = [.ref p] ∧ WebAt K C H p m as ∧ ∀ (l : Addr) (H' : Hp), Same H H' → rLst K (rPair K) H' as (.ref l) → Q (.ref l) H'
def spAt (K : PySem.W.Frag) (C : Addr) : Sp := fun vs H Q _ => ∃ (p : Addr) (m x : Int) (as : List (List Int)), vs = [.ref p, .int x] ∧ WebAt K C H p m as ∧ as.length ≤ 12 ∧
  ∀ (l : Addr) (H' : Hp), Same H H' → H l = none → H' l = some (.lst ((hits x as).map V.int)) → Q (.ref l) H'
def spLaw (K : PySem.W.Frag) : Sp := fun vs H Q _ => ∃ (a : Addr) (ns : List Int), vs = [.ref a] ∧ SqL K H a (ns.map V.int) ∧ ns.length ≤ 63 ∧ ∀ H', Q (.bl true) H'

section
variable {P : Program} {w : World} {K : PySem.W.Frag} {mg : Str → Option Value} {base : Heap} {f C : Addr} {fd : FuncData}

theorem scCell : FnScope ["_law_script", "_law_k"] ["_law_script", "_law_k"] (defScope sCell) := ⟨rfl, rfl, rfl, by decide +kernel, rfl, by decide +kernel, by decide +kernel⟩
theorem ok_cell (F : Fun K "_law_cell" "_law_cell" sCell f fd) (T : Txt K mg C) : FnOk P w K mg base CX0 1 f fd ["_law_script", "_law_k"] (spCell K) := by
  refine F.ok scCell (fun vs H Q E h => ?_) (fun cdv A outer s H vs Q E hr h => ?_)
  · obtain ⟨a, ns, k, rfl, _⟩ := h
    rfl
  obtain ⟨a, ns, k, rfl, hS, h0, q⟩ := h
  refine ⟨_, pss_one (ps_ret (pe_ifExp (pt_cmpR op_lt (pv 1) (pe_callB call_len_seq rfl T.len PySem.boot_len (pa_cons (pv 0) pa_nil)) (nomark _)) (pe_ix ix_list (pv 0) (pv 1) (fun _ _ => rfl)) pe_int)), ?_⟩
  refine ⟨_, rfl, _, rfl, a, _, rfl, .inl hS, _, _, rfl, rfl, _, rfl, ?_⟩
  refine ite2 (fun c => ?_) (fun c => ?_)
  · have c' : k < (((ns.map V.int).length : Nat) : Int) := of_decide_eq_true c
    rw [List.length_map] at c'
    obtain ⟨v, hv⟩ := atI_ints h0 c'
    exact ⟨_, rfl, _, rfl, a, _, _, _, rfl, rfl, hS, hv, q v⟩
  · exact q 0

theorem scMix : FnScope ["_law_cell_here", "_law_k", "_law_number"] ["_law_cell_here", "_law_k"] (defScope sMix) := ⟨rfl, rfl, rfl, by decide +kernel, rfl, by decide +kernel, by decide +kernel⟩
theorem ok_mix (F : Fun K "_law_mixed" "_law_mixed" sMix f fd) : FnOk P w K mg base CX0 1 f fd ["_law_cell_here", "_law_k"] spMix := by
  refine F.ok scMix (fun vs H Q E h => ?_) (fun cdv A outer s H vs Q E hr h => ?_)
  · obtain ⟨c, k, rfl, _⟩ := h
    rfl
  obtain ⟨c, k, rfl, q⟩ := h
  refine ⟨_, pss_cons (ps_set (i := 2) scMix.nd rfl (Or.inl rfl) (pe_op op_mod (pe_op op_add (pe_op op_add (pe_op op_mul (pe_op op_mod (pv 0) pe_int) pe_int) (pe_op op_mul (pv 1) pe_int)) pe_int) pe_int))
    (pss_one (ps_ret (pe_op op_mod (pe_op op_mul (pv 2) (pv 2)) pe_int))), ?_⟩
  refine ⟨_, rfl, _, _, rfl, rfl, (by show (0 : Int) < 2147483647; decide), _, _, rfl, rfl, .inr ⟨by decide, by decide⟩, _, rfl, _, _, rfl, rfl, .inr ⟨by decide, by decide⟩, _, _, rfl, rfl, _, _, rfl, rfl, _, _, rfl, rfl, (by show (0 : Int) < 2147483629; decide), ?_⟩
  refine ⟨_, rfl, _, rfl, _, _, rfl, rfl, ?_, _, _, rfl, rfl, (by show (0 : Int) < 2147483587; decide), q _⟩
  have h1 := Int.emod_nonneg (c % 2147483647 * 16807 + k * 48271 + 11) (show (2147483629 : Int) ≠ 0 by decide)
  have h2 := Int.emod_lt_of_pos (c % 2147483647 * 16807 + k * 48271 + 11) (show (0 : Int) < 2147483629 by decide)
  exact .inl ⟨by omega, by omega⟩

theorem scDraw : FnScope ["_law_cell_here", "_law_many", "_law_most", "_law_found", "_law_left", "_law_k"] ["_law_cell_here", "_law_many", "_law_most"] (defScope sDraw) := ⟨rfl, rfl, rfl, by decide +kernel, rfl, by decide +kernel, by decide +kernel⟩
theorem ok_draw {fM : Addr} {fdM : FuncData} (F : Fun K "_law_draws" "_law_draws" sDraw f fd) (T : Txt K mg C) (GM : FnOk P w K mg base CX0 1 fM fdM ["_law_cell_here", "_law_k"] spMix) (bM : Binds K fdM ["_law_cell_here", "_law_k"] []) (kM : PySem.W.keepIn K (.ref fM) = true) (mM : mg "_law_mixed" = some (.ref fM)) :
    FnOk P w K mg base CX0 2 f fd ["_law_cell_here", "_law_many", "_law_most"] spDraw := by
  refine F.ok scDraw (fun vs H Q E h => ?_) (fun cdv A outer s H vs Q E hr h => ?_)
  · obtain ⟨c, many, most, rfl, _⟩ := h
    rfl
  obtain ⟨c, many, most, rfl, h0, h1, h2, h3, q⟩ := h
  refine ⟨_, pss_cons (ps_set (i := 3) scDraw.nd rfl (Or.inl rfl) (pe_lst pa_nil))
    (pss_cons (ps_set (i := 4) scDraw.nd rfl (Or.inl rfl) (pe_op op_fdiv (pv 0) pe_int))
    (pss_cons (ps_for PassesOwn.never rfl (pi_range1 rfl T.range (pa_cons (pv 1) pa_nil)) (pg_name (i := 5) scDraw.nd rfl (Or.inl rfl))
      (pss_one (ps_if (pt_cmpR op_eq (pe_op op_mod (pv 0) pe_int) pe_int (nomark _))
        (pss_cons (ps_expr (pe_bm PySem.F.plainAttrs_list PySem.F.slot_list_append PySem.F.type_list_append mt_append (pv 3) (pa_cons (pe_op op_mod (pv 4) (pv 2)) pa_nil)))
          (pss_one (ps_set (i := 4) scDraw.nd rfl (Or.inl rfl) (pe_op op_fdiv (pv 4) (pv 2)))))
        (pss_one (ps_expr (pe_bm PySem.F.plainAttrs_list PySem.F.slot_list_append PySem.F.type_list_append mt_append (pv 3) (pa_cons (pe_op op_mod (pe_call GM hr rfl mM kM bM .nil pass0 (pa_cons (pv 0) (pa_cons (pv 5) pa_nil))) (pv 2)) pa_nil)))))))
    (pss_one (ps_ret (pv 3))))), ?_⟩
  refine ⟨Nat.zero_le _, fun l hl => ?_⟩
  refine ⟨_, rfl, _, _, rfl, rfl, ⟨by decide, by decide⟩, ?_⟩
  refine ⟨_, rfl, many, rfl, by omega, by omega, ?_⟩
  refine for_range (lo := 0) (n := many.toNat) (fun i σ H2 => ∃ (ms : List Int) (left : Int) (kv : Option V), σ = [some (.int c), some (.int many), some (.int most), some (.ref l), some (.int left), kv] ∧ Same H H2 ∧ H2 l = some (.lst (ms.map V.int)) ∧ ms.length = i ∧ ∀ m ∈ ms, 0 ≤ m ∧ m < most)
    ⟨[], _, none, rfl, Same.new hl _, upd_same, rfl, fun m hm => by cases hm⟩ ?_ ?_
  · rintro i σ H2 hi ⟨ms, left, kv, rfl, sm, hL, hn, hb⟩
    have put : ∀ v : Int, 0 ≤ v ∧ v < most → Same H (upd H2 l (.lst (ms.map V.int ++ [.int v]))) ∧ (upd H2 l (.lst (ms.map V.int ++ [.int v]))) l = some (.lst ((ms ++ [v]).map V.int)) ∧ (ms ++ [v]).length = i + 1 ∧ ∀ m ∈ ms ++ [v], 0 ≤ m ∧ m < most := fun v hv => by
      refine ⟨fun b o e => by rw [upd_ne (ne_of_none e hl)]; exact sm b o e, by rw [upd_same, List.map_append]; rfl, by simp [hn], fun m hm => ?_⟩
      rcases List.mem_append.mp hm with hm | hm
      · exact hb m hm
      · rw [List.mem_singleton.mp hm]; exact hv
    have hz : (ms.map V.int).length < sizeLine := by rw [List.length_map]; exact small1000 (by omega)
    refine ⟨_, rfl, _, _, rfl, rfl, (by show (0 : Int) < 2; decide), rfl, _, rfl, ?_⟩
    refine ite2 (fun _ => ?_) (fun _ => ?_)
    · obtain ⟨p1, p2, p3, p4⟩ := put (left % most) ⟨Int.emod_nonneg _ (by omega), Int.emod_lt_of_pos _ h2⟩
      refine ⟨_, rfl, .inl ⟨rfl, _, SqL.of hL⟩, _, rfl, _, rfl, _, _, rfl, rfl, h2, l, _, _, rfl, rfl, hL, hz, ?_⟩
      refine ⟨_, rfl, _, rfl, _, _, rfl, rfl, ⟨h2, by omega⟩, ?_⟩
      exact ⟨_, _, _, rfl, p1, p2, p3, p4⟩
    · refine ⟨_, rfl, .inl ⟨rfl, _, SqL.of hL⟩, _, rfl, _, rfl, _, _, rfl, fun r => ?_⟩
      obtain ⟨p1, p2, p3, p4⟩ := put (r % most) ⟨Int.emod_nonneg _ (by omega), Int.emod_lt_of_pos _ h2⟩
      refine ⟨_, rfl, _, _, rfl, rfl, h2, l, _, _, rfl, rfl, hL, hz, ?_⟩
      exact ⟨_, _, _, rfl, p1, p2, p3, p4⟩
  · rintro σ H2 ⟨ms, left, kv, rfl, sm, hL, hn, hb⟩
    exact ⟨_, rfl, q l ms H2 sm hl hL (by omega) hb⟩

theorem scAmt : FnScope ["points", "ties"] ["points", "ties"] (defScope sAmt) := ⟨rfl, rfl, rfl, by decide +kernel, rfl, by decide +kernel, by decide +kernel⟩
theorem ok_amt (F : Fun K "refuse_amounts" "refuse_amounts" sAmt f fd) (T : Txt K mg C) : FnOk P w K mg base CX0 1 f fd ["points", "ties"] spAmt := by
  refine F.ok scAmt (fun vs H Q E h => ?_) (fun cdv A outer s H vs Q E hr h => ?_)
  · obtain ⟨p, t, rfl, _⟩ := h
    rfl
  obtain ⟨p, t, rfl, h1, h2, h3, h4, q⟩ := h
  obtain ⟨t1, e1⟩ := T.mp
  obtain ⟨t2, e2⟩ := T.mt
  refine ⟨_, pss_cons (ps_if (PW.pt (pw_or (pt_cmpR op_lt (pv 0) pe_int (nomark _)) (pw_or1 (pt_cmpR op_gt (pv 0) (pe_glob (v := .int 10) rfl e1 ⟨t1, rfl⟩) (nomark _))))) pss_never pss_nil)
    (pss_one (ps_if (pt_cmpR op_gt (pv 1) (pe_glob (v := .int 12) rfl e2 ⟨t2, rfl⟩) (nomark _)) pss_never pss_nil)), ?_⟩
  refine ⟨_, rfl, _, _, rfl, rfl, _, rfl, ?_⟩
  refine iteN (by omega) ?_
  refine ⟨_, rfl, _, _, rfl, rfl, _, rfl, ?_⟩
  refine iteN (by omega) ?_
  refine ⟨_, rfl, _, _, rfl, rfl, _, rfl, ?_⟩
  refine iteN (by omega) ?_
  exact q

theorem scPts : FnScope ["many", "tie"] ["many", "tie"] (defScope sPts) := ⟨rfl, rfl, rfl, by decide +kernel, rfl, by decide +kernel, by decide +kernel⟩
theorem at0 {a b : V} : atI [a, b] 0 = some a := rfl
theorem at1 {a b : V} : atI [a, b] 1 = some b := rfl
theorem ok_pts (F : Fun K "refuse_points" "refuse_points" sPts f fd) : FnOk P w K mg base CX0 1 f fd ["many", "tie"] (spPts K) := by
  refine F.ok scPts (fun vs H Q E h => ?_) (fun cdv A outer s H vs Q E hr h => ?_)
  · obtain ⟨m, a, b, t, rfl, _⟩ := h
    rfl
  obtain ⟨m, a, b, t, rfl, hT, h0, h1, h2, q⟩ := h
  refine ⟨_, pss_cons (ps_if (PW.pt (pw_or (pt_cmpR op_lt (pe_ix ix_tup (pv 1) pe_int (fun _ _ => rfl)) pe_int (nomark _)) (pw_or1 (pt_cmpR op_ge (pe_ix ix_tup (pv 1) pe_int (fun _ _ => rfl)) (pv 0) (nomark _))))) pss_never pss_nil)
    (pss_one (ps_if (pt_cmpR op_eq (pe_ix ix_tup (pv 1) pe_int (fun _ _ => rfl)) (pe_ix ix_tup (pv 1) pe_int (fun _ _ => rfl)) (nomark _)) pss_never pss_nil)), ?_⟩
  refine ⟨_, rfl, t, _, _, _, rfl, rfl, hT, at0, _, _, rfl, rfl, _, rfl, ?_⟩
  refine iteN (by omega) ?_
  refine ⟨_, rfl, t, _, _, _, rfl, rfl, hT, at1, _, rfl, _, _, rfl, rfl, _, rfl, ?_⟩
  refine iteN (by omega) ?_
  refine ⟨_, rfl, t, _, _, _, rfl, rfl, hT, at0, _, rfl, t, _, _, _, rfl, rfl, hT, at1, rfl, _, rfl, ?_⟩
  refine iteN (fun e => ?_) q
  have := V.int.inj e
  omega
end
end K16
end
section
set_option Elab.async false
set_option linter.all false
set_option maxRecDepth 100000
set_option maxHeartbeats 4000000

namespace K16
open PySem L2
section
variable {P : Program} {w : World} {K : PySem.W.Frag} {mg : Str → Option Value} {base : Heap} {f C : Addr} {fd : FuncData}

theorem scChk : FnScope ["many", "ties", "checked", "handed", "tie"] ["many", "ties"] (defScope sChk) := ⟨rfl, rfl, rfl, by decide +kernel, rfl, by decide +kernel, by decide +kernel⟩
theorem ok_chk {fP : Addr} {fdP : FuncData} (F : Fun K "checked_ties" "checked_ties" sChk f fd) (T : Txt K mg C) (GP : FnOk P w K mg base CX0 1 fP fdP ["many", "tie"] (spPts K)) (bP : Binds K fdP ["many", "tie"] []) (kP : PySem.W.keepIn K (.ref fP) = true) (mP : mg "refuse_points" = some (.ref fP)) :
    FnOk P w K mg base CX0 2 f fd ["many", "ties"] (spChk K) := by
  refine F.ok scChk (fun vs H Q E h => ?_) (fun cdv A outer s H vs Q E hr h => ?_)
  · obtain ⟨m, l, xs, as, rfl, _⟩ := h
    rfl
  obtain ⟨m, l, xs, as, rfl, hS, pa, ok, h12, q⟩ := h
  refine ⟨_, pss_cons (ps_set (i := 2) scChk.nd rfl (Or.inl rfl) (pe_lst pa_nil))
    (pss_cons (ps_for PassesOwn.never rfl (pi_list (pv 1)) (pg_name (i := 3) scChk.nd rfl (Or.inl rfl))
      (pss_cons (ps_set (i := 4) scChk.nd rfl (Or.inl rfl) (pe_callTy call_tuple_of rfl T.tuple PyProof.Rows.boot_tuple (pa_cons (pe_callB call_sorted rfl T.sorted PyProof.Rows.boot_sorted (pa_cons (pv 3) pa_nil)) pa_nil)))
      (pss_cons (ps_expr (pe_call GP hr rfl mP kP bP .nil pass0 (pa_cons (pv 0) (pa_cons (pv 4) pa_nil))))
      (pss_cons (ps_if (pt_cmpR (op_inL (dat_tup dat_int) (un_of hr)) (pv 4) (pv 2) rfl) pss_never pss_nil)
      (pss_one (ps_expr (pe_bm PySem.F.plainAttrs_list PySem.F.slot_list_append PySem.F.type_list_append mt_append (pv 2) (pa_cons (pv 4) pa_nil))))))))
    (pss_one (ps_ret (pe_callTy call_tuple_of rfl T.tuple PyProof.Rows.boot_tuple (pa_cons (pv 2) pa_nil))))), ?_⟩
  refine ⟨Nat.zero_le _, fun c hc => ?_⟩
  have lx : as.length = xs.length := Paired.length pa
  refine ⟨_, rfl, l, rfl, ⟨_, (Same.new hc _).seq hS⟩, for_list (K := K) (a := l) (xs := xs) (fun i σ H2 => ∃ (hv tv : Option V) (ys : List V), σ = [some (.int m), some (.ref l), some (.ref c), hv, tv] ∧ Same H H2 ∧ H2 c = some (.lst ys) ∧ Paired (rPair K H2) ((as.take i).map srt) ys)
    ⟨none, none, [], rfl, Same.new hc _, upd_same, .nil⟩ (fun i σ H2 _ ⟨_, _, _, _, sm, _⟩ => sm.seq hS) ?_ ?_⟩
  · rintro i x σ H2 hx ⟨hv, tv, ys, rfl, sm, hC, pc⟩
    obtain ⟨t, ht, rt0⟩ := Paired.get pa hx
    obtain ⟨p, rfl, hp⟩ := rSeq_seq rt0
    obtain ⟨a, b, rfl, a0, a1, b0, b1, nab⟩ := ok.ok t (List.mem_of_getElem? ht)
    have hp2 : SqL K H2 p ([a, b].map V.int) ∨ SqT K H2 p ([a, b].map V.int) := hp.elim (fun z => .inl (sm.seq z)) fun z => .inr (sm.ts.seq z)
    refine ⟨_, rfl, p, [a, b], rfl, hp2, (by show 2 < 64; decide), fun l1 ms hl1 perm pw => ?_⟩
    have em := perm_pair perm pw
    subst em
    refine ⟨l1, _, rfl, .inl ⟨SqL.of upd_same, fun t1 ht1 => ?_⟩⟩
    -- the new tuple at t1
    have hT : (upd (upd H2 l1 (.lst ((srt [a, b]).map V.int))) t1 (.tup ((srt [a, b]).map V.int))) t1 = some (.tup ((srt [a, b]).map V.int)) := upd_same
    have s1 : Same H2 (upd (upd H2 l1 (.lst ((srt [a, b]).map V.int))) t1 (.tup ((srt [a, b]).map V.int))) := (Same.new hl1 _).trans (Same.new ht1 _)
    generalize hH3 : upd (upd H2 l1 (.lst ((srt [a, b]).map V.int))) t1 (.tup ((srt [a, b]).map V.int)) = H3 at hT s1 ⊢
    have hlen : (srt [a, b]).length = 2 := by rw [srt_pair]; split <;> rfl
    have pts : ∃ u v : Int, srt [a, b] = [u, v] ∧ 0 ≤ u ∧ u < v ∧ v < m := by
      rw [srt_pair]
      split
      · exact ⟨b, a, rfl, b0, by omega, a1⟩
      · exact ⟨a, b, rfl, a0, by omega, b1⟩
    obtain ⟨u, v, euv, u0, uv, vm⟩ := pts
    have hT2 : SqT K H3 t1 [.int u, .int v] := by
      have e := SqT.of (K := K) hT
      rw [euv] at e
      exact e
    refine ⟨_, rfl, _, rfl, m, u, v, t1, rfl, hT2, u0, uv, vm, ?_⟩
    have hC3 : H3 c = some (.lst ys) := s1 _ _ hC
    have pc3 : Paired (rPair K H3) ((as.take i).map srt) ys := Paired.imp (fun a b => trep_tup trep_int H2 H3 a b s1.ts) pc
    have rt : rPair K H3 (srt [a, b]) (.ref t1) := rPair_of hT
    refine ⟨_, rfl, _, rfl, _, _, rt, .inl ⟨c, ys, rfl, SqL.of hC3, pc3⟩, _, rfl, ?_⟩
    refine iteN (ok.take_new ht) ?_
    have hys : ys.length ≤ 12 := by
      rw [← Paired.length pc, List.length_map, List.length_take]
      omega
    refine ⟨_, rfl, .inl ⟨rfl, _, SqL.of hC3⟩, _, rfl, c, ys, _, rfl, rfl, hC3, small1000 (by omega), ?_⟩
    refine ⟨_, _, _, rfl, fun b o e => ?_, upd_same, ?_⟩
    · rw [upd_ne (ne_of_none e hc)]
      exact s1 _ _ (sm b o e)
    · have e : as.take (i + 1) = as.take i ++ [[a, b]] := by rw [List.take_add_one, ht]; rfl
      rw [e, List.map_append, List.map_singleton]
      have ts : TSm H3 (upd H3 c (.lst (ys ++ [.ref t1]))) := TSm.lst hC3
      exact Paired.app (Paired.imp (fun a b => trep_tup trep_int H3 _ a b ts) pc3) (Paired.one (trep_tup trep_int H3 _ _ _ ts rt))
  · rintro σ H2 ⟨hv, tv, ys, rfl, sm, hC, pc⟩
    rw [← lx, List.take_length] at pc
    refine ⟨_, rfl, c, _, rfl, .inl ⟨SqL.of hC, fun j hj => ?_⟩⟩
    refine q j _ (sm.trans (Same.new hj _)) ⟨j, ys, rfl, SqT.of upd_same, ?_⟩
    exact Paired.imp (fun a b => trep_tup trep_int H2 _ a b (TSm.new hj)) pc

theorem scInit : FnScope ["self", "many", "ties"] ["self", "many", "ties"] (defScope sInit) := ⟨rfl, rfl, rfl, by decide +kernel, rfl, by decide +kernel, by decide +kernel⟩
theorem ok_init {fA fC : Addr} {fdA fdC : FuncData} (F : Fun K "__init__" "Web.__init__" sInit f fd) (T : Txt K mg C)
    (GA : FnOk P w K mg base CX0 1 fA fdA ["points", "ties"] spAmt) (bA : Binds K fdA ["points", "ties"] []) (kA : PySem.W.keepIn K (.ref fA) = true) (mA : mg "refuse_amounts" = some (.ref fA))
    (GC : FnOk P w K mg base CX0 2 fC fdC ["many", "ties"] (spChk K)) (bC : Binds K fdC ["many", "ties"] []) (kC : PySem.W.keepIn K (.ref fC) = true) (mC : mg "checked_ties" = some (.ref fC)) :
    FnOk P w K mg base CX0 3 f fd ["self", "many", "ties"] (spInit K C) := by
  refine F.ok scInit (fun vs H Q E h => ?_) (fun cdv A outer s H vs Q E hr h => ?_)
  · obtain ⟨p, dx, l, m, xs, as, rfl, _⟩ := h
    rfl
  obtain ⟨p, dx, l, m, xs, as, rfl, hP, hS, pa, ok, h12, h1, h10, q⟩ := h
  have lx : as.length = xs.length := Paired.length pa
  refine ⟨_, pss_cons (ps_expr (pe_call GA (hr.mono (by decide)) rfl mA kA bA .nil pass0 (pa_cons (pv 1) (pa_cons (pe_callB call_len_seq rfl T.len PySem.boot_len (pa_cons (pv 2) pa_nil)) pa_nil))))
    (pss_cons (ps_fld (pv 0) (pv 1) rfl)
    (pss_one (ps_fld (pv 0) (pe_call GC hr rfl mC kC bC .nil pass0 (pa_cons (pv 1) (pa_cons (pv 2) pa_nil))) rfl))), ?_⟩
  refine ⟨_, rfl, _, rfl, l, _, rfl, .inl hS, m, _, rfl, h1, h10, by omega, by omega, ?_⟩
  refine ⟨_, rfl, _, rfl, p, C, dx, [], rfl, hP, T.cl, T.nA, (by show 0 < 1000; decide), ?_⟩
  have ts : TSm H (upd H p (.ins C dx (putF "amount" (.int m) []))) := fun b u hb t => by
    rw [upd_ne ?_]
    · exact hb
    · rintro rfl
      rw [hP] at hb
      cases hb
      obtain ⟨ys, e | ⟨o, e⟩⟩ := t
      · cases e
      · cases e
  have sl : ∀ {a : Addr} {zs : List V}, SqL K H a zs → SqL K (upd H p (.ins C dx (putF "amount" (.int m) []))) a zs := fun {a zs} h => by
    rcases h with (h | ⟨o, h⟩) | h
    · exact .inl (.inl (by rw [upd_ne (ne_of h hP (by intro z; cases z))]; exact h))
    · exact .inl (.inr ⟨o, by rw [upd_ne (ne_of h hP (by intro z; cases z))]; exact h⟩)
    · exact .inr h
  have pa' : Paired (rSeq K (upd H p (.ins C dx (putF "amount" (.int m) [])))) as xs := Paired.imp (fun t x h => by
    rcases h with ⟨q, zs, rfl, hq, pz⟩ | h
    · exact .inl ⟨q, zs, rfl, sl hq, pz⟩
    · exact .inr (trep_tup trep_int _ _ _ _ ts h)) pa
  refine ⟨_, rfl, _, rfl, m, l, xs, as, rfl, sl hS, pa', ok, h12, fun j H' sm rj => ?_⟩
  have hP' : H' p = some (.ins C dx (putF "amount" (.int m) [])) := sm _ _ upd_same
  refine ⟨_, rfl, p, C, dx, _, rfl, hP', T.cl, T.nJ, (by show 1 < 1000; decide), ?_⟩
  refine q _ (fun b o e hb => ?_) ⟨dx, j, upd_same, ?_⟩
  · rw [upd_ne hb]
    exact sm _ _ (by rw [upd_ne hb]; exact e)
  · refine trep_tup (trep_tup trep_int) _ _ _ _ (fun b u hb t => ?_) rj
    rw [upd_ne ?_]
    · exact hb
    · rintro rfl
      rw [hP'] at hb
      cases hb
      obtain ⟨ys, e | ⟨o, e⟩⟩ := t
      · cases e
      · cases e

theorem scSize : FnScope ["self"] ["self"] (defScope sSize) := ⟨rfl, rfl, rfl, by decide +kernel, rfl, by decide +kernel, by decide +kernel⟩
theorem ok_size (F : Fun K "size" "Web.size" sSize f fd) (T : Txt K mg C) : FnOk P w K mg base CX0 1 f fd ["self"] (spSize K C) := by
  refine F.ok scSize (fun vs H Q E h => ?_) (fun cdv A outer s H vs Q E hr h => ?_)
  · obtain ⟨p, m, as, rfl, _⟩ := h
    rfl
  obtain ⟨p, m, as, rfl, ⟨dx, j, hP, hj⟩, q⟩ := h
  refine ⟨_, pss_one (ps_ret (pe_fld (pv 0) rfl)), ?_⟩
  exact ⟨_, rfl, p, C, dx, _, _, rfl, hP, T.cl, T.nA, flds_amount _ _, q⟩

theorem scTies : FnScope ["self"] ["self"] (defScope sTies) := ⟨rfl, rfl, rfl, by decide +kernel, rfl, by decide +kernel, by decide +kernel⟩
theorem ok_ties (F : Fun K "ties" "Web.ties" sTies f fd) (T : Txt K mg C) : FnOk P w K mg base CX0 1 f fd ["self"] (spTies K C) := by
  refine F.ok scTies (fun vs H Q E h => ?_) (fun cdv A outer s H vs Q E hr h => ?_)
  · obtain ⟨p, m, as, rfl, _⟩ := h
    rfl
  obtain ⟨p, m, as, rfl, ⟨dx, j, hP, j', xs, ej, hj, pj⟩, q⟩ := h
  cases ej
  refine ⟨_, pss_one (ps_ret (pe_callTy call_list_of rfl T.list PyProof.Rows.boot_list (pa_cons (pe_fld (pv 0) rfl) pa_nil))), ?_⟩
  refine ⟨_, rfl, p, C, dx, _, _, rfl, hP, T.cl, T.nJ, flds_joints _ _, j, xs, rfl, .inr hj, fun l hl => ?_⟩
  refine q l _ (Same.new hl _) ⟨l, xs, rfl, SqL.of upd_same, ?_⟩
  exact Paired.imp (fun a b => trep_tup trep_int H _ a b (TSm.new hl)) pj

theorem scAt : FnScope ["self", "point"] ["self", "point"] (defScope sAt) := ⟨rfl, rfl, rfl, by decide +kernel, rfl, by decide +kernel, by decide +kernel⟩
theorem ok_at (F : Fun K "at" "Web.at" sAt f fd) (T : Txt K mg C) : FnOk P w K mg base CX0 1 f fd ["self", "point"] (spAt K C) := by
  refine F.ok scAt (fun vs H Q E h => ?_) (fun cdv A outer s H vs Q E hr h => ?_)
  · obtain ⟨p, m, x, as, rfl, _⟩ := h
    rfl
  obtain ⟨p, m, x, as, rfl, ⟨dx, j, hP, j', xs, ej, hj, pj⟩, h12, q⟩ := h
  cases ej
  refine ⟨_, pss_one (ps_ret (pe_comp (defScope sAt) ["number", "tie"] ["point"] [1] rfl rfl (by decide +kernel) ⟨⟨rfl, by decide +kernel⟩, trivial⟩ (pi_enumT rfl T.enum (pa_cons (pe_fld (pv 0) rfl) pa_nil))
    (fun _ _ _ => pg_tupK (K := K) (n := 2) rfl rfl (pgs_cons (pg_name (i := 0) (show ((["number", "tie"] : List Str) ++ (["point"] : List Str)).Nodup by decide +kernel) rfl (Or.inl rfl)) (pgs_cons (pg_name (i := 1) (show ((["number", "tie"] : List Str) ++ (["point"] : List Str)).Nodup by decide +kernel) rfl (Or.inl rfl)) pgs_nil)))
    (fun _ _ _ => pifs_one (pt_cmpR (op_in_seqK (K := K) rfl) (pv 2) (pv 1) rfl))
    (fun _ _ _ => pv 0))), ?_⟩
  refine ⟨_, rfl, p, C, dx, _, _, rfl, hP, T.cl, T.nJ, flds_joints _ _, j, rfl, ⟨_, hj⟩, fun D hD => ?_⟩
  have lx : as.length = xs.length := Paired.length pj
  refine turns_enum (xs := xs) (fun i τ H2 => ∃ n t : Option V, τ = [n, t, some (.int x)] ∧ Same H H2 ∧ H2 D = some (.lst ((hits x (as.take i)).map V.int))) ⟨none, none, rfl, Same.new hD _, upd_same⟩
    (fun i τ H2 _ ⟨_, _, _, sm, _⟩ => sm.ts.seq hj) ?_ ?_
  · rintro i y τ H2 T1 hy hT1 ⟨n, t, rfl, sm, hD2⟩
    obtain ⟨tie, ht, rt⟩ := Paired.get pj hy
    obtain ⟨q1, rfl, hq1⟩ := rPair_seq rt
    have s1 : Same H2 (upd H2 T1 (.tup [.int i, .ref q1])) := Same.new hT1 _
    refine ⟨T1, _, rfl, SqT.of upd_same, rfl, _, _, rfl, _, _, rfl, rfl, ?_⟩
    refine ⟨_, rfl, _, rfl, q1, _, rfl, .inr (s1.ts.seq (sm.ts.seq hq1)), rfl, ?_, _, rfl, ?_⟩
    · simp [flatV]
    · rw [if_neg (by decide), inV_ints]
      have hD3 : (upd H2 T1 (.tup [.int i, .ref q1])) D = some (.lst ((hits x (as.take i)).map V.int)) := s1 _ _ hD2
      have hlt : i < as.length := (List.getElem?_eq_some_iff.mp ht).1
      refine ite2 (fun c => ?_) (fun c => ?_)
      · have c' : x ∈ tie := of_decide_eq_true c
        refine ⟨_, rfl, _, hD3, ?_, _, _, rfl, fun b o e => ?_, ?_⟩
        · have : (hits x (as.take i)).length ≤ (as.take i).length := hits_len x 0 (as.take i)
          rw [List.length_map]
          rw [List.length_take] at this
          exact small1000 (by omega)
        · rw [upd_ne (ne_of_none e hD)]
          exact s1 _ _ (sm b o e)
        · rw [upd_same, hits_take ht, if_pos c', List.map_append]
          rfl
      · have c' : ¬ x ∈ tie := fun z => c (decide_eq_true z)
        refine ⟨_, _, rfl, sm.trans s1, ?_⟩
        rw [hD3, hits_take ht, if_neg c', List.append_nil]
  · rintro τ H2 ⟨n, t, rfl, sm, hD2⟩
    rw [← lx, List.take_length] at hD2
    exact q D H2 sm hD hD2
end
end K16
end
section
set_option Elab.async false
set_option linter.all false
set_option maxRecDepth 100000
set_option maxHeartbeats 4000000

namespace K16
open PySem L2
section
variable {P : Program} {w : World} {K : PySem.W.Frag} {mg : Str → Option Value} {base : Heap} {f C : Addr} {fd : FuncData}

theorem scWeb : FnScope ["_law_script", "_law_points", "_law_ties", "_law_many", "_law_number", "_law_one", "_law_other"] ["_law_script"] (defScope sWeb) := ⟨rfl, rfl, rfl, by decide +kernel, rfl, by decide +kernel, by decide +kernel⟩
/-- the two points of a drawn number -/
theorem drawn {z v : Int} (h1 : 1 ≤ z) (h10 : z ≤ 10) (hz : 1 < z) (v0 : 0 ≤ v) (vm : v < z * (z - 1)) : OkTie z [v / (z - 1), v % (z - 1) + (if decide (v / (z - 1) ≤ v % (z - 1)) = true then 1 else 0)] := by
  have a0 : 0 ≤ v / (z - 1) := Int.ediv_nonneg v0 (by omega)
  have a1 : v / (z - 1) < z := Int.ediv_lt_of_lt_mul (by omega) vm
  have b0 : 0 ≤ v % (z - 1) := Int.emod_nonneg _ (by omega)
  have b1 : v % (z - 1) < z - 1 := Int.emod_lt_of_pos _ (by omega)
  refine ⟨_, _, rfl, a0, a1, ?_⟩
  by_cases h : v / (z - 1) ≤ v % (z - 1)
  · rw [decide_eq_true h]
    simp only [if_true]
    omega
  · rw [decide_eq_false h]
    simp only [Bool.false_eq_true, if_false]
    omega
theorem ok_web {fC fD : Addr} {fdC fdD : FuncData} (F : Fun K "_law_web" "_law_web" sWeb f fd) (T : Txt K mg C)
    (GC : FnOk P w K mg base CX0 1 fC fdC ["_law_script", "_law_k"] (spCell K)) (bC : Binds K fdC ["_law_script", "_law_k"] []) (kC : PySem.W.keepIn K (.ref fC) = true) (mC : mg "_law_cell" = some (.ref fC))
    (GD : FnOk P w K mg base CX0 2 fD fdD ["_law_cell_here", "_law_many", "_law_most"] spDraw) (bD : Binds K fdD ["_law_cell_here", "_law_many", "_law_most"] []) (kD : PySem.W.keepIn K (.ref fD) = true) (mD : mg "_law_draws" = some (.ref fD)) :
    FnOk P w K mg base CX0 3 f fd ["_law_script"] (spWeb K) := by
  refine F.ok scWeb (fun vs H Q E h => ?_) (fun cdv A outer s H vs Q E hr h => ?_)
  · obtain ⟨a, ns, rfl, _⟩ := h
    rfl
  obtain ⟨a, ns, rfl, hS, q⟩ := h
  have hr1 : Room 1 _ := hr.mono (by decide)
  have hu := hr.units
  refine ⟨_, pss_cons (ps_set (i := 1) scWeb.nd rfl (Or.inl rfl) (pe_op op_add pe_int (pe_op op_mod (pe_call GC hr1 rfl mC kC bC .nil pass0 (pa_cons (pv 0) (pa_cons pe_int pa_nil))) pe_int)))
    (pss_cons (ps_set (i := 2) scWeb.nd rfl (Or.inl rfl) (pe_lst pa_nil))
    (pss_cons (ps_set (i := 3) scWeb.nd rfl (Or.inl rfl) (pe_op op_mul (pe_op op_mod (pe_op op_fdiv (pe_call GC hr1 rfl mC kC bC .nil pass0 (pa_cons (pv 0) (pa_cons pe_int pa_nil))) pe_int) pe_int) (pe_callTy call_int1 rfl T.int PyProof.Rows.boot_int (pa_cons (pe_cmpR op_gt (pv 1) pe_int (nomark _)) pa_nil))))
    (pss_cons (ps_for PassesOwn.never rfl (pi_list (pe_call GD hr rfl mD kD bD .nil pass0 (pa_cons (pe_call GC hr1 rfl mC kC bC .nil pass0 (pa_cons (pv 0) (pa_cons pe_int pa_nil))) (pa_cons (pv 3) (pa_cons (pe_callB (call_max2 rfl) rfl T.max PyProof.Rows.boot_max (pa_cons pe_int (pa_cons (pe_op op_mul (pv 1) (pe_op op_sub (pv 1) pe_int)) pa_nil))) pa_nil)))))
        (pg_name (i := 4) scWeb.nd rfl (Or.inl rfl))
      (pss_cons (ps_set (i := 5) scWeb.nd rfl (Or.inl rfl) (pe_op op_fdiv (pv 4) (pe_op op_sub (pv 1) pe_int)))
      (pss_cons (ps_set (i := 6) scWeb.nd rfl (Or.inl rfl) (pe_op op_mod (pv 4) (pe_op op_sub (pv 1) pe_int)))
      (pss_cons (ps_set (i := 6) scWeb.nd rfl (Or.inl rfl) (pe_op op_add (pv 6) (pe_callTy call_int1 rfl T.int PyProof.Rows.boot_int (pa_cons (pe_cmpR op_ge (pv 6) (pv 5) (nomark _)) pa_nil))))
      (pss_one (ps_if (PW.pt (pw_and (pt_cmpR (op_notInL (dat_tup dat_int) (un_of hr)) (pe_tup (pa_cons (pv 5) (pa_cons (pv 6) pa_nil))) (pv 2) rfl) (pw_and1 (pt_cmpR (op_notInL (dat_tup dat_int) (un_of hr)) (pe_tup (pa_cons (pv 6) (pa_cons (pv 5) pa_nil))) (pv 2) rfl))))
        (pss_one (ps_expr (pe_bm PySem.F.plainAttrs_list PySem.F.slot_list_append PySem.F.type_list_append mt_append (pv 2) (pa_cons (pe_tup (pa_cons (pv 5) (pa_cons (pv 6) pa_nil))) pa_nil)))) pss_nil))))))
    (pss_one (ps_ret (pe_tup (pa_cons (pv 1) (pa_cons (pv 2) pa_nil)))))))), ?_⟩
  -- points
  refine ⟨_, rfl, a, ns, 0, rfl, hS, by decide, fun c => ?_⟩
  refine ⟨_, _, rfl, rfl, (by show (0 : Int) < 10; decide), _, _, rfl, rfl, ?_⟩
  have z1 : (1 : Int) ≤ 1 + c % 10 := by omega
  have z10 : (1 : Int) + c % 10 ≤ 10 := by omega
  dsimp only
  generalize hz : (1 : Int) + c % 10 = z at z1 z10 ⊢
  -- ties
  refine ⟨Nat.zero_le _, fun l hl => ?_⟩
  have s1 : Same H (upd H l (.lst [])) := Same.new hl _
  -- many
  refine ⟨_, rfl, a, ns, 0, rfl, s1.seq hS, by decide, fun c2 => ?_⟩
  refine ⟨_, _, rfl, rfl, ⟨by decide, by decide⟩, _, _, rfl, rfl, (by show (0 : Int) < 13; decide), _, rfl, _, _, rfl, rfl, .inr ⟨_, rfl, ?_⟩⟩
  have y0 : 0 ≤ c2 / 10 % 13 := Int.emod_nonneg _ (by decide)
  have y1 : c2 / 10 % 13 < 13 := Int.emod_lt_of_pos _ (by decide)
  refine ⟨_, _, rfl, rfl, .inl ⟨by omega, by omega⟩, ?_⟩
  have many : ∃ k : Int, c2 / 10 % 13 * (if decide (1 < z) = true then (1 : Int) else 0) = k ∧ 0 ≤ k ∧ k ≤ 12 ∧ (0 < k → 1 < z) := by
    refine ⟨_, rfl, ?_⟩
    by_cases h : 1 < z
    · rw [decide_eq_true h]
      simp only [if_true, Int.mul_one]
      omega
    · rw [decide_eq_false h]
      simp only [Bool.false_eq_true, if_false, Int.mul_zero]
      omega
  obtain ⟨k, ek, k0, k12, kz⟩ := many
  dsimp only
  rw [ek]
  -- the draws
  refine ⟨_, rfl, a, ns, 1, rfl, s1.seq hS, by decide, fun c3 => ?_⟩
  refine ⟨_, rfl, _, rfl, _, rfl, _, _, rfl, rfl, _, _, rfl, rfl, .inl ⟨by omega, by omega⟩, 1, z * (z - 1), rfl, ?_⟩
  have zz : 0 ≤ z * (z - 1) ∧ z * (z - 1) ≤ 90 := by
    have : z = 1 ∨ z = 2 ∨ z = 3 ∨ z = 4 ∨ z = 5 ∨ z = 6 ∨ z = 7 ∨ z = 8 ∨ z = 9 ∨ z = 10 := by omega
    rcases this with h | h | h | h | h | h | h | h | h | h <;> subst h <;> decide
  refine ⟨c3, k, _, rfl, k0, by omega, by split <;> omega, by split <;> omega, fun l2 ms H2 s2 n2 e2 hms hb => ?_⟩
  have hl2 : H2 l = some (.lst []) := s2 _ _ upd_same
  have sH : Same H H2 := s1.trans s2
  have lms : (ms.map V.int).length = ms.length := List.length_map _
  refine ⟨l2, rfl, ⟨_, SqL.of e2⟩, for_list (K := K) (a := l2) (xs := ms.map V.int) (fun i σ H3 => ∃ (v4 v5 v6 : Option V) (xs : List V) (as : List (List Int)), σ = [some (.ref a), some (.int z), some (.ref l), some (.int k), v4, v5, v6] ∧ Same H H3 ∧ H3 l2 = some (.lst (ms.map V.int)) ∧ H3 l = some (.lst xs) ∧ Paired (rPair K H3) as xs ∧ as.length ≤ i ∧ OkTies z as)
    ⟨none, none, none, [], [], rfl, sH, e2, hl2, .nil, Nat.le_refl _, ⟨(fun t ht => by cases ht), List.nodup_nil⟩⟩ (fun i σ H3 _ ⟨_, _, _, _, _, _, _, e3, _⟩ => SqL.of e3) ?_ ?_⟩
  · rintro i y σ H3 hy ⟨v4, v5, v6, xs, as, rfl, s3, e3, hL, pl, hlen, ok⟩
    have hi : i < ms.length := by rw [← lms]; exact (List.getElem?_eq_some_iff.mp hy).1
    rw [List.getElem?_map, List.getElem?_eq_getElem hi] at hy
    have ey : y = .int ms[i] := (Option.some.inj hy).symm
    subst ey
    obtain ⟨v0, vm⟩ := hb _ (List.getElem_mem hi)
    have hz1 : 1 < z := kz (by omega)
    have vm' : ms[i] < z * (z - 1) := by
      have hz2 : (1 : Int) ≤ z * (z - 1) := by
        have : z = 2 ∨ z = 3 ∨ z = 4 ∨ z = 5 ∨ z = 6 ∨ z = 7 ∨ z = 8 ∨ z = 9 ∨ z = 10 := by omega
        rcases this with h | h | h | h | h | h | h | h | h <;> subst h <;> decide
      split at vm <;> omega
    have okt := drawn z1 z10 hz1 v0 vm'
    refine ⟨_, rfl, _, rfl, _, _, rfl, rfl, _, _, rfl, rfl, ⟨by omega, by omega⟩, ?_⟩
    refine ⟨_, rfl, _, rfl, _, _, rfl, rfl, _, _, rfl, rfl, (by show 0 < z - 1; omega), ?_⟩
    refine ⟨_, rfl, _, rfl, _, rfl, _, _, rfl, rfl, .inr ⟨_, rfl, ?_⟩⟩
    refine ⟨_, _, rfl, rfl, ?_⟩
    dsimp only
    generalize ho : ms[i] / (z - 1) = one at okt ⊢
    generalize hq : ms[i] % (z - 1) + (if decide (one ≤ ms[i] % (z - 1)) = true then 1 else 0) = oth at okt ⊢
    -- (one, other) not in ties
    refine ⟨_, rfl, _, rfl, (by show 2 ≤ sizeLine; decide), fun t1 ht1 => ?_⟩
    have st1 : Same H3 (upd H3 t1 (.tup [.int one, .int oth])) := Same.new ht1 _
    have rt1 : rPair K (upd H3 t1 (.tup [.int one, .int oth])) [one, oth] (.ref t1) := rPair_of upd_same
    have pl1 : Paired (rPair K (upd H3 t1 (.tup [.int one, .int oth]))) as xs := Paired.imp (fun a b => trep_tup trep_int _ _ a b st1.ts) pl
    refine ⟨_, rfl, _, _, rt1, .inl ⟨l, xs, rfl, SqL.of (st1 _ _ hL), pl1⟩, _, rfl, ?_⟩
    by_cases c1 : [one, oth] ∈ as
    · refine iteNP c1 (iteF ?_)
      exact ⟨_, _, _, xs, as, rfl, s3.trans st1, st1 _ _ e3, st1 _ _ hL, pl1, by omega, ok⟩
    · refine iteNN c1 ?_
      refine ⟨_, rfl, _, rfl, (by show 2 ≤ sizeLine; decide), fun t2 ht2 => ?_⟩
      have st2 := Same.new ht2 (.tup [.int oth, .int one])
      generalize hH4 : upd (upd H3 t1 (.tup [.int one, .int oth])) t2 (.tup [.int oth, .int one]) = H4 at st2 ⊢
      have s34 : Same H3 H4 := st1.trans st2
      have rt2 : rPair K H4 [oth, one] (.ref t2) := rPair_of (by rw [← hH4]; exact upd_same)
      have pl2 : Paired (rPair K H4) as xs := Paired.imp (fun a b => trep_tup trep_int _ _ a b st2.ts) pl1
      refine ⟨_, rfl, _, _, rt2, .inl ⟨l, xs, rfl, SqL.of (s34 _ _ hL), pl2⟩, _, rfl, ?_⟩
      by_cases c2 : [oth, one] ∈ as
      · refine iteNP c2 ?_
        exact ⟨_, _, _, xs, as, rfl, s3.trans s34, s34 _ _ e3, s34 _ _ hL, pl2, by omega, ok⟩
      · refine iteNN c2 ?_
        refine ⟨_, rfl, .inl ⟨rfl, _, SqL.of (s34 _ _ hL)⟩, _, rfl, _, rfl, (by show 2 ≤ sizeLine; decide), fun t3 ht3 => ?_⟩
        have st3 := Same.new ht3 (.tup [.int one, .int oth])
        have hL5 := st3 _ _ (s34 _ _ hL)
        have lxs : xs.length = as.length := (Paired.length pl).symm
        refine ⟨l, xs, _, rfl, rfl, hL5, small1000 (by omega), ?_⟩
        have nl : ∀ b o, H b = some o → b ≠ l := fun b o e => ne_of_none e hl
        refine ⟨_, _, _, _, as ++ [[one, oth]], rfl, fun b o e => ?_, ?_, upd_same, ?_, ?_, ok.snoc okt c1 c2⟩
        · rw [upd_ne (nl b o e)]
          exact st3 _ _ (s34 _ _ (s3 b o e))
        · have : l2 ≠ l := fun e => by
            rw [e] at n2
            rw [upd_same] at n2
            cases n2
          rw [upd_ne this]
          exact st3 _ _ (s34 _ _ e3)
        · have ts := TSm.lst (o := .lst (xs ++ [.ref t3])) hL5
          have r3 : rPair K (upd H4 t3 (.tup [.int one, .int oth])) [one, oth] (.ref t3) := rPair_of upd_same
          exact Paired.app (Paired.imp (fun a b => trep_tup trep_int _ _ a b (st3.ts.trans ts)) pl2) (Paired.one (trep_tup trep_int _ _ _ _ ts r3))
        · rw [List.length_append, List.length_singleton]
          omega
  · rintro σ H3 ⟨v4, v5, v6, xs, as, rfl, s3, e3, hL, pl, hlen, ok⟩
    refine ⟨_, rfl, _, rfl, (by show 2 ≤ sizeLine; decide), fun t ht => ?_⟩
    have st := Same.new ht (.tup [.int z, .ref l])
    refine q t l z xs as _ (s3.trans st) upd_same (st _ _ hL) hl (Paired.imp (fun a b => trep_tup trep_int _ _ a b st.ts) pl) z1 z10 (by omega) ok
end
end K16
end
section
set_option Elab.async false
set_option linter.all false
set_option maxRecDepth 100000
set_option maxHeartbeats 4000000

namespace K16
open PySem L2 NW
theorem int_at {ns : List Int} {i : Nat} {y : V} (h : (ns.map V.int)[i]? = some y) : ∃ u, ns[i]? = some u ∧ y = .int u := by
  rw [List.getElem?_map] at h
  cases e : ns[i]? with
  | none => rw [e] at h; cases h
  | some u => rw [e] at h; exact ⟨u, rfl, (Option.some.inj h).symm⟩
theorem take_snoc {α : Type} {l : List α} {i : Nat} {x : α} (h : l[i]? = some x) : l.take (i + 1) = l.take i ++ [x] := by rw [List.take_add_one, h]; rfl
theorem flat_ints (ms : List Int) : (ms.map V.int).all flatV = true := by
  rw [List.all_eq_true]
  intro x hx
  obtain ⟨i, _, rfl⟩ := List.mem_map.mp hx
  rfl
def spWithin (K : PySem.W.Frag) : Sp := fun vs H Q _ => ∃ (l s : Addr) (ns ms : List Int), vs = [.ref l, .ref s] ∧ SqL K H l (ns.map V.int) ∧ SqT K H s (ms.map V.int) ∧ ns.length ≤ 12 ∧
  ∀ (D : Addr) (H' : Hp), Same H H' → H D = none → H' D = some (.lst ((within ns ms).map V.int)) → Q (.ref D) H'
/-- the points' ties, lists in a list -/
structure PtsAt (K : PySem.W.Frag) (H : Hp) (l : Addr) (pts : List (List Int)) : Prop where
  row : ∃ xs, SqL K H l xs ∧ Paired (fun (ns : List Int) (x : V) => ∃ a, x = .ref a ∧ SqL K H a (ns.map V.int)) pts xs
  len : pts.length ≤ 10
  each : ∀ ns ∈ pts, ns.length ≤ 12
theorem PtsAt.same {K : PySem.W.Frag} {H H' : Hp} {l : Addr} {pts : List (List Int)} (h : PtsAt K H l pts) (e : Same H H') : PtsAt K H' l pts := by
  obtain ⟨xs, a, b⟩ := h.row
  exact ⟨⟨xs, e.seq a, Paired.imp (fun ns x ⟨a, ea, ha⟩ => ⟨a, ea, e.seq ha⟩) b⟩, h.len, h.each⟩
def spFront (K : PySem.W.Frag) : Sp := fun vs H Q _ => ∃ (l s : Addr) (pts : List (List Int)) (ms : List Int), vs = [.ref l, .ref s] ∧ PtsAt K H l pts ∧ SqT K H s (ms.map V.int) ∧ ∀ (H' : Hp), Same H H' → Q (.int ((fb pts ms : Nat) : Int)) H'
section
variable {P : Program} {w : World} {K : PySem.W.Frag} {mg : Str → Option Value} {base : Heap} {f C : Addr} {fd : FuncData}
theorem scWithin : FnScope ["numbers", "some"] ["numbers", "some"] (defScope sWithin) := ⟨rfl, rfl, rfl, by decide +kernel, rfl, by decide +kernel, by decide +kernel⟩
theorem ok_within (F : Fun K "ties_within" "ties_within" sWithin f fd) : FnOk P w K mg base CX0 1 f fd ["numbers", "some"] (spWithin K) := by
  refine F.ok scWithin (fun vs H Q E h => ?_) (fun cdv A outer s H vs Q E hr h => ?_)
  · obtain ⟨l, so, ns, ms, rfl, _⟩ := h
    rfl
  obtain ⟨l, so, ns, ms, rfl, hl, hso, h12, q⟩ := h
  refine ⟨_, pss_one (ps_ret (pe_comp (defScope sWithin) ["number"] ["some"] [1] rfl rfl (by decide +kernel) ⟨⟨rfl, by decide +kernel⟩, trivial⟩ (pi_list (pv 0))
      (fun _ _ _ => pg_name (i := 0) (show ((["number"] : List Str) ++ (["some"] : List Str)).Nodup by decide +kernel) rfl (Or.inl rfl))
      (fun _ _ _ => pifs_one (pt_cmpR (op_in_seqK (K := K) rfl) (pv 0) (pv 1) rfl))
      (fun _ _ _ => pv 0))), ?_⟩
  refine ⟨_, rfl, l, rfl, ⟨_, hl⟩, fun D hD => ?_⟩
  refine turns_list (xs := ns.map V.int) (fun i τ H2 => ∃ n : Option V, τ = [n, some (.ref so)] ∧ Same H H2 ∧ H2 D = some (.lst ((within (ns.take i) ms).map V.int))) ⟨none, rfl, Same.new hD _, upd_same⟩
    (fun i τ H2 _ ⟨_, _, sm, _⟩ => sm.seq hl) ?_ ?_
  · rintro i y τ H2 hy ⟨n, rfl, sm, hD2⟩
    obtain ⟨u, hu, rfl⟩ := int_at hy
    refine ⟨_, rfl, _, rfl, so, ms.map V.int, rfl, .inr (sm.ts.seq hso), rfl, flat_ints ms, _, rfl, ?_⟩
    rw [if_neg (show ¬ (false = true) by decide), inV_ints]
    show putD D _ _ _ (decide (u ∈ ms)) _
    have ef : within (ns.take (i + 1)) ms = within (ns.take i) ms ++ (if u ∈ ms then [u] else []) := by
      unfold within
      rw [take_snoc hu, List.filter_append]
      by_cases c : u ∈ ms <;> simp [c]
    by_cases c : u ∈ ms
    · refine iteP c ⟨_, rfl, _, hD2, ?_, _, rfl, fun b o e => ?_, ?_⟩
      · have : (within (ns.take i) ms).length ≤ (ns.take i).length := List.length_filter_le _ _
        rw [List.length_take] at this
        rw [List.length_map]
        exact small1000 (by omega)
      · rw [upd_ne (ne_of_none e hD)]
        exact sm b o e
      · rw [upd_same, ef, if_pos c, List.map_append]
        rfl
    · refine iteN c ⟨_, rfl, sm, ?_⟩
      rw [hD2, ef, if_neg c, List.append_nil]
  · rintro τ H2 ⟨n, rfl, sm, hD2⟩
    rw [List.length_map, List.take_length] at hD2
    exact q D H2 sm hD hD2
end
end K16
end
section
set_option Elab.async false
set_option linter.all false
set_option maxRecDepth 100000
set_option maxHeartbeats 4000000

namespace K16
open PySem L2 NW
/-- the dict of entries -/
def DicAt (K : PySem.W.Frag) (H : Hp) (d : Addr) (es : List Ent) : Prop := ∃ kvs, H d = some (.dT kvs) ∧ Paired (rKV K H) es kvs
theorem kvs_ts {K : PySem.W.Frag} {H H' : Hp} {es : List Ent} {kvs : List (List Key × V)} (e : TSm H H') (h : Paired (rKV K H) es kvs) : Paired (rKV K H') es kvs := Paired.imp (fun a b ⟨h1, h2⟩ => ⟨h1, trep_ent _ _ _ _ e h2⟩) h
theorem DicAt.same {K : PySem.W.Frag} {H H' : Hp} {d : Addr} {es : List Ent} (h : DicAt K H d es) (e : Same H H') : DicAt K H' d es := let ⟨kvs, a, b⟩ := h; ⟨kvs, e _ _ a, kvs_ts e.ts b⟩
def spKeep (K : PySem.W.Frag) : Sp := fun vs H Q _ => ∃ (d t p o : Addr) (es : List Ent) (ties : List Int) (off : Int × List Int), vs = [.ref d, .ref t, .ref p] ∧ DicAt K H d es ∧ es.length ≤ 1024 ∧ SqT K H t (ties.map V.int) ∧ ties.length ≤ 12 ∧
  SqT K H p [.int off.1, .ref o] ∧ SqT K H o (off.2.map V.int) ∧ ∀ (H' : Hp), (∀ b u, b ≠ d → H b = some u → H' b = some u) → DicAt K H' d (keep es ties off) → Q .non H'
section
variable {P : Program} {w : World} {K : PySem.W.Frag} {mg : Str → Option Value} {base : Heap} {f C : Addr} {fd : FuncData}
theorem scFront : FnScope ["points", "some"] ["points", "some"] (defScope sFront) := ⟨rfl, rfl, rfl, by decide +kernel, rfl, by decide +kernel, by decide +kernel⟩
theorem ok_front {fW : Addr} {fdW : FuncData} (F : Fun K "front_behind" "front_behind" sFront f fd) (T : Txt K mg C) (GW : FnOk P w K mg base CX0 1 fW fdW ["numbers", "some"] (spWithin K)) (bW : Binds K fdW ["numbers", "some"] []) (kW : PySem.W.keepIn K (.ref fW) = true) (mW : mg "ties_within" = some (.ref fW)) :
    FnOk P w K mg base CX0 2 f fd ["points", "some"] (spFront K) := by
  refine F.ok scFront (fun vs H Q E h => ?_) (fun cdv A outer s H vs Q E hr h => ?_)
  · obtain ⟨l, so, pts, ms, rfl, _⟩ := h
    rfl
  obtain ⟨l, so, pts, ms, rfl, hP, hso, q⟩ := h
  obtain ⟨xs, hl, px⟩ := hP.row
  have l10 := hP.len
  have lx : pts.length = xs.length := Paired.length px
  refine ⟨_, pss_one (ps_ret (pe_callB call_len_seq rfl T.len PySem.boot_len (pa_cons (pe_comp (defScope sFront) ["numbers"] ["some"] [1] rfl rfl (by decide +kernel) ⟨⟨rfl, by decide +kernel⟩, trivial⟩ (pi_list (pv 0))
      (fun _ _ _ => pg_name (i := 0) (show ((["numbers"] : List Str) ++ (["some"] : List Str)).Nodup by decide +kernel) rfl (Or.inl rfl))
      (fun _ _ _ => pifs_one (pt_chain op_lt op_lt pe_int (pe_callB (call_len_seqK (K := K) rfl) rfl T.len PySem.boot_len (pa_cons (pe_call GW hr rfl mW kW bW .nil pass0 (pa_cons (pv 0) (pa_cons (pv 1) pa_nil))) pa_nil)) (pe_callB (call_len_seqK (K := K) rfl) rfl T.len PySem.boot_len (pa_cons (pv 0) pa_nil))))
      (fun _ _ _ => pv 0)) pa_nil))), ?_⟩
  refine ⟨_, rfl, l, rfl, ⟨_, hl⟩, fun D hD => ?_⟩
  refine turns_list (xs := xs) (fun i τ H2 => ∃ (n : Option V) (ys : List V), τ = [n, some (.ref so)] ∧ Same H H2 ∧ H2 D = some (.lst ys) ∧ ys.length = ((pts.take i).filter (front ms)).length) ⟨none, [], rfl, Same.new hD _, upd_same, rfl⟩
    (fun i τ H2 _ ⟨_, _, _, sm, _⟩ => sm.seq hl) ?_ ?_
  · rintro i y τ H2 hy ⟨n, ys, rfl, sm, hD2, hly⟩
    obtain ⟨ns, hns, a, rfl, ha⟩ := Paired.get px hy
    have n12 := hP.each ns (List.mem_of_getElem? hns)
    have ef : ((pts.take (i + 1)).filter (front ms)).length = ((pts.take i).filter (front ms)).length + (if front ms ns = true then 1 else 0) := by
      rw [take_snoc hns, List.filter_append, List.length_append]
      by_cases c : front ms ns = true <;> simp [c]
    have le : ((pts.take i).filter (front ms)).length ≤ 10 := by
      have : ((pts.take i).filter (front ms)).length ≤ (pts.take i).length := List.length_filter_le _ _
      rw [List.length_take] at this
      omega
    have fin : ∀ {H3 : Hp}, Same H2 H3 → ∀ c : Bool, c = front ms ns → putD D (fun τ H2 => ∃ (n : Option V) (ys : List V), τ = [n, some (.ref so)] ∧ Same H H2 ∧ H2 D = some (.lst ys) ∧ ys.length = ((pts.take (i + 1)).filter (front ms)).length) (tVar 0) [some (.ref a), some (.ref so)] c H3 := fun {H3} s3 c ec => by
      have hD3 := s3 _ _ hD2
      unfold putD
      cases hc : c with
      | true =>
        rw [if_pos rfl]
        refine ⟨_, rfl, ys, hD3, small1000 (by omega), _, ys ++ [.ref a], rfl, fun b o e => ?_, upd_same, ?_⟩
        · rw [upd_ne (ne_of_none e hD)]
          exact s3 _ _ (sm b o e)
        · rw [ef, ← ec, hc, if_pos rfl, List.length_append, hly]; rfl
      | false =>
        rw [if_neg (by decide)]
        refine ⟨_, ys, rfl, sm.trans s3, hD3, ?_⟩
        rw [ef, ← ec, hc, if_neg (by decide), hly]
        rfl
    refine ⟨_, rfl, _, rfl, a, so, ns, ms, rfl, sm.seq ha, sm.ts.seq hso, n12, fun D2 H3 s3 n3 e3 => ?_⟩
    refine ⟨D2, _, rfl, .inl (SqL.of e3), _, _, rfl, rfl, _, rfl, ?_⟩
    have l1 : (((within ns ms).map V.int).length : Int) = ((within ns ms).length : Int) := by rw [List.length_map]
    by_cases c1 : (0 : Int) < (((within ns ms).map V.int).length : Int)
    · refine iteP c1 ⟨_, rfl, a, _, rfl, .inl ((sm.trans s3).seq ha), _, _, rfl, rfl, _, rfl, ?_⟩
      refine fin s3 _ ?_
      unfold NW.front
      rw [decide_eq_true (show 0 < (within ns ms).length by omega), Bool.true_and]
      refine decide_eq_decide.mpr ?_
      rw [List.length_map, List.length_map]
      omega
    · refine iteN c1 ⟨_, rfl, ?_⟩
      refine fin s3 _ ?_
      unfold NW.front
      rw [decide_eq_false (show ¬ 0 < (within ns ms).length by omega)]
      rfl
  · rintro τ H2 ⟨n, ys, rfl, sm, hD2, hly⟩
    rw [← lx, List.take_length] at hly
    refine ⟨D, ys, rfl, .inl (SqL.of hD2), ?_⟩
    rw [hly]
    exact q H2 sm
theorem scKeep : FnScope ["further", "ties", "offered", "some"] ["further", "ties", "offered"] (defScope sKeep) := ⟨rfl, rfl, rfl, by decide +kernel, rfl, by decide +kernel, by decide +kernel⟩
theorem ok_keep (F : Fun K "keep_narrower" "keep_narrower" sKeep f fd) (T : Txt K mg C) : FnOk P w K mg base CX0 1 f fd ["further", "ties", "offered"] (spKeep K) := by
  refine F.ok scKeep (fun vs H Q E h => ?_) (fun cdv A outer s H vs Q E hr h => ?_)
  · obtain ⟨d, t, p, o, es, ties, off, rfl, _⟩ := h
    rfl
  obtain ⟨d, t, p, o, es, ties, off, rfl, ⟨kvs, hd, pk⟩, l24, ht, t12, hp, ho, q⟩ := h
  refine ⟨_, pss_cons (ps_set (i := 3) scKeep.nd rfl (Or.inl rfl) (pe_callTy call_tuple_of rfl T.tuple PyProof.Rows.boot_tuple (pa_cons (pe_callB call_sorted rfl T.sorted PyProof.Rows.boot_sorted (pa_cons (pv 1) pa_nil)) pa_nil)))
    (pss_one (ps_dput (un_of hr) (pv 0) (pv 3) (pe_callB (call_minP rfl (un_of hr)) rfl T.min PyProof.Rows.boot_min (pa_cons (pe_dget2 (un_of hr) (pv 0) (pv 3) (pv 2) ⟨rfl, rfl, rfl, rfl⟩) (pa_cons (pv 2) pa_nil))) rfl)), ?_⟩
  refine ⟨_, rfl, t, ties, rfl, .inr ht, by omega, fun l ms hl pm sm => ?_⟩
  have ems : ms = sortI ties := sortI_of pm sm
  subst ems
  have s1 := Same.new hl (.lst ((sortI ties).map V.int))
  refine ⟨l, _, rfl, .inl ⟨SqL.of upd_same, fun k hk => ?_⟩⟩
  have s2 := Same.new hk (.tup ((sortI ties).map V.int))
  have sA := s1.trans s2
  have hd2 := sA _ _ hd
  have pk2 := kvs_ts sA.ts pk
  have hk2 : (upd (upd H l (.lst ((sortI ties).map V.int))) k (.tup ((sortI ties).map V.int))) k = some (.tup ((ik (sortI ties)).map kV)) := by rw [ik_V]; exact upd_same
  generalize upd (upd H l (.lst ((sortI ties).map V.int))) k (.tup ((sortI ties).map V.int)) = H2 at sA hd2 pk2 hk2 ⊢
  have hp2 := sA.ts.seq hp
  have ho2 := sA.ts.seq ho
  have lk : kvs.length = es.length := (Paired.length pk).symm
  -- the end, of any entry that is put
  have fin : ∀ (x : V), rEnt K H2 (minP ((getE es (sortI ties)).getD off) off) x → sDPut (tVar 0) (tVar 3) (fun σ H Q => Q x H) { nx := fun _ H' => Q .non H', rt := Q } [some (.ref d), some (.ref t), some (.ref p), some (.ref k)] H2 := fun x hx => by
    refine ⟨_, rfl, _, rfl, d, _, rfl, DPut.t hd2 hk2 (by rw [lk, sizeLine_eq]; omega), ?_⟩
    have ts : TSm H2 (upd H2 d (.dT (putK kvs (ik (sortI ties)) x))) := fun b u e z => by
      rw [upd_ne (fun eb => ?_)]
      · exact e
      · subst eb
        rw [hd2] at e
        cases e
        obtain ⟨ys, z⟩ := z
        rcases z with z | ⟨_, z⟩ <;> cases z
    refine q _ (fun b u hb e => ?_) ⟨_, upd_same, kvs_ts ts (put_pair pk2 hx)⟩
    rw [upd_ne hb]
    exact sA b u e
  have mn : ∀ (x : V) (v : Int × List Int), rEnt K H2 v x → v = (getE es (sortI ties)).getD off → rMinP K [x, .ref p] H2 fun y H3 => H3 = H2 ∧ rEnt K H2 (minP v off) y := fun x v hx ev => by
    obtain ⟨p1, o1, rfl, a1, a2⟩ := hx
    refine ⟨p1, p, o1, o, v.1, off.1, v.2, off.2, rfl, a1, hp2, a2, ho2, fun hl => ⟨rfl, ?_⟩, fun hl => ⟨rfl, ?_⟩⟩
    · unfold minP
      rw [if_pos hl]
      exact ⟨p, o, rfl, hp2, ho2⟩
    · unfold minP
      rw [if_neg (by rw [hl]; decide)]
      exact ⟨p1, o1, rfl, a1, a2⟩
  refine ⟨_, rfl, d, rfl, .inr ⟨kvs, .inl hd2⟩, _, rfl, _, rfl, valV kvs (ik (sortI ties)), DGet.t hd2 hk2, ?_⟩
  cases g : getE es (sortI ties) with
  | none =>
    rw [val_none pk2 g]
    obtain ⟨p1, p2, o1, o2, w1, w2, n1, n2, a1, a2, a3, a4, a5, g1, g2⟩ := mn (.ref p) off ⟨p, o, rfl, hp2, ho2⟩ (by rw [g]; rfl)
    exact ⟨_, rfl, p1, p2, o1, o2, w1, w2, n1, n2, a1, a2, a3, a4, a5, fun z => fin _ (by rw [g]; exact (g1 z).2), fun z => fin _ (by rw [g]; exact (g2 z).2)⟩
  | some v =>
    obtain ⟨x, ex, hx⟩ := val_some pk2 g
    rw [ex]
    obtain ⟨p1, p2, o1, o2, w1, w2, n1, n2, a1, a2, a3, a4, a5, g1, g2⟩ := mn x v hx (by rw [g]; rfl)
    exact ⟨_, rfl, p1, p2, o1, o2, w1, w2, n1, n2, a1, a2, a3, a4, a5, fun z => fin _ (by rw [g]; exact (g1 z).2), fun z => fin _ (by rw [g]; exact (g2 z).2)⟩
end
end K16
end
section
set_option Elab.async false
set_option linter.all false
set_option maxRecDepth 100000
set_option maxHeartbeats 4000000

namespace K16
open PySem L2 NW
/-- all but one object stays -/
def KB (d : Addr) (H H' : Hp) : Prop := ∀ b u, b ≠ d → H b = some u → H' b = some u
theorem KB.ts {d : Addr} {H H' : Hp} {kvs : List (List Key × V)} (k : KB d H H') (hd : H d = some (.dT kvs)) : TSm H H' := fun b u e z => by
  refine k b u (fun eb => ?_) e
  subst eb
  rw [hd] at e
  cases e
  obtain ⟨ys, z⟩ := z
  rcases z with z | ⟨_, z⟩ <;> cases z
theorem KB.seq {K : PySem.W.Frag} {d a : Addr} {H H' : Hp} {kvs : List (List Key × V)} {xs : List V} (k : KB d H H') (hd : H d = some (.dT kvs)) (h : SqL K H a xs) : SqL K H' a xs := by
  have ne : ∀ {u : HO}, H a = some u → (∀ kvs, u ≠ .dT kvs) → a ≠ d := fun {u} e z q => by
    subst q
    rw [hd] at e
    exact z kvs (Option.some.inj e).symm
  rcases h with (h | ⟨o, h⟩) | h
  · exact .inl (.inl (k _ _ (ne h fun _ z => by cases z) h))
  · exact .inl (.inr ⟨o, k _ _ (ne h fun _ z => by cases z) h⟩)
  · exact .inr h
theorem KB.pts {K : PySem.W.Frag} {d l : Addr} {H H' : Hp} {kvs : List (List Key × V)} {pts : List (List Int)} (k : KB d H H') (hd : H d = some (.dT kvs)) (h : PtsAt K H l pts) : PtsAt K H' l pts := by
  obtain ⟨xs, a, b⟩ := h.row
  exact ⟨⟨xs, k.seq hd a, Paired.imp (fun ns x ⟨a, ea, ha⟩ => ⟨a, ea, k.seq hd ha⟩) b⟩, h.len, h.each⟩
abbrev stepE (many : Nat) (e : Ent) (w : Int) : List Ent → Int → List Ent := fun fu n => if n ∈ e.1 then fu else keep fu (e.1 ++ [n]) (w, e.2.2 ++ [n])
abbrev stepO (pts : List (List Int)) (many : Nat) : List Ent → Ent → List Ent := fun fu e => inner many fu e (max e.2.1 ((fb pts e.1 : Nat) : Int))
def spOne (K : PySem.W.Frag) : Sp := fun vs H Q _ => ∃ (l d : Addr) (many : Int) (s : Nat) (pts : List (List Int)) (es : List Ent), vs = [.ref l, .int many, .ref d] ∧ PtsAt K H l pts ∧ DicAt K H d es ∧ 0 ≤ many ∧ many ≤ 10 ∧ All pts many.toNat s es ∧ s < many.toNat ∧
  ∀ (d' : Addr) (H' : Hp), KB d H H' → H d' = none → DicAt K H' d' (oneOn pts many.toNat es) → Q (.ref d') H'
theorem for_items {d : Addr} {o : Obj} {kvs : List (List Key × V)} {g : TG} {tb : TS} {D : Ends} {σ : St} {H : Hp} (Pv : Nat → St → Hp → Prop) (h0 : Pv 0 σ H) (hl : ∀ i σ H, i ≤ kvs.length → Pv i σ H → H d = some (.frz o (.dT kvs)))
    (hs : ∀ i k x b T σ H, kvs[i]? = some (k, x) → H T = none → H b = some (.tup (k.map kV)) → Pv i σ H → g (.ref T) σ (upd H T (.tup [.ref b, x])) fun σ2 H2 => tb { D with nx := Pv (i + 1), ct := Pv (i + 1), bk := D.nx } σ2 H2) (hd : ∀ σ H, Pv kvs.length σ H → D.nx σ H) : loopR g tb D σ (Idt d o kvs) H := by
  refine for_by kvs.length Pv h0 (fun i σ H hi p => ⟨hl i σ H (Nat.le_of_lt hi) p, hi⟩) (fun σ H p => ⟨hl _ σ H (Nat.le_refl _) p, rfl⟩) (fun i σ H x H' hi p y => ?_) hd
  obtain ⟨T, b, k, x, rfl, hT, hk, hb, rfl⟩ := y
  exact hs i k x b T σ H hk hT hb p
theorem addT_any {K : PySem.W.Frag} {H : Hp} {a b : Addr} {xs ys : List V} {Q : VK} (ha : SqT K H a xs) (hb : SqT K H b ys) (hz : xs.length + ys.length ≤ sizeLine) (q : ∀ (c : Addr) (H' : Hp), Same H H' → SqT K H' c (xs ++ ys) → Q (.ref c) H') : rAddT K (.ref a) (.ref b) H Q := by
  refine ⟨a, b, xs, ys, rfl, rfl, ha, hb, hz, fun e => ?_, fun _ e => ?_, fun _ _ p hp => ?_⟩
  · subst e
    exact q b H (Same.refl _) hb
  · subst e
    refine q a H (Same.refl _) ?_
    rw [List.append_nil]
    exact ha
  · exact q p _ (Same.new hp _) (SqT.of upd_same)
theorem max_is (i j : Int) : (if j > i then j else i) = max i j := by
  split <;> omega
section
variable {P : Program} {w : World} {K : PySem.W.Frag} {mg : Str → Option Value} {base : Heap} {f C : Addr} {fd : FuncData}
theorem scOne : FnScope ["points", "many", "narrow", "further", "some", "told", "width", "number"] ["points", "many", "narrow"] (defScope sOne) := ⟨rfl, rfl, rfl, by decide +kernel, rfl, by decide +kernel, by decide +kernel⟩
theorem ok_one {fF fK : Addr} {fdF fdK : FuncData} (F : Fun K "one_tie_on" "one_tie_on" sOne f fd) (T : Txt K mg C)
    (GF : FnOk P w K mg base CX0 2 fF fdF ["points", "some"] (spFront K)) (bF : Binds K fdF ["points", "some"] []) (kF : PySem.W.keepIn K (.ref fF) = true) (mF : mg "front_behind" = some (.ref fF))
    (GK : FnOk P w K mg base CX0 1 fK fdK ["further", "ties", "offered"] (spKeep K)) (bK : Binds K fdK ["further", "ties", "offered"] []) (kK : PySem.W.keepIn K (.ref fK) = true) (mK : mg "keep_narrower" = some (.ref fK)) :
    FnOk P w K mg base CX0 3 f fd ["points", "many", "narrow"] (spOne K) := by
  refine F.ok scOne (fun vs H Q E h => ?_) (fun cdv A outer s H vs Q E hr h => ?_)
  · obtain ⟨l, d, many, sz, pts, es, rfl, _⟩ := h
    rfl
  obtain ⟨l, d, many, sz, pts, es, rfl, hP, ⟨kvs, hd, pk⟩, m0, m10, hA, hs, q⟩ := h
  have hr1 : Room 1 _ := hr.mono (by decide)
  refine ⟨_, pss_cons (ps_set (i := 3) scOne.nd rfl (Or.inl rfl) pe_dnewT)
    (pss_cons (ps_for PassesOwn.never rfl (pi_items (pv 2)) (pg_tup rfl (pgs_cons (pg_name (i := 4) scOne.nd rfl (Or.inl rfl)) (pgs_cons (pg_name (i := 5) scOne.nd rfl (Or.inl rfl)) pgs_nil)))
      (pss_cons (ps_set (i := 6) scOne.nd rfl (Or.inl rfl) (pe_callB (call_max2 rfl) rfl T.max PyProof.Rows.boot_max (pa_cons (pe_ix ix_tup (pv 5) pe_int (fun _ _ => rfl)) (pa_cons (pe_call GF hr rfl mF kF bF .nil pass0 (pa_cons (pv 0) (pa_cons (pv 4) pa_nil))) pa_nil))))
      (pss_one (ps_for PassesOwn.never rfl (pi_range1 rfl T.range (pa_cons (pv 1) pa_nil)) (pg_name (i := 7) scOne.nd rfl (Or.inl rfl))
        (pss_one (ps_if (pt_cmpR op_notIn_seq (pv 7) (pv 4) rfl)
          (pss_one (ps_expr (pe_call GK hr1 rfl mK kK bK .nil pass0 (pa_cons (pv 3) (pa_cons (pe_op op_addT (pv 4) (pe_tup (pa_cons (pv 7) pa_nil))) (pa_cons (pe_tup (pa_cons (pv 6) (pa_cons (pe_op op_addT (pe_ix ix_tup (pv 5) pe_int (fun _ _ => rfl)) (pe_tup (pa_cons (pv 7) pa_nil))) pa_nil))) pa_nil)))))) pss_nil))))))
    (pss_one (ps_ret (pv 3)))), ?_⟩
  refine fun Fa hFa => ?_
  have nFd : Fa ≠ d := fun e => by rw [e, hd] at hFa; cases hFa
  have s0 := Same.new hFa (.dT [])
  refine ⟨_, rfl, d, kvs, rfl, s0 _ _ hd, fun ob => ?_⟩
  have es_len : es.length = kvs.length := Paired.length pk
  -- over the sets
  refine for_items (fun i σ H2 => ∃ (v4 v5 v6 v7 : Option V) (fu : List Ent), σ = [some (.ref l), some (.int many), some (.ref d), some (.ref Fa), v4, v5, v6, v7] ∧ KB d H H2 ∧ H2 d = some (.frz ob (.dT kvs)) ∧ DicAt K H2 Fa fu ∧ fu = (es.take i).foldl (stepO pts many.toNat) [] ∧ All pts many.toNat (sz + 1) fu ∧ keysNd fu)
    ⟨none, none, none, none, [], rfl, fun b u hb e => by rw [upd_ne hb]; exact s0 b u e, upd_same, ⟨[], by rw [upd_ne nFd]; exact upd_same, .nil⟩, rfl, (fun e he => by cases he), List.nodup_nil⟩ (fun i σ H2 _ ⟨_, _, _, _, _, _, _, z, _⟩ => z) ?_ ?_
  · rintro i kk x b T1 σ H2 hkx hT1 hb ⟨v4, v5, v6, v7, fu, rfl, kb, hfz, hdic, efu, hall, hnd⟩
    obtain ⟨e, he, ek, p0, o0, ex, hp0, ho0⟩ := Paired.get pk hkx
    dsimp only at ek ex
    subst ek ex
    rw [ik_V] at hb
    have tsH : TSm H H2 := kb.ts hd
    have hr0 := hA e (List.mem_of_getElem? he)
    have s3 := Same.new hT1 (.tup [.ref b, .ref p0])
    refine ⟨T1, _, rfl, SqT.of upd_same, rfl, _, _, rfl, _, _, rfl, rfl, ?_⟩
    have hp3 := s3.ts.seq (tsH.seq hp0)
    have ho3 := s3.ts.seq (tsH.seq ho0)
    have hb3 := s3 _ _ hb
    have hP3 := (kb.pts hd hP).same s3
    refine ⟨_, rfl, p0, _, _, _, rfl, rfl, hp3, at0, _, rfl, _, rfl, l, b, pts, e.1, rfl, hP3, SqT.of hb3, fun H4 s4 => ?_⟩
    have s24 := s3.trans s4
    refine ⟨e.2.1, _, rfl, ?_⟩
    rw [max_is]
    have hp4 := s4.ts.seq hp3
    have ho4 := s4.ts.seq ho3
    have hb4 := s4 _ _ hb3
    have hd4 := hdic.same s24
    have hfz4 := s24 _ _ hfz
    have kb4 : KB d H H4 := fun b u hb e => s24 _ _ (kb b u hb e)
    obtain ⟨kv4, hF4, _⟩ := id hd4
    -- over the ties
    refine ⟨_, rfl, many, rfl, by omega, by omega, ?_⟩
    refine for_range (lo := 0) (n := many.toNat) (fun j σ H5 => ∃ (v7 : Option V) (fv : List Ent), σ = [some (.ref l), some (.int many), some (.ref d), some (.ref Fa), some (.ref b), some (.ref p0), some (.int (max e.2.1 ((fb pts e.1 : Nat) : Int))), v7] ∧ KB Fa H4 H5 ∧ DicAt K H5 Fa fv ∧
        fv = ((below many.toNat).take j).foldl (stepE many.toNat e (max e.2.1 ((fb pts e.1 : Nat) : Int))) fu ∧ All pts many.toNat (sz + 1) fv ∧ keysNd fv)
      ⟨_, fu, rfl, fun b u _ e => e, hd4, rfl, hall, hnd⟩ ?_ ?_
    · rintro j σ H5 hj ⟨v7, fv, rfl, kb5, hd5, efv, hall5, hnd5⟩
      have ts5 : TSm H4 H5 := kb5.ts hF4
      have hb5 : SqT K H5 b (e.1.map V.int) := ts5.seq (SqT.of hb4)
      have hp5 := ts5.seq hp4
      have ho5 := ts5.seq ho4
      have hjn : (below many.toNat)[j]? = some (0 + (j : Int)) := by
        unfold below
        rw [List.getElem?_map, List.getElem?_range hj, Int.zero_add]
        rfl
      have et : ((below many.toNat).take (j + 1)).foldl (stepE many.toNat e (max e.2.1 ((fb pts e.1 : Nat) : Int))) fu = stepE many.toNat e (max e.2.1 ((fb pts e.1 : Nat) : Int)) fv (0 + (j : Int)) := by
        rw [take_snoc hjn, List.foldl_append, ← efv]
        rfl
      refine ⟨_, rfl, _, rfl, b, _, rfl, .inr hb5, rfl, flat_ints _, _, rfl, ?_⟩
      rw [if_pos rfl, inV_ints]
      by_cases c : (0 + (j : Int)) ∈ e.1
      · refine iteNP c ⟨_, fv, rfl, kb5, hd5, ?_, hall5, hnd5⟩
        rw [et]
        exact (if_pos c).symm
      · refine iteNN c ?_
        have e12 : e.1.length ≤ 10 := by rw [hr0.len]; omega
        have o12 : e.2.2.length ≤ 10 := by rw [hr0.perm.length_eq]; exact e12
        refine ⟨_, rfl, _, rfl, _, rfl, (by show 1 ≤ sizeLine; decide), fun t1 ht1 => ?_⟩
        have s6 := Same.new ht1 (.tup [.int (0 + (j : Int))])
        refine addT_any (s6.ts.seq hb5) (SqT.of upd_same) (small (by rw [List.length_map]; show _ + 1 ≤ _; omega)) fun c1 H7 s7 hc1 => ?_
        refine ⟨_, rfl, _, rfl, p0, _, _, _, rfl, rfl, s7.ts.seq (s6.ts.seq hp5), at1, _, rfl, (by show 1 ≤ sizeLine; decide), fun t2 ht2 => ?_⟩
        have s8 := Same.new ht2 (.tup [.int (0 + (j : Int))])
        refine addT_any (s8.ts.seq (s7.ts.seq (s6.ts.seq ho5))) (SqT.of upd_same) (small (by rw [List.length_map]; show _ + 1 ≤ _; omega)) fun c2 H9 s9 hc2 => ?_
        refine ⟨(by show 2 ≤ sizeLine; decide), fun p9 hp9 => ?_⟩
        have s10 := Same.new hp9 (.tup [.int (max e.2.1 ((fb pts e.1 : Nat) : Int)), .ref c2])
        have sA := s6.trans (s7.trans (s8.trans (s9.trans s10)))
        have en : ∀ ns : List Int, ns.map V.int ++ [.int (0 + (j : Int))] = (ns ++ [0 + (j : Int)]).map V.int := fun ns => by rw [List.map_append]; rfl
        rw [en] at hc1 hc2
        refine ⟨Fa, c1, p9, c2, fv, e.1 ++ [0 + (j : Int)], (max e.2.1 ((fb pts e.1 : Nat) : Int), e.2.2 ++ [0 + (j : Int)]), rfl, hd5.same sA, few hall5 hnd5 (by omega), s10.ts.seq (s9.ts.seq (s8.ts.seq hc1)), by rw [List.length_append]; show _ + 1 ≤ _; omega, SqT.of upd_same, s10.ts.seq hc2, fun H11 kb11 hd11 => ?_⟩
        refine ⟨_, _, rfl, fun b u hb e => kb11 b u hb (sA _ _ (kb5 b u hb e)), hd11, ?_, keep_all hall5 (hr0.on (by omega) (by omega) c), keep_nd hnd5⟩
        rw [et]
        exact (if_neg c).symm
    · rintro σ H5 ⟨v7, fv, rfl, kb5, hd5, efv, hall5, hnd5⟩
      have ln : (below many.toNat).take many.toNat = below many.toNat := List.take_of_length_le (Nat.le_of_eq below_len)
      rw [ln] at efv
      refine ⟨_, _, _, _, fv, rfl, fun b u hb e => ?_, ?_, hd5, ?_, hall5, hnd5⟩
      · exact kb5 b u (ne_of_none e hFa) (kb4 b u hb e)
      · exact kb5 d _ (fun z => nFd z.symm) hfz4
      · rw [take_snoc he, List.foldl_append, ← efu, efv]
        rfl
  · rintro σ H2 ⟨v4, v5, v6, v7, fu, rfl, kb, hfz, hdic, efu, hall, hnd⟩
    rw [← es_len, List.take_length] at efu
    exact ⟨_, rfl, q Fa H2 kb hFa (by rw [efu] at hdic; exact hdic)⟩
end
end K16
end
section
set_option Elab.async false
set_option linter.all false
set_option maxRecDepth 100000
set_option maxHeartbeats 4000000

namespace K16
open PySem L2 NW
structure Ex (K : PySem.W.Frag) (mg : Str → Option Value) (x : Str) (c : Addr) : Prop where
  m : mg x = some (.ref c)
  ex : PySem.W.excIn K c [.type "ValueError", .type "Exception", .type "BaseException", .type "object"] "ValueError.__new__" = true
def ptsOf (m : Int) (as : List (List Int)) : List (List Int) := (below m.toNat).map fun p => hits p as
def spNarrow (K : PySem.W.Frag) (C tm : Addr) : Sp := fun vs H Q E => ∃ (p : Addr) (m : Int) (as : List (List Int)), vs = [.ref p] ∧ WebAt K C H p m as ∧ 1 ≤ m ∧ m ≤ 10 ∧ as.length ≤ 12 ∧ (10 < as.length → ∀ (H' : Hp), Same H H' → E (.ref tm) none H') ∧
  (as.length ≤ 10 → ∀ (l : Addr) (H' : Hp), Same H H' → H l = none → H' l = some (.lst ((told (ptsOf m as) as.length).map V.int)) → Q (.ref l) H')
section
variable {P : Program} {w : World} {K : PySem.W.Frag} {mg : Str → Option Value} {base : Heap} {f C tm : Addr} {fd : FuncData}
theorem scNarrow : FnScope ["web", "many", "points", "narrow", "step"] ["web"] (defScope sNarrow) := ⟨rfl, rfl, rfl, by decide +kernel, rfl, by decide +kernel, by decide +kernel⟩
theorem ok_narrow {fS fT fA fO : Addr} {fdS fdT fdA fdO : FuncData} (F : Fun K "narrow_order" "narrow_order" sNarrow f fd) (T : Txt K mg C) (X1 : Ex K mg "TooMany" tm) (mo : ∃ t, mg "MOST_TIES_ORDERED" = some (.int 10 t))
    (GS : FnOk P w K mg base CX0 1 fS fdS ["self"] (spSize K C)) (bS : Binds K fdS ["self"] []) (mS : Meth K C "size" fS)
    (GT : FnOk P w K mg base CX0 1 fT fdT ["self"] (spTies K C)) (bT : Binds K fdT ["self"] []) (mT : Meth K C "ties" fT)
    (GA : FnOk P w K mg base CX0 1 fA fdA ["self", "point"] (spAt K C)) (bA : Binds K fdA ["self", "point"] []) (mA : Meth K C "at" fA)
    (GO : FnOk P w K mg base CX0 3 fO fdO ["points", "many", "narrow"] (spOne K)) (bO : Binds K fdO ["points", "many", "narrow"] []) (kO : PySem.W.keepIn K (.ref fO) = true) (mO : mg "one_tie_on" = some (.ref fO)) :
    FnOk P w K mg base (CXF P w) 4 f fd ["web"] (spNarrow K C tm) := by
  refine F.okF scNarrow (fun vs H Q E h => ?_) (fun cdv A outer s H vs Q E hr h => ?_)
  · obtain ⟨p, m, as, rfl, _⟩ := h
    rfl
  obtain ⟨p, m, as, rfl, hW, m1, m10, a12, qE, q⟩ := h
  obtain ⟨tk1, e1⟩ := mo
  have hr1 : Room 1 _ := hr.mono (by decide)
  refine ⟨_, pss_cons (ps_set (i := 1) scNarrow.nd rfl (Or.inl rfl) (pe_callB call_len_seq rfl T.len PySem.boot_len (pa_cons (pe_meth0 (pv 0) T.cl mT GT hr1 bT .nil pass0) pa_nil)))
    (pss_cons (ps_if (pt_cmpR op_gt (pv 1) (pe_glob (v := .int 10) rfl e1 ⟨tk1, rfl⟩) (nomark _))
      (pss_one (ps_raise (E (.ref tm) none) PySem.F.excBase_ValueError X1.ex rfl rfl X1.m (pa_cons (pe_join (pj_str 100 (by decide +kernel) (pj_int (pe_glob (v := .int 10) rfl e1 ⟨tk1, rfl⟩) (pj_str 100 (by decide +kernel) (pj_int (pv 1) pj_nil)))) (by decide)) pa_nil) xe_def)) pss_nil)
    (pss_cons (ps_comp (i := 2) (defScope sNarrow) ["point"] ["web"] [0] scNarrow.nd rfl (Or.inl rfl) rfl rfl (by decide +kernel) ⟨⟨rfl, by decide +kernel⟩, trivial⟩ (pi_range1 rfl T.range (pa_cons (pe_meth0 (pv 0) T.cl mS GS hr1 bS .nil pass0) pa_nil))
      (fun _ _ _ => pg_name (i := 0) (show ((["point"] : List Str) ++ (["web"] : List Str)).Nodup by decide +kernel) rfl (Or.inl rfl)) (fun _ _ _ => pifs_nil)
      (fun _ _ _ => pe_meth (pv 1) T.cl mA GA hr1 bA .nil pass0 (pa_cons (pv 0) pa_nil)))
    (pss_cons (ps_set (i := 3) scNarrow.nd rfl (Or.inl rfl) (pe_disp1 (un_of hr) (pe_tup pa_nil) (pe_tup (pa_cons pe_int (pa_cons (pe_tup pa_nil) pa_nil)))))
    (pss_cons (ps_for PassesOwn.leaving rfl (pi_range1 rfl T.range (pa_cons (pv 1) pa_nil)) (pg_name (i := 4) scNarrow.nd rfl (Or.inl rfl))
      (pss_one (ps_set (i := 3) scNarrow.nd rfl (Or.inl rfl) (pe_call GO hr rfl mO kO bO .nil pass0 (pa_cons (pv 2) (pa_cons (pv 1) (pa_cons (pv 3) pa_nil)))))))
    (pss_one (ps_ret (pe_callTy call_list_of rfl T.list PyProof.Rows.boot_list (pa_cons (pe_ix ix_tup (pe_dget (un_of hr) (pv 3) (pe_callTy (call_tuple_rng rfl) rfl T.tuple PyProof.Rows.boot_tuple (pa_cons (pe_callTy call_range1 rfl T.range PyProof.Rows.boot_range (pa_cons (pv 1) pa_nil)) pa_nil)) (fun _ _ => rfl)) pe_int (fun _ _ => rfl)) pa_nil)))))))), ?_⟩
  obtain ⟨dx, jj, hp, _⟩ := id hW
  refine ⟨_, rfl, p, dx, _, rfl, hp, flds_no _ _ (by decide +kernel) (by decide +kernel), p, m, as, rfl, hW, fun l1 H1 s1 r1 => ?_⟩
  obtain ⟨l1', xs, el, hl, px⟩ := id r1
  cases el
  have lx : as.length = xs.length := Paired.length px
  refine ⟨l1, xs, rfl, .inl hl, ?_⟩
  rw [← lx]
  refine ⟨_, rfl, _, _, rfl, rfl, _, rfl, ?_⟩
  by_cases c1 : (10 : Int) < ((as.length : Nat) : Int)
  · refine iteP c1 ?_
    exact ⟨10, rfl, log_small (by decide) (by decide), _, rfl, _, rfl, log_small (by omega) (by omega), fun z => ⟨(by show 1 ≤ sizeLine; decide), qE (by omega) _ s1⟩⟩
  refine iteN c1 ?_
  have a10 : as.length ≤ 10 := by omega
  -- points
  have hW1 := hW.same s1
  obtain ⟨dx1, j1, hp1, _⟩ := id hW1
  refine ⟨_, rfl, p, dx1, _, rfl, hp1, flds_no _ _ (by decide +kernel) (by decide +kernel), p, m, as, rfl, hW1, ?_⟩
  refine ⟨m, rfl, by omega, by omega, fun D hD => ?_⟩
  refine turns_range (lo := 0) (n := m.toNat) (fun i τ H2 => ∃ (n : Option V) (ys : List V), τ = [n, some (.ref p)] ∧ Same H1 H2 ∧ H2 D = some (.lst ys) ∧ Paired (fun (ns : List Int) (x : V) => ∃ a, x = .ref a ∧ a ≠ D ∧ H2 a = some (.lst (ns.map V.int))) ((ptsOf m as).take i) ys) ⟨none, [], rfl, Same.new hD _, upd_same, .nil⟩ ?_ ?_
  · rintro i τ H2 hi ⟨n, ys, rfl, s2, e2, p2⟩
    refine yesN ?_
    have hW2 := hW1.same s2
    obtain ⟨dx2, j2, hp2, _⟩ := id hW2
    refine ⟨_, rfl, p, dx2, _, rfl, hp2, flds_no _ _ (by decide +kernel) (by decide +kernel), _, rfl, p, m, _, as, rfl, hW2, a12, fun l3 H3 s3 n3 e3 => ?_⟩
    have e23 := s3 _ _ e2
    have nl : l3 ≠ D := fun z => by rw [z, e2] at n3; cases n3
    have lp : (ptsOf m as).length = m.toNat := by unfold ptsOf; rw [List.length_map, below_len]
    have ly : ys.length ≤ 10 := by rw [← Paired.length p2, List.length_take, lp]; omega
    have hpt : (ptsOf m as)[i]? = some (hits (0 + (i : Int)) as) := by
      unfold ptsOf below
      rw [List.getElem?_map, List.getElem?_map, List.getElem?_range hi, Int.zero_add]
      rfl
    refine ⟨ys, e23, small1000 (by omega), _, _, rfl, fun b o e => ?_, upd_same, ?_⟩
    · rw [upd_ne (ne_of_none e hD)]
      exact s3 _ _ (s2 b o e)
    · rw [take_snoc hpt]
      refine Paired.app (Paired.imp (fun ns x ⟨a, ea, na, ha⟩ => ⟨a, ea, na, by rw [upd_ne na]; exact s3 _ _ ha⟩) p2) (Paired.one ⟨l3, rfl, nl, by rw [upd_ne nl]; exact e3⟩)
  rintro τ H2 ⟨n, ys, rfl, s2, e2, p2⟩
  have lp : (ptsOf m as).length = m.toNat := by unfold ptsOf; rw [List.length_map, below_len]
  rw [← lp, List.take_length] at p2
  have hP2 : PtsAt K H2 D (ptsOf m as) := ⟨⟨ys, SqL.of e2, Paired.imp (fun ns x ⟨a, ea, _, ha⟩ => ⟨a, ea, SqL.of ha⟩) p2⟩, by omega, fun ns hns => by
    unfold ptsOf at hns
    obtain ⟨q1, _, rfl⟩ := List.mem_map.mp hns
    exact Nat.le_trans (hits_len q1 0 as) a12⟩
  have s02 := s1.trans s2
  -- the first table
  refine fun d0 hd0 => ?_
  have t1 := Same.new hd0 (.dT [])
  refine ⟨Nat.zero_le _, fun b0 hb0 => ?_⟩
  have t2 := Same.new hb0 (.tup [])
  refine ⟨Nat.zero_le _, fun o0 ho0 => ?_⟩
  have t3 := Same.new ho0 (.tup [])
  refine ⟨(by show 2 ≤ sizeLine; decide), fun p0 hp0 => ?_⟩
  have t4 := Same.new hp0 (.tup [.int 0, .ref o0])
  refine ⟨[], b0, rfl, t4 _ _ (t3 _ _ upd_same), t4 _ _ (t3 _ _ (t2 _ _ upd_same)), ?_⟩
  have tA := t1.trans (t2.trans (t3.trans t4))
  have nd0 : H d0 = none := by
    cases e : H d0 with
    | none => rfl
    | some o => rw [s02 _ _ e] at hd0; cases hd0
  have hd4 := t4 _ _ (t3 _ _ (t2 _ _ (upd_same (H := H2) (a := d0) (o := .dT []))))
  have ho4 := t4 _ _ (upd_same (H := upd (upd H2 d0 (.dT [])) b0 (.tup [])) (a := o0) (o := .tup []))
  have hP4 := hP2.same tA
  have k5 : KB d0 H2 (upd (upd (upd (upd (upd H2 d0 (.dT [])) b0 (.tup [])) o0 (.tup [])) p0 (.tup [.int 0, .ref o0])) d0 (.dT [([], .ref p0)])) := fun b u hb e => by
    rw [upd_ne hb]
    exact tA b u e
  have n0 : ∀ {a : Addr} {xs : List V}, (upd (upd (upd (upd H2 d0 (.dT [])) b0 (.tup [])) o0 (.tup [])) p0 (.tup [.int 0, .ref o0])) a = some (.tup xs) → a ≠ d0 := fun {a xs} e z => by
    rw [z, hd4] at e
    cases e
  have hp5 : (upd (upd (upd (upd H2 d0 (.dT [])) b0 (.tup [])) o0 (.tup [])) p0 (.tup [.int 0, .ref o0])) p0 = some (.tup [.int 0, .ref o0]) := upd_same
  refine ⟨_, rfl, ((as.length : Nat) : Int), rfl, by omega, by omega, ?_⟩
  refine for_range (lo := 0) (n := ((as.length : Nat) : Int).toNat) (fun i σ H5 => ∃ (v4 : Option V) (d : Addr), σ = [some (.ref p), some (.int ((as.length : Nat) : Int)), some (.ref D), some (.ref d), v4] ∧ Same H H5 ∧ H d = none ∧ PtsAt K H5 D (ptsOf m as) ∧ DicAt K H5 d (narrow (ptsOf m as) as.length i))
    ⟨none, d0, rfl, fun b o e => k5 b o (ne_of_none e nd0) (s02 b o e), nd0, ?_, ⟨_, upd_same, .cons ⟨rfl, p0, o0, rfl, SqT.of (by rw [upd_ne (n0 hp5)]; exact hp5), SqT.of (by rw [upd_ne (n0 ho4)]; exact ho4)⟩ .nil⟩⟩ ?_ ?_
  · have k6 : KB d0 (upd H2 d0 (.dT [])) (upd (upd (upd (upd (upd H2 d0 (.dT [])) b0 (.tup [])) o0 (.tup [])) p0 (.tup [.int 0, .ref o0])) d0 (.dT [([], .ref p0)])) := fun b u hb e => by
      rw [upd_ne hb]
      exact t4 _ _ (t3 _ _ (t2 _ _ e))
    exact k6.pts upd_same (hP2.same t1)
  · rintro i σ H5 hi ⟨v4, d, rfl, s5, nd, hP5, hd5⟩
    rw [Int.toNat_natCast] at hi
    obtain ⟨kv5, hk5, _⟩ := id hd5
    refine ⟨_, rfl, _, rfl, _, rfl, D, d, _, i, ptsOf m as, narrow (ptsOf m as) as.length i, rfl, hP5, hd5, by omega, by omega, ?_, ?_, fun d' H6 kb nd' hd6 => ?_⟩
    · rw [Int.toNat_natCast]; exact narrow_all i
    · rw [Int.toNat_natCast]; exact hi
    rw [Int.toNat_natCast] at hd6
    refine ⟨_, d', rfl, fun b o e => kb b o (ne_of_none e nd) (s5 b o e), ?_, kb.pts hk5 hP5, hd6⟩
    cases e : H d' with
    | none => rfl
    | some o => rw [s5 _ _ e] at nd'; cases nd'
  · rintro σ H5 ⟨v4, d, rfl, s5, nd, hP5, kv, hk5, pk5⟩
    rw [Int.toNat_natCast] at pk5
    obtain ⟨w0, gw, pw, _⟩ := told_get (pts := ptsOf m as) (many := as.length)
    obtain ⟨x, ex, q0, oo, rfl, hq0, hoo⟩ := val_some pk5 gw
    refine ⟨_, rfl, _, rfl, _, rfl, fun r hr0 => ?_⟩
    have t6 := Same.new hr0 (.rng 0 ((as.length : Nat) : Int))
    refine ⟨r, _, rfl, upd_same, by omega, by omega, fun kt hkt => ?_⟩
    have t7 := Same.new hkt (.tup ((below (((as.length : Nat) : Int)).toNat).map V.int))
    have hkt2 : (upd (upd H5 r (.rng 0 ((as.length : Nat) : Int))) kt (.tup ((below (((as.length : Nat) : Int)).toNat).map V.int))) kt = some (.tup ((ik (below as.length)).map kV)) := by rw [ik_V, upd_same, Int.toNat_natCast]
    have t8 := t6.trans t7
    have g := DGet.t (t8 _ _ hk5) hkt2
    rw [ex] at g
    refine ⟨d, _, rfl, g, q0, _, _, _, rfl, rfl, t8.ts.seq hq0, at1, oo, _, rfl, .inr (t8.ts.seq hoo), fun lr hlr => ?_⟩
    have t9 := Same.new hlr (.lst ((told (ptsOf m as) as.length).map V.int))
    refine q a10 lr _ (s5.trans (t8.trans t9)) ?_ upd_same
    cases e : H lr with
    | none => rfl
    | some o => rw [t8 _ _ (s5 _ _ e)] at hlr; cases hlr
end
end K16
end
section
set_option Elab.async false
set_option linter.all false
set_option maxRecDepth 100000
set_option maxHeartbeats 4000000

namespace K16
open PySem L2 NW
theorem below_length (n : Nat) : (below n).length = n := below_len
def Ord (n : Nat) (ns : List Int) : Prop := ns.Perm (below n)
theorem perm_erase {l : List Int} : ∀ {k : Nat} {y : Int}, l[k]? = some y → (y :: l.eraseIdx k).Perm l := by
  induction l with
  | nil => intro k y h; simp at h
  | cons a t ih =>
    intro k y h
    cases k with
    | zero =>
      obtain rfl : a = y := by simpa using h
      exact List.Perm.refl _
    | succ k =>
      have h' : t[k]? = some y := by simpa using h
      exact (List.Perm.swap a y _).trans (List.Perm.cons a (ih h'))
theorem pop_perm {f l b : List Int} {k : Nat} {y : Int} (h : (f ++ l).Perm b) (hy : l[k]? = some y) : ((f ++ [y]) ++ l.eraseIdx k).Perm b := by
  rw [List.append_assoc]
  exact (List.Perm.append_left f (perm_erase hy)).trans h
def spOrder : Sp := fun vs H Q _ => ∃ (c n : Int), vs = [.int c, .int n] ∧ 0 ≤ n ∧ n ≤ 12 ∧
  ∀ (l : Addr) (ns : List Int) (H' : Hp), Same H H' → H l = none → H' l = some (.lst (ns.map V.int)) → Ord n.toNat ns → Q (.ref l) H'
section
variable {P : Program} {w : World} {K : PySem.W.Frag} {mg : Str → Option Value} {base : Heap} {f C : Addr} {fd : FuncData}
theorem map_erase : ∀ (ns : List Int) (k : Nat), (ns.map V.int).eraseIdx k = (ns.eraseIdx k).map V.int
  | [], _ => rfl
  | _ :: _, 0 => rfl
  | a :: t, k + 1 => by
    show V.int a :: (t.map V.int).eraseIdx k = V.int a :: (t.eraseIdx k).map V.int
    rw [map_erase t k]
theorem scOrder : FnScope ["_law_cell_here", "_law_n", "_law_left", "_law_found", "_law_rest_of", "_law_k", "_law_number"] ["_law_cell_here", "_law_n"] (defScope sOrder) := ⟨rfl, rfl, rfl, by decide +kernel, rfl, by decide +kernel, by decide +kernel⟩
theorem ok_order {fM : Addr} {fdM : FuncData} (F : Fun K "_law_order" "_law_order" sOrder f fd) (T : Txt K mg C) (GM : FnOk P w K mg base CX0 1 fM fdM ["_law_cell_here", "_law_k"] spMix) (bM : Binds K fdM ["_law_cell_here", "_law_k"] []) (kM : PySem.W.keepIn K (.ref fM) = true) (mM : mg "_law_mixed" = some (.ref fM)) :
    FnOk P w K mg base CX0 2 f fd ["_law_cell_here", "_law_n"] spOrder := by
  refine F.ok scOrder (fun vs H Q E h => ?_) (fun cdv A outer s H vs Q E hr h => ?_)
  · obtain ⟨c, n, rfl, _⟩ := h
    rfl
  obtain ⟨c, n, rfl, n0, n12, q⟩ := h
  refine ⟨_, pss_cons (ps_set (i := 2) scOrder.nd rfl (Or.inl rfl) (pe_callTy (call_list_rng rfl) rfl T.list PyProof.Rows.boot_list (pa_cons (pe_callTy call_range1 rfl T.range PyProof.Rows.boot_range (pa_cons (pv 1) pa_nil)) pa_nil)))
    (pss_cons (ps_set (i := 3) scOrder.nd rfl (Or.inl rfl) (pe_lst pa_nil))
    (pss_cons (ps_set (i := 4) scOrder.nd rfl (Or.inl rfl) (pe_op op_fdiv (pv 0) pe_int))
    (pss_cons (ps_for PassesOwn.never rfl (pi_range1 rfl T.range (pa_cons (pv 1) pa_nil)) (pg_name (i := 5) scOrder.nd rfl (Or.inl rfl))
      (pss_cons (ps_set (i := 6) scOrder.nd rfl (Or.inl rfl) (pv 4))
      (pss_mid (ps_if (pt_cmpR op_eq (pe_op op_mod (pv 0) pe_int) pe_int (nomark _))
          (pss_one (ps_set (i := 6) scOrder.nd rfl (Or.inl rfl) (pe_call GM hr rfl mM kM bM .nil pass0 (pa_cons (pv 0) (pa_cons (pv 5) pa_nil))))) pss_nil)
      (pss_cons (ps_set (i := 4) scOrder.nd rfl (Or.inl rfl) (pe_op op_fdiv (pv 4) (pe_callB call_len_seq rfl T.len PySem.boot_len (pa_cons (pv 2) pa_nil))))
      (pss_one (ps_expr (pe_bm PySem.F.plainAttrs_list PySem.F.slot_list_append PySem.F.type_list_append mt_append (pv 3) (pa_cons
        (pe_bm PySem.F.plainAttrs_list PySem.F.slot_list_pop PySem.F.type_list_pop mt_popAt (pv 2) (pa_cons (pe_op op_mod (pv 6) (pe_callB call_len_seq rfl T.len PySem.boot_len (pa_cons (pv 2) pa_nil))) pa_nil)) pa_nil))))))))
    (pss_one (ps_ret (pv 3)))))), ?_⟩
  refine ⟨_, rfl, n, rfl, fun r hr0 => ?_⟩
  refine ⟨r, n, rfl, upd_same, by omega, by omega, fun L hL => ?_⟩
  have s1 := (Same.new hr0 (.rng 0 n)).trans (Same.new hL (.lst ((below n.toNat).map V.int)))
  have nL : H L = none := by
    cases e : H L with
    | none => rfl
    | some o => rw [Same.new hr0 (.rng 0 n) _ _ e] at hL; cases hL
  refine ⟨Nat.zero_le _, fun D hD => ?_⟩
  have s2 := Same.new hD (.lst [])
  have nD : H D = none := by
    cases e : H D with
    | none => rfl
    | some o => rw [s1 _ _ e] at hD; cases hD
  have neL : L ≠ D := fun e => by
    rw [← e, upd_same] at hD
    cases hD
  refine ⟨_, rfl, _, _, rfl, rfl, ⟨by decide, by decide⟩, ?_⟩
  refine ⟨_, rfl, n, rfl, by omega, by omega, ?_⟩
  refine for_range (lo := 0) (n := n.toNat) (fun i σ H2 => ∃ (ls fs : List Int) (rest : Int) (kv nv : Option V), σ = [some (.int c), some (.int n), some (.ref L), some (.ref D), some (.int rest), kv, nv] ∧ Same H H2 ∧ H2 L = some (.lst (ls.map V.int)) ∧ H2 D = some (.lst (fs.map V.int)) ∧ fs.length = i ∧ (fs ++ ls).Perm (below n.toNat))
    ⟨below n.toNat, [], _, none, none, rfl, s1.trans s2, s2 _ _ upd_same, upd_same, rfl, List.Perm.refl _⟩ ?_ ?_
  · rintro i σ H2 hi ⟨ls, fs, rest, kv, nv, rfl, sm, eL, eD, hn, hp⟩
    have ll : fs.length + ls.length = n.toNat := by
      have := hp.length_eq
      rw [List.length_append, below_length] at this
      exact this
    have lpos : 0 < ls.length := by omega
    refine ⟨_, rfl, ?_⟩
    refine ⟨fun σ' H' => H' = H2 ∧ ∃ v : Int, σ' = [some (.int c), some (.int n), some (.ref L), some (.ref D), some (.int rest), some (.int (0 + i)), some (.int v)], ?_, ?_⟩
    · refine ⟨_, rfl, _, _, rfl, rfl, (by show (0 : Int) < 2; decide), rfl, _, rfl, ?_⟩
      refine ite2 (fun _ => ?_) (fun _ => ?_)
      · exact ⟨_, rfl, _, rfl, _, _, rfl, fun r => ⟨rfl, r, rfl⟩⟩
      · exact ⟨rfl, _, rfl⟩
    rintro σ' H' ⟨rfl, v, rfl⟩
    have lm : ((ls.map V.int).length : Int) = ls.length := by rw [List.length_map]
    refine ⟨_, rfl, _, rfl, L, _, rfl, .inl (SqL.of eL), _, _, rfl, rfl, ⟨by rw [lm]; omega, by rw [lm]; omega⟩, ?_⟩
    refine ⟨_, rfl, .inl ⟨rfl, _, SqL.of eD⟩, _, rfl, .inl ⟨rfl, _, SqL.of eL⟩, _, rfl, _, rfl, L, _, rfl, .inl (SqL.of eL), _, _, rfl, rfl, (by rw [lm]; omega), ?_⟩
    rw [lm]
    have m0 : 0 ≤ v % (ls.length : Int) := Int.emod_nonneg _ (by omega)
    have m1 : v % (ls.length : Int) < ls.length := Int.emod_lt_of_pos _ (by omega)
    obtain ⟨j, ej⟩ : ∃ j : Nat, v % (ls.length : Int) = j := ⟨(v % (ls.length : Int)).toNat, by omega⟩
    rw [ej] at m0 m1
    show (fun (z : Int) => tNil _ H' fun xs H2 => rPopAt (V.ref L) (.int z :: xs) H2 _) (v % (ls.length : Int))
    rw [ej]
    have hj : j < ls.length := by omega
    have gj : ls[j]? = some ls[j] := List.getElem?_eq_getElem hj
    have ix := ixN_seq (n := ls.length) (i := (j : Int)) (j := j) (by unfold ixN; rw [if_pos (by omega), if_pos (by omega)]; simp)
    refine ⟨L, _, _, j, .int ls[j], rfl, rfl, eL, by omega, by omega, by rw [List.length_map]; exact ix.1, by rw [List.getElem?_map, gj]; rfl, ?_⟩
    rw [map_erase]
    refine ⟨D, fs.map V.int, _, rfl, rfl, by rw [upd_ne neL.symm]; exact eD, by rw [List.length_map]; exact small1000 (by omega), ?_⟩
    refine ⟨ls.eraseIdx j, fs ++ [ls[j]], _, _, _, rfl, fun b o e => ?_, ?_, ?_, by simp; omega, pop_perm hp gj⟩
    · rw [upd_ne (ne_of_none e nD), upd_ne (ne_of_none e nL)]
      exact sm b o e
    · rw [upd_ne neL, upd_same]
    · rw [upd_same, List.map_append]
      rfl
  · rintro σ H2 ⟨ls, fs, rest, kv, nv, rfl, sm, eL, eD, hn, hp⟩
    have l0 : ls = [] := by
      have := hp.length_eq
      rw [List.length_append, below_length, hn] at this
      exact List.length_eq_zero_iff.mp (by omega)
    rw [l0, List.append_nil] at hp
    exact ⟨_, rfl, q D fs H2 sm nD eD hp⟩
end
/-- the exceptions' classes -/
structure Cs where
  fe : Addr
  tm : Addr
  bk : Addr
  br : Addr
  bt : Addr
  nk : Addr
  nn : Addr
  nu : Addr
  nr : Addr
  ns : Addr
  nx : Addr
  ni : Addr
  no : Addr
  nw : Addr
  tw : Addr
  un : Addr
/-- their names -/
structure XN (K : PySem.W.Frag) (mg : Str → Option Value) (c : Cs) : Prop where
  fe : mg "FrontError" = some (.ref c.fe)
  tm : mg "TooMany" = some (.ref c.tm)
  bk : mg "BadKnots" = some (.ref c.bk)
  br : mg "BadRule" = some (.ref c.br)
  bt : mg "BadTie" = some (.ref c.bt)
  nk : mg "NoKnot" = some (.ref c.nk)
  nn : mg "NoName" = some (.ref c.nn)
  nu : mg "NoNumber" = some (.ref c.nu)
  nr : mg "NoRow" = some (.ref c.nr)
  ns : mg "NoSet" = some (.ref c.ns)
  nx : mg "NoText" = some (.ref c.nx)
  ni : mg "NoTie" = some (.ref c.ni)
  no : mg "NoOrder" = some (.ref c.no)
  nw : mg "NoWeights" = some (.ref c.nw)
  tw : mg "Twice" = some (.ref c.tw)
  un : mg "Unlike" = some (.ref c.un)
  ve : mg "ValueError" = none
  z : XCl K c.tm
  s : XSub K c.tm c.fe
  k1 : PySem.W.kitOne K (.ref c.tm) (.ref c.tm) = some true
  k2 : PySem.W.kitOne K (.ref c.tm) (.type "ValueError") = some true
  o1 : PySem.W.kitAny K (.ref c.tm) [.ref c.bk, .ref c.br, .ref c.bt, .ref c.nk, .ref c.nn, .ref c.nu, .ref c.nr, .ref c.ns, .ref c.nx, .ref c.ni] = some false
  o2 : PySem.W.kitAny K (.ref c.tm) [.ref c.no, .ref c.nw, .ref c.tw, .ref c.un] = some false
theorem boot_ValueError : bootBuiltins "ValueError" = some (.type "ValueError") := by decide +kernel
def spRefuse (K : PySem.W.Frag) (C : Addr) : Sp := fun vs H Q _ => ∃ (p : Addr) (m : Int) (as : List (List Int)), vs = [.ref p] ∧ WebAt K C H p m as ∧ 1 ≤ m ∧ m ≤ 10 ∧ as.length ≤ 12 ∧ 10 < as.length ∧ ∀ (H' : Hp), Same H H' → Q (.bl true) H'
section
variable {P : Program} {w : World} {K : PySem.W.Frag} {mg : Str → Option Value} {base : Heap} {f C : Addr} {fd : FuncData} {c : Cs}
theorem scRefuse : FnScope ["_law_web_here", "_law_good", "e"] ["_law_web_here"] (defScope sRefuse) := ⟨rfl, rfl, rfl, by decide +kernel, rfl, by decide +kernel, by decide +kernel⟩
theorem ok_refuse {fR : Addr} {fdR : FuncData} (F : Fun K "_law_refused" "_law_refused" sRefuse f fd) (T : Txt K mg C) (N : XN K mg c)
    (GR : FnOk P w K mg base (CXF P w) 4 fR fdR ["web"] (spNarrow K C c.tm)) (bR : Binds K fdR ["web"] []) (kR : PySem.W.keepIn K (.ref fR) = true) (mR : mg "narrow_order" = some (.ref fR)) :
    FnOk P w K mg base CX0 5 f fd ["_law_web_here"] (spRefuse K C) := by
  refine F.ok scRefuse (fun vs H Q E h => ?_) (fun cdv A outer s H vs Q E hr h => ?_)
  · obtain ⟨p, m, as, rfl, _⟩ := h
    rfl
  obtain ⟨p, m, as, rfl, hW, m1, m10, a12, a10, q⟩ := h
  refine ⟨_, pss_cons (ps_set (i := 1) scRefuse.nd rfl (Or.inl rfl) pe_bl)
    (pss_cons (ps_try_expr (j := 2) (D := c.fe) (G := fun C => C = c.tm) (E := fun cls _ H' => Same H H' ∧ cls = .ref c.tm)
        (tt := fun a C => _) rfl rfl scRefuse.nd rfl N.fe rfl rfl (pex_call GR hr rfl mR kR bR .nil (pa_cons (pv 0) pa_nil))
        (fun cls H' h => ⟨_, h.2, N.s, rfl⟩)
        (fun a C oe hG hoe =>
          pss_cons (ps_set (i := 1) scRefuse.nd rfl (Or.inl rfl) (pe_and (pe_callB (isi_excK (K := K) rfl (List.mem_append_right _ (List.mem_singleton.mpr rfl)) hoe (hG ▸ N.z)) rfl T.isi PyProof.Rows.boot_isinstance (pa_cons (pv 2) (pa_cons (pe_glob (v := .ref c.tm) rfl N.tm rfl) pa_nil)))
            (pe_one (pe_callB (isi_excK (K := K) rfl (List.mem_append_right _ (List.mem_singleton.mpr rfl)) hoe (hG ▸ N.z)) rfl T.isi PyProof.Rows.boot_isinstance (pa_cons (pv 2) (pa_cons (pe_bltn (v := .ty "ValueError") rfl N.ve boot_ValueError rfl) pa_nil))))))
          (pss_cons (ps_if (pt_val (pe_callB (isi_excK (K := K) rfl (List.mem_append_right _ (List.mem_singleton.mpr rfl)) hoe (hG ▸ N.z)) rfl T.isi PyProof.Rows.boot_isinstance (pa_cons (pv 2) (pa_cons (pe_tup (pa_cons (pe_glob (v := .ref c.bk) rfl N.bk rfl) (pa_cons (pe_glob (v := .ref c.br) rfl N.br rfl) (pa_cons (pe_glob (v := .ref c.bt) rfl N.bt rfl) (pa_cons (pe_glob (v := .ref c.nk) rfl N.nk rfl) (pa_cons (pe_glob (v := .ref c.nn) rfl N.nn rfl)
              (pa_cons (pe_glob (v := .ref c.nu) rfl N.nu rfl) (pa_cons (pe_glob (v := .ref c.nr) rfl N.nr rfl) (pa_cons (pe_glob (v := .ref c.ns) rfl N.ns rfl) (pa_cons (pe_glob (v := .ref c.nx) rfl N.nx rfl) (pa_cons (pe_glob (v := .ref c.ni) rfl N.ni rfl) pa_nil))))))))))) pa_nil))))
            (pss_one (ps_set (i := 1) scRefuse.nd rfl (Or.inl rfl) pe_bl)) pss_nil)
          (pss_one (ps_if (pt_val (pe_callB (isi_excK (K := K) rfl (List.mem_append_right _ (List.mem_singleton.mpr rfl)) hoe (hG ▸ N.z)) rfl T.isi PyProof.Rows.boot_isinstance (pa_cons (pv 2) (pa_cons (pe_tup (pa_cons (pe_glob (v := .ref c.no) rfl N.no rfl) (pa_cons (pe_glob (v := .ref c.nw) rfl N.nw rfl) (pa_cons (pe_glob (v := .ref c.tw) rfl N.tw rfl) (pa_cons (pe_glob (v := .ref c.un) rfl N.un rfl) pa_nil))))) pa_nil))))
            (pss_one (ps_set (i := 1) scRefuse.nd rfl (Or.inl rfl) pe_bl)) pss_nil)))))
    (pss_one (ps_ret (pv 1)))), ?_⟩
  refine ⟨?_, ?_⟩
  · exact ⟨_, rfl, p, m, as, rfl, hW, m1, m10, a12, fun _ H' s' => ⟨s', rfl⟩, fun z => absurd z (by omega)⟩
  · rintro a C' H2 ⟨sm, e⟩
    cases e
    refine ⟨_, rfl, .inl ⟨c.tm, true, rfl, N.k1, true, rfl, ?_⟩⟩
    refine iteT ⟨_, rfl, .inr (.inl ⟨"ValueError", true, rfl, N.k2, ?_⟩)⟩
    refine ⟨_, rfl, (by show 10 ≤ sizeLine; decide), fun tp htp => .inr (.inr ⟨tp, [c.bk, c.br, c.bt, c.nk, c.nn, c.nu, c.nr, c.ns, c.nx, c.ni], false, rfl, SqT.of upd_same, N.o1, false, rfl, ?_⟩)⟩
    have s2 := Same.new htp (.tup [.ref c.bk, .ref c.br, .ref c.bt, .ref c.nk, .ref c.nn, .ref c.nu, .ref c.nr, .ref c.ns, .ref c.nx, .ref c.ni])
    refine iteF ?_
    refine ⟨_, rfl, (by show 4 ≤ sizeLine; decide), fun tp2 htp2 => .inr (.inr ⟨tp2, [c.no, c.nw, c.tw, c.un], false, rfl, SqT.of upd_same, N.o2, false, rfl, ?_⟩)⟩
    have s3 := Same.new htp2 (.tup [.ref c.no, .ref c.nw, .ref c.tw, .ref c.un])
    refine iteF ?_
    exact ⟨_, rfl, q _ (sm.trans (s2.trans s3))⟩
end
end K16
end
section
set_option Elab.async false
set_option linter.all false
set_option maxRecDepth 100000
set_option maxHeartbeats 4000000

namespace K16
open PySem L2 NW
def spIsOrd (K : PySem.W.Frag) : Sp := fun vs H Q _ => ∃ (l : Addr) (n : Int) (ns : List Int), vs = [.ref l, .int n] ∧ SqL K H l (ns.map V.int) ∧ 0 ≤ n ∧ n ≤ 12 ∧ Ord n.toNat ns ∧ ∀ (H' : Hp), Same H H' → Q (.bl true) H'
theorem ord_sorted {n : Nat} {ms ns : List Int} (hp : ms.Perm ns) (hs : ms.Pairwise (· ≤ ·)) (h : Ord n ns) : ms = below n := (sortI_of (hp.trans h) hs).trans below_sorted
section
variable {P : Program} {w : World} {K : PySem.W.Frag} {mg : Str → Option Value} {base : Heap} {f C : Addr} {fd : FuncData}
theorem scIsOrd : FnScope ["_law_found", "_law_n"] ["_law_found", "_law_n"] (defScope sIsOrd) := ⟨rfl, rfl, rfl, by decide +kernel, rfl, by decide +kernel, by decide +kernel⟩
theorem ok_isord (F : Fun K "_law_is_order" "_law_is_order" sIsOrd f fd) (T : Txt K mg C) : FnOk P w K mg base CX0 1 f fd ["_law_found", "_law_n"] (spIsOrd K) := by
  refine F.ok scIsOrd (fun vs H Q E h => ?_) (fun cdv A outer s H vs Q E hr h => ?_)
  · obtain ⟨l, n, ns, rfl, _⟩ := h
    rfl
  obtain ⟨l, n, ns, rfl, hl, n0, n12, hO, q⟩ := h
  have ln : ns.length = n.toNat := by rw [hO.length_eq, below_len]
  refine ⟨_, pss_cons (ps_if (PW.pt (pw_or (pt_not (pt_val (pe_callB isi_list rfl T.isi PyProof.Rows.boot_isinstance (pa_cons (pv 0) (pa_cons (pe_bltn (v := .ty "list") rfl T.list PyProof.Rows.boot_list rfl) pa_nil)))))
      (pw_or1 (pt_cmpR (op_neL dat_int (un_of hr)) (pe_comp (defScope sIsOrd) ["_law_one"] [] [] rfl rfl (by decide +kernel) trivial (pi_list (pv 0))
        (fun _ _ _ => pg_name (i := 0) (show ((["_law_one"] : List Str) ++ ([] : List Str)).Nodup by decide +kernel) rfl (Or.inl rfl))
        (fun _ _ _ => pifs_one (pt_val (pe_callB isi_intbool rfl T.isi PyProof.Rows.boot_isinstance (pa_cons (pv 0) (pa_cons (pe_bltn (v := .ty "bool") rfl T.bool PyProof.Rows.boot_bool rfl) pa_nil)))))
        (fun _ _ _ => pv 0)) (pe_lst pa_nil) rfl)))) (pss_one (ps_ret pe_bl)) pss_nil)
    (pss_one (ps_ret (pe_cmpR (op_eqL dat_int (un_of hr)) (pe_callB call_sorted rfl T.sorted PyProof.Rows.boot_sorted (pa_cons (pv 0) pa_nil)) (pe_callTy (call_list_rng rfl) rfl T.list PyProof.Rows.boot_list (pa_cons (pe_callTy call_range1 rfl T.range PyProof.Rows.boot_range (pa_cons (pv 1) pa_nil)) pa_nil)) rfl))), ?_⟩
  refine ⟨_, rfl, l, _, rfl, hl, _, rfl, ?_⟩
  refine iteF ?_
  refine ⟨_, rfl, l, rfl, ⟨_, hl⟩, fun D hD => ?_⟩
  refine turns_list (xs := ns.map V.int) (fun i τ H4 => ∃ n : Option V, τ = [n] ∧ Same H H4 ∧ H4 D = some (.lst [])) ⟨none, rfl, Same.new hD _, upd_same⟩ (fun i τ H4 _ ⟨_, _, s4, _⟩ => s4.seq hl) ?_ ?_
  · rintro i y τ H4 hy ⟨n, rfl, s4, e4⟩
    obtain ⟨z, _, rfl⟩ := int_at hy
    refine ⟨_, rfl, z, rfl, _, rfl, ?_⟩
    exact iteF ⟨_, rfl, s4, e4⟩
  rintro τ H4 ⟨_, rfl, s4, e4⟩
  refine ⟨Nat.zero_le _, fun l2 hl2 => ?_⟩
  have s5 : Same H4 (upd H4 l2 (.lst [])) := Same.new hl2 _
  refine ⟨[], [], ⟨D, [], rfl, SqL.of (s5 _ _ e4), .nil⟩, ⟨l2, [], rfl, SqL.of upd_same, .nil⟩, _, rfl, ?_⟩
  rw [decide_eq_true rfl]
  refine iteF ?_
  refine ⟨_, rfl, l, ns, rfl, .inl ((s4.trans s5).seq hl), by omega, fun ls ms hls pms sms => ?_⟩
  have s6 := Same.new hls (.lst (ms.map V.int))
  refine ⟨_, rfl, n, rfl, fun r hr0 => ?_⟩
  have s7 := Same.new hr0 (.rng 0 n)
  refine ⟨r, n, rfl, upd_same, by omega, by omega, fun lb hlb => ?_⟩
  have s8 := Same.new hlb (.lst ((below n.toNat).map V.int))
  refine ⟨ms, below n.toNat, ⟨ls, _, rfl, SqL.of ((s7.trans s8) _ _ upd_same), paired_ints _⟩, ⟨lb, _, rfl, SqL.of upd_same, paired_ints _⟩, ?_⟩
  rw [decide_eq_true (ord_sorted pms sms hO)]
  exact q _ (s4.trans (s5.trans (s6.trans (s7.trans s8))))
end
end K16
end
section
set_option Elab.async false
set_option linter.all false
set_option maxRecDepth 100000
set_option maxHeartbeats 4000000

namespace K16
open PySem L2 NW
theorem mem_hitsFrom (p : Int) : ∀ (k : Nat) (as : List (List Int)) (x : Int), x ∈ hitsFrom p k as ↔ ∃ i t, as[i]? = some t ∧ p ∈ t ∧ x = ((k + i : Nat) : Int)
  | k, [], x => by
    show x ∈ ([] : List Int) ↔ _
    simp
  | k, t :: r, x => by
    show x ∈ (if p ∈ t then (k : Int) :: hitsFrom p (k + 1) r else hitsFrom p (k + 1) r) ↔ _
    have ih := mem_hitsFrom p (k + 1) r x
    constructor
    · intro h
      by_cases c : p ∈ t
      · rw [if_pos c] at h
        rcases List.mem_cons.mp h with rfl | h
        · exact ⟨0, t, rfl, c, rfl⟩
        · obtain ⟨i, u, h1, h2, h3⟩ := ih.mp h
          exact ⟨i + 1, u, h1, h2, by rw [h3]; congr 1; omega⟩
      · rw [if_neg c] at h
        obtain ⟨i, u, h1, h2, h3⟩ := ih.mp h
        exact ⟨i + 1, u, h1, h2, by rw [h3]; congr 1; omega⟩
    · rintro ⟨i, u, h1, h2, h3⟩
      cases i with
      | zero =>
        have : t = u := by simpa using h1
        subst this
        rw [if_pos h2, h3]
        exact List.mem_cons_self
      | succ i =>
        have hm : x ∈ hitsFrom p (k + 1) r := ih.mpr ⟨i, u, by simpa using h1, h2, by rw [h3]; congr 1; omega⟩
        split
        · exact List.mem_cons_of_mem _ hm
        · exact hm
theorem hits_nd (p : Int) : ∀ (k : Nat) (as : List (List Int)), (hitsFrom p k as).Nodup
  | _, [] => List.nodup_nil
  | k, t :: r => by
    show (if p ∈ t then (k : Int) :: hitsFrom p (k + 1) r else hitsFrom p (k + 1) r).Nodup
    split
    · refine List.nodup_cons.mpr ⟨fun h => ?_, hits_nd p (k + 1) r⟩
      obtain ⟨i, u, _, _, e⟩ := (mem_hitsFrom p (k + 1) r _).mp h
      omega
    · exact hits_nd p (k + 1) r
theorem mem_hits {p : Int} {as : List (List Int)} {n : Int} {t : List Int} (n0 : 0 ≤ n) (ht : as[n.toNat]? = some t) : n ∈ hits p as ↔ p ∈ t := by
  rw [hits, mem_hitsFrom]
  constructor
  · rintro ⟨i, u, h1, h2, h3⟩
    have : n.toNat = i := by omega
    rw [this, h1] at ht
    exact Option.some.inj ht ▸ h2
  · intro h
    exact ⟨n.toNat, t, ht, h, by omega⟩
theorem within_snoc {n : Int} {o : List Int} : ∀ {ns : List Int}, ns.Nodup → n ∉ o → (within ns (o ++ [n])).length = (within ns o).length + (if n ∈ ns then 1 else 0)
  | [], _, _ => rfl
  | x :: xs, nd, hn => by
    obtain ⟨h1, h2⟩ := List.nodup_cons.mp nd
    have ih := within_snoc h2 hn
    unfold within at ih ⊢
    rw [List.filter_cons, List.filter_cons]
    by_cases hx : x = n
    · subst hx
      rw [if_neg h1] at ih
      rw [if_pos (by simp), if_neg (by simpa using hn), if_pos List.mem_cons_self, List.length_cons, ih]
    · have e1 : (x ∈ o ++ [n]) ↔ x ∈ o := by simp [hx]
      by_cases ho : x ∈ o
      · rw [if_pos (by simp [ho]), if_pos (by simp [ho]), List.length_cons, List.length_cons, ih]
        by_cases hm : n ∈ xs
        · rw [if_pos hm, if_pos (List.mem_cons_of_mem _ hm)]
        · rw [if_neg hm, if_neg (fun z => (List.mem_cons.mp z).elim (fun e => hx e.symm) hm)]
      · rw [if_neg (by simp [ho, hx]), if_neg (by simp [ho]), ih]
        by_cases hm : n ∈ xs
        · rw [if_pos hm, if_pos (List.mem_cons_of_mem _ hm)]
        · rw [if_neg hm, if_neg (fun z => (List.mem_cons.mp z).elim (fun e => hx e.symm) hm)]
/-- what is left of a point's ties behind a beginning -/
def leftOf (as : List (List Int)) (o : List Int) (p : Int) : Int := ((hits p as).length : Int) - ((within (hits p as) o).length : Int)
theorem left_on {as : List (List Int)} {o : List Int} {n p : Int} {t : List Int} (n0 : 0 ≤ n) (ht : as[n.toNat]? = some t) (hn : n ∉ o) : leftOf as (o ++ [n]) p = leftOf as o p - (if p ∈ t then 1 else 0) := by
  unfold leftOf
  rw [within_snoc (ns := hits p as) (hits_nd p 0 as) hn]
  by_cases c : p ∈ t
  · rw [if_pos c, if_pos ((mem_hits n0 ht).mpr c)]; omega
  · rw [if_neg c, if_neg (fun z => c ((mem_hits n0 ht).mp z))]; omega
theorem left_front {as : List (List Int)} {o : List Int} {p : Int} : (0 < leftOf as o p ∧ leftOf as o p < ((hits p as).length : Int)) ↔ NW.front o (hits p as) = true := by
  have hw : (within (hits p as) o).length ≤ (hits p as).length := List.length_filter_le _ _
  unfold leftOf NW.front
  rw [Bool.and_eq_true, decide_eq_true_eq, decide_eq_true_eq]
  omega
/-- the law's running maximum -/
def lawW (pts : List (List Int)) (o : List Int) : Nat → Int
  | 0 => 0
  | j + 1 => max (lawW pts o j) ((fb pts (o.take (j + 1)) : Nat) : Int)
theorem fb_nil (pts : List (List Int)) : fb pts [] = 0 := by
  unfold fb
  rw [List.length_eq_zero_iff, List.filter_eq_nil_iff]
  intro ns _
  unfold NW.front within
  have : ns.filter (fun n => decide (n ∈ ([] : List Int))) = [] := List.filter_eq_nil_iff.mpr (by simp)
  rw [this]
  simp
theorem lawW_is (pts : List (List Int)) (o : List Int) : ∀ j, lawW pts o j = max ((List.range j).foldl (fun m i => max m ((fb pts (o.take i) : Nat) : Int)) 0) ((fb pts (o.take j) : Nat) : Int)
  | 0 => by
    show (0 : Int) = max 0 ((fb pts (o.take 0) : Nat) : Int)
    rw [List.take_zero, fb_nil]
    rfl
  | j + 1 => by
    show max (lawW pts o j) _ = _
    rw [lawW_is pts o j, List.range_succ, List.foldl_append]
    rfl
theorem fb_all {pts : List (List Int)} {o : List Int} (h : ∀ ns ∈ pts, ∀ n ∈ ns, n ∈ o) : fb pts o = 0 := by
  unfold fb
  rw [List.length_eq_zero_iff, List.filter_eq_nil_iff]
  intro ns hns
  have : within ns o = ns := List.filter_eq_self.mpr fun n hn => decide_eq_true (h ns hns n hn)
  unfold NW.front
  rw [this]
  simp
theorem lawW_all {m : Int} {as : List (List Int)} {o : List Int} (hO : Ord as.length o) : lawW (ptsOf m as) o o.length = wOf (ptsOf m as) o := by
  rw [lawW_is, List.take_length, fb_all]
  · unfold wOf
    refine Int.max_eq_left ?_
    refine foldl_ind (fun z : Int => 0 ≤ z) (Int.le_refl 0) fun b a _ h => ?_
    omega
  · intro ns hns n hn
    unfold ptsOf at hns
    obtain ⟨p, _, rfl⟩ := List.mem_map.mp hns
    obtain ⟨i, t, h1, _, h3⟩ := (mem_hitsFrom p 0 as n).mp hn
    have hi : i < as.length := (List.getElem?_eq_some_iff.mp h1).1
    exact hO.mem_iff.mpr (mem_below.mpr (by omega))
end K16
end
section
set_option Elab.async false
set_option linter.all false
set_option maxRecDepth 100000
set_option maxHeartbeats 4000000

namespace K16
open PySem L2 NW
section
variable {X : Cx} {tg elt iter : Expr} {ifs : List Expr} {scope : Scope} {pos : Pos} {g : TG} {tc : TT} {te : TE} {wi : TI}
theorem pe_compO (osc : Scope) (own fr : List Str) (ix : List Nat) (hc : X.calm = true) (ho : X.env.scope = osc) (hok : compOkC osc scope = true) (hfr : FreeAt X scope fr ix) (hit : PI X tg iter wi)
    (hg : ∀ fp s H, PG (cxCompC X (own ++ fr) scope fp s H) tg g) (hi : ∀ fp s H, PIfs (cxCompC X (own ++ fr) scope fp s H) ifs tc) (he : ∀ fp s H, PE (cxCompC X (own ++ fr) scope fp s H) elt te)
    (hs : ∀ x, foldedSetIterable iter X.env x = pure x := by intro _; rfl) : PE X (.ListComp elt [⟨tg, iter, ifs, 0⟩] scope pos) (tComp own ix wi g tc te) :=
  pe_compC own fr ix hc (ho ▸ hok) hfr hit hg hi he hs
end
/-- the block's scope as it stands in the def's -/
def relab (o sc : Scope) : Scope := { sc with names := sc.names.map fun (n, k) => if (k == NameKind.free && o.kind == .function && o.names.lookup n == some .cell) then (n, NameKind.cell) else (n, k) }
/-- the i-th statement's list comprehension's scope -/
def compScope (st : Stmt) : Scope := match st with
  | .Assign _ (.ListComp _ _ sc _) _ => sc
  | _ => defScope st

def spWidth (K : PySem.W.Frag) : Sp := fun vs H Q _ => ∃ (l lo : Addr) (m : Int) (as : List (List Int)) (ns : List Int), vs = [.int m, .ref l, .ref lo] ∧ rLst K (rPair K) H as (.ref l) ∧ (∀ t ∈ as, OkTie m t) ∧ as.length ≤ 12 ∧ 1 ≤ m ∧ m ≤ 10 ∧ SqL K H lo (ns.map V.int) ∧ Ord as.length ns ∧
  ∀ (H' : Hp), Same H H' → Q (.int (wOf (ptsOf m as) ns)) H'
/-- a number for each point -/
def tabP (m : Nat) (g : Int → Int) : List Int := (List.range m).map fun p : Nat => g (p : Int)
theorem tabP_len (m : Nat) (g : Int → Int) : (tabP m g).length = m := by unfold tabP; simp
theorem tabP_get {m : Nat} {g : Int → Int} {p : Nat} (h : p < m) : (tabP m g)[p]? = some (g p) := by unfold tabP; rw [List.getElem?_map, List.getElem?_range h]; rfl
theorem tabP_at {m : Nat} {g : Int → Int} {x : Int} (h0 : 0 ≤ x) (h1 : x < m) : atI ((tabP m g).map V.int) x = some (.int (g x)) := by
  have e : x = ((x.toNat : Nat) : Int) := by omega
  have z : ((tabP m g).map V.int)[x.toNat]? = some (.int (g x)) := by
    rw [List.getElem?_map, tabP_get (by omega), ← e]
    rfl
  have := atI_nat z
  rw [← e] at this
  exact this
theorem tabP_set {m : Nat} {g : Int → Int} {x v : Int} (h0 : 0 ≤ x) (h1 : x < m) : ((tabP m g).map V.int).set x.toNat (.int v) = (tabP m fun p => if p = x then v else g p).map V.int := by
  refine List.ext_getElem? fun i => ?_
  by_cases hi : i < m
  · rw [List.getElem?_map, tabP_get hi]
    by_cases e : i = x.toNat
    · subst e
      rw [List.getElem?_set_self (by rw [List.length_map, tabP_len]; exact hi)]
      have : ((x.toNat : Nat) : Int) = x := by omega
      simp [this]
    · rw [List.getElem?_set_ne (fun z => e z.symm), List.getElem?_map, tabP_get hi]
      have : ¬ ((i : Int) = x) := by omega
      simp [this]
  · rw [List.getElem?_eq_none (by rw [List.length_set, List.length_map, tabP_len]; omega), List.getElem?_eq_none (by rw [List.length_map, tabP_len]; omega)]
theorem tabP_snoc {m : Nat} {g : Int → Int} : tabP (m + 1) g = tabP m g ++ [g m] := by unfold tabP; rw [List.range_succ, List.map_append]; rfl
theorem tabP_eq {m : Nat} {g h : Int → Int} (e : ∀ p : Int, g p = h p) : tabP m g = tabP m h := by
  have : g = h := funext e
  rw [this]
theorem ix_of {n : Nat} {x : Int} (h0 : 0 ≤ x) (h1 : x < n) : ixN n x = some x.toNat := by unfold ixN; rw [if_pos h0, if_pos h1]
section
variable {P : Program} {w : World} {K : PySem.W.Frag} {mg : Str → Option Value} {base : Heap} {f C : Addr} {fd : FuncData}
theorem scWidth : FnScope ["_law_points", "_law_rows", "_law_order_here", "_law_many", "_law_left", "_law_width_here", "_law_k", "_law_point"] ["_law_points", "_law_rows", "_law_order_here"] (defScope sWidth) := ⟨rfl, rfl, rfl, by decide +kernel, rfl, by decide +kernel, by decide +kernel⟩
theorem ok_width (F : Fun K "_law_width" "_law_width" sWidth f fd) (T : Txt K mg C) : FnOk P w K mg base CX0 1 f fd ["_law_points", "_law_rows", "_law_order_here"] (spWidth K) := by
  refine F.ok scWidth (fun vs H Q E h => ?_) (fun cdv A outer s H vs Q E hr h => ?_)
  · obtain ⟨l, lo, m, as, ns, rfl, _⟩ := h
    rfl
  obtain ⟨l, lo, m, as, ns, rfl, ⟨l', xs, el, hl, px⟩, ok, a12, m1, m10, hlo, hO, q⟩ := h
  cases el
  refine ⟨_, pss_cons (ps_set (i := 3) scWidth.nd rfl (Or.inr rfl) (pe_compO (defScope sWidth) ["_law_point"] ["_law_rows"] [1] rfl rfl (by decide +kernel) ⟨⟨rfl, by decide +kernel⟩, trivial⟩ (pi_range1 rfl T.range (pa_cons (pv 0) pa_nil))
      (fun _ _ _ => pg_name (i := 0) (show ((["_law_point"] : List Str) ++ (["_law_rows"] : List Str)).Nodup by decide +kernel) rfl (Or.inr rfl)) (fun _ _ _ => pifs_nil)
      (fun _ _ _ => pe_callB (call_len_seqK (K := K) rfl) rfl T.len PySem.boot_len (pa_cons (pe_comp (relab (defScope sWidth) (compScope ((defBody sWidth).getD 0 sWidth))) ["_law_tie"] ["_law_point"] [0] rfl rfl (by decide +kernel) ⟨⟨rfl, by decide +kernel⟩, trivial⟩ (pi_listK (K := K) rfl (pv 1))
        (fun _ _ _ => pg_name (i := 0) (show ((["_law_tie"] : List Str) ++ (["_law_point"] : List Str)).Nodup by decide +kernel) rfl (Or.inl rfl))
        (fun _ _ _ => pifs_one (pt_cmpR (op_in_seqK (K := K) rfl) (pv 1) (pv 0) rfl)) (fun _ _ _ => pv 0)) pa_nil))))
    (pss_cons (ps_set (i := 4) scWidth.nd rfl (Or.inr rfl) (pe_callTy call_list_of rfl T.list PyProof.Rows.boot_list (pa_cons (pv 3) pa_nil)))
    (pss_cons (ps_set (i := 5) scWidth.nd rfl (Or.inl rfl) pe_int)
    (pss_cons (ps_for PassesOwn.never rfl (pi_list (pv 2)) (pg_name (i := 6) scWidth.nd rfl (Or.inl rfl))
      (pss_mid (ps_for PassesOwn.never rfl (pi_tup (pe_ix ix_list (pv 1) (pv 6) (fun _ _ => rfl))) (pg_name (i := 7) scWidth.nd rfl (Or.inl rfl))
        (pss_one (ps_asg (pe_op op_sub (pe_ix ix_list (pv 4) (pv 7) (fun _ _ => rfl)) pe_int) (pg_sub (pv 4) (pv 7) set_list))))
      (pss_one (ps_set (i := 5) scWidth.nd rfl (Or.inl rfl) (pe_callB (call_max2 rfl) rfl T.max PyProof.Rows.boot_max (pa_cons (pv 5) (pa_cons (pe_callB call_len_seq rfl T.len PySem.boot_len (pa_cons
        (pe_comp (defScope sWidth) ["_law_point"] ["_law_left", "_law_many"] [4, 3] rfl rfl (by decide +kernel) ⟨⟨rfl, by decide +kernel⟩, ⟨rfl, by decide +kernel⟩, trivial⟩ (pi_range1 rfl T.range (pa_cons (pv 0) pa_nil))
          (fun _ _ _ => pg_name (i := 0) (show ((["_law_point"] : List Str) ++ (["_law_left", "_law_many"] : List Str)).Nodup by decide +kernel) rfl (Or.inl rfl))
          (fun _ _ _ => pifs_one (pt_chain op_lt op_lt pe_int (pe_ix (ix_listK (K := K) rfl) (pv 1) (pv 0) (fun _ _ => rfl)) (pe_ix (ix_listK (K := K) rfl) (pv 2) (pv 0) (fun _ _ => rfl)))) (fun _ _ _ => pv 0)) pa_nil)) pa_nil)))))))
    (pss_one (ps_ret (pv 5)))))), ?_⟩
  have lx : as.length = xs.length := Paired.length px
  have ln : ns.length = as.length := by rw [hO.length_eq, below_len]
  have nnd : ns.Nodup := (List.Perm.nodup_iff hO).mpr below_nd
  have mm : ((m.toNat : Nat) : Int) = m := by omega
  -- how many ties each point has
  refine ⟨_, rfl, m, rfl, by omega, by omega, fun M hM => ?_⟩
  refine turns_range (lo := 0) (n := m.toNat) (fun i τ H2 => ∃ (n : Option V), τ = [n, some (.ref l)] ∧ Same H H2 ∧ H2 M = some (.lst ((tabP i fun p => ((hits p as).length : Int)).map V.int))) ⟨none, rfl, Same.new hM _, upd_same⟩ ?_ ?_
  · rintro i τ H2 hi ⟨n, rfl, s2, e2⟩
    refine yesN ?_
    refine ⟨_, rfl, l, rfl, ⟨_, s2.seq hl⟩, fun D2 hD2 => ?_⟩
    refine turns_list (xs := xs) (fun j τ H3 => ∃ (n : Option V) (ys : List V), τ = [n, some (.int (0 + (i : Int)))] ∧ Same H2 H3 ∧ H3 D2 = some (.lst ys) ∧ ys.length = (hits (0 + (i : Int)) (as.take j)).length) ⟨none, [], rfl, Same.new hD2 _, upd_same, rfl⟩
      (fun j τ H3 _ ⟨_, _, _, s3, _⟩ => (s2.trans s3).seq hl) ?_ ?_
    · rintro j y τ H3 hy ⟨n, ys, rfl, s3, e3, hly⟩
      obtain ⟨tie, ht, rt⟩ := Paired.get px hy
      obtain ⟨q1, rfl, hq1⟩ := rPair_seq rt
      have lj : (hits (0 + (i : Int)) (as.take j)).length ≤ 12 := by
        have : (hits (0 + (i : Int)) (as.take j)).length ≤ (as.take j).length := hits_len (0 + (i : Int)) 0 (as.take j)
        rw [List.length_take] at this
        omega
      refine ⟨_, rfl, _, rfl, q1, _, rfl, .inr ((s2.trans s3).ts.seq hq1), rfl, flat_ints tie, _, rfl, ?_⟩
      rw [if_neg (show ¬ (false = true) by decide), inV_ints]
      refine ite2 (fun c => ?_) (fun c => ?_)
      · have c' : (0 + (i : Int)) ∈ tie := of_decide_eq_true c
        refine ⟨_, rfl, ys, e3, small1000 (by omega), _, _, rfl, fun b o e => ?_, upd_same, ?_⟩
        · rw [upd_ne (ne_of_none e hD2)]
          exact s3 b o e
        · rw [hits_take ht, if_pos c', List.length_append, List.length_append, hly]; rfl
      · have c' : ¬ (0 + (i : Int)) ∈ tie := fun z => c (decide_eq_true z)
        refine ⟨_, ys, rfl, s3, e3, ?_⟩
        rw [hits_take ht, if_neg c', List.append_nil]; exact hly
    · rintro τ H3 ⟨n, ys, rfl, s3, e3, hly⟩
      rw [← lx, List.take_length] at hly
      refine ⟨D2, ys, rfl, .inl (SqL.of e3), _, s3 _ _ e2, ?_, _, rfl, fun b o e => ?_, ?_⟩
      · rw [List.length_map, tabP_len]
        exact small1000 (by omega)
      · rw [upd_ne (ne_of_none e hM)]
        exact s3 _ _ (s2 b o e)
      · rw [upd_same, tabP_snoc, List.map_append, hly, Int.zero_add]
        rfl
  rintro τ H1 ⟨n, rfl, s1, e1⟩
  -- left
  refine ⟨_, rfl, M, _, rfl, .inl (SqL.of e1), fun L hL => ?_⟩
  have eL0 : tabP m.toNat (fun p => ((hits p as).length : Int)) = tabP m.toNat (leftOf as []) := tabP_eq fun p => by
    unfold leftOf within
    have : (hits p as).filter (fun n => decide (n ∈ ([] : List Int))) = [] := List.filter_eq_nil_iff.mpr (by simp)
    rw [this]
    simp
  refine ⟨_, rfl, lo, rfl, ⟨_, (s1.trans (Same.new hL _)).seq hlo⟩, for_list (K := K) (a := lo) (xs := ns.map V.int) (fun j σ H5 => ∃ (v6 v7 : Option V), σ = [some (.int m), some (.ref l), some (.ref lo), some (.ref M), some (.ref L), some (.int (lawW (ptsOf m as) ns j)), v6, v7] ∧ Same H1 H5 ∧ H5 L = some (.lst ((tabP m.toNat (leftOf as (ns.take j))).map V.int)))
    ⟨none, none, rfl, Same.new hL _, by rw [upd_same, eL0]; rfl⟩ (fun j σ H5 _ ⟨_, _, _, s5, _⟩ => (s1.trans s5).seq hlo) ?_ ?_⟩
  · rintro j y σ H5 hy ⟨v6, v7, rfl, s5, e5⟩
    obtain ⟨k, hk, rfl⟩ := int_at hy
    have hkm := hO.mem_iff.mp (List.mem_of_getElem? hk)
    obtain ⟨k0, k1⟩ := mem_below.mp hkm
    have ek : k = ((k.toNat : Nat) : Int) := by omega
    have hkx : k.toNat < xs.length := by omega
    obtain ⟨tie, ht, rt⟩ := Paired.get px (List.getElem?_eq_getElem hkx)
    obtain ⟨q1, eq1, hq1⟩ := rPair_seq rt
    obtain ⟨u, v, rfl, u0, u1, v0, v1, uv⟩ := ok tie (List.mem_of_getElem? ht)
    have at_ : atI xs k = some (.ref q1) := by
      have := atI_nat (List.getElem?_eq_getElem hkx)
      rw [← ek, eq1] at this
      exact this
    have knt : k ∉ ns.take j := fun z => by
      obtain ⟨i, hi⟩ := List.mem_iff_getElem?.mp z
      have hij : i < j := by
        have := (List.getElem?_eq_some_iff.mp hi).1
        rw [List.length_take] at this
        omega
      rw [List.getElem?_take_of_lt hij] at hi
      obtain ⟨h1, e1⟩ := List.getElem?_eq_some_iff.mp hi
      obtain ⟨h2, e2⟩ := List.getElem?_eq_some_iff.mp hk
      exact List.pairwise_iff_getElem.mp nnd i j h1 h2 hij (e1.trans e2.symm)
    have hq5 : SqT K H5 q1 [.int u, .int v] := (s1.trans s5).ts.seq hq1
    refine ⟨fun σ' H' => ∃ (v7 : Option V), σ' = [some (.int m), some (.ref l), some (.ref lo), some (.ref M), some (.ref L), some (.int (lawW (ptsOf m as) ns j)), some (.int k), v7] ∧ Same H1 H' ∧ H' L = some (.lst ((tabP m.toNat (leftOf as (ns.take (j + 1)))).map V.int)), ?_, ?_⟩
    · refine ⟨_, rfl, _, rfl, l, _, _, _, rfl, rfl, (s1.trans s5).seq hl, at_, q1, rfl, ⟨_, hq5⟩, for_tup (K := K) (a := q1) (xs := [.int u, .int v]) (fun i σ H6 => ∃ (v7 : Option V), σ = [some (.int m), some (.ref l), some (.ref lo), some (.ref M), some (.ref L), some (.int (lawW (ptsOf m as) ns j)), some (.int k), v7] ∧ Same H1 H6 ∧ TSm H5 H6 ∧ H6 L = some (.lst ((tabP m.toNat fun p => leftOf as (ns.take j) p - ((([u, v].take i).count p : Nat) : Int)).map V.int)))
        ⟨_, rfl, s5, TSm.refl _, by rw [e5]; congr 3; exact tabP_eq fun p => by simp⟩ (fun i σ H6 _ ⟨_, _, _, t6, _⟩ => t6.seq hq5) ?_ ?_⟩
      · rintro i y σ H6 hy ⟨v7, rfl, s6, t6, e6⟩
        obtain ⟨x, hx, rfl⟩ : ∃ x : Int, [u, v][i]? = some x ∧ y = .int x := int_at (ns := [u, v]) hy
        have xm : 0 ≤ x ∧ x < m := by
          have := List.mem_of_getElem? hx
          simp at this
          omega
        refine ⟨_, rfl, _, rfl, L, _, _, _, rfl, rfl, SqL.of e6, tabP_at xm.1 (by omega), _, _, rfl, rfl, ?_⟩
        refine ⟨_, rfl, _, rfl, L, _, _, _, rfl, rfl, e6, ix_of xm.1 (by rw [List.length_map, tabP_len]; omega), ?_⟩
        rw [tabP_set xm.1 (by omega)]
        refine ⟨_, rfl, fun b o e => ?_, fun b o e z => ?_, ?_⟩
        · rw [upd_ne (ne_of_none e hL)]
          exact s6 b o e
        · have := t6 b o e z
          rw [upd_ne (fun eb => ?_)]
          · exact this
          · subst eb
            rw [e6] at this
            cases this
            obtain ⟨ys, z⟩ := z
            rcases z with z | ⟨_, z⟩ <;> cases z
        · rw [upd_same]
          congr 3
          refine tabP_eq fun p => ?_
          rw [take_snoc hx, List.count_append]
          by_cases c : p = x
          · subst c
            rw [if_pos rfl]
            simp
            omega
          · rw [if_neg c]
            have : List.count p [x] = 0 := List.count_eq_zero.mpr (by simpa using c)
            rw [this]
            simp
      · rintro σ H6 ⟨v7, rfl, s6, t6, e6⟩
        refine ⟨v7, rfl, s6, ?_⟩
        rw [e6]
        congr 3
        refine tabP_eq fun p => ?_
        rw [take_snoc hk, left_on k0 ht knt]
        show _ - (([u, v].count p : Nat) : Int) = _
        by_cases c1 : p = u
        · subst c1
          have : List.count p [p, v] = 1 := by simp [List.count_cons, uv, Ne.symm uv]
          rw [this, if_pos (by simp)]; rfl
        · by_cases c2 : p = v
          · subst c2
            have : List.count p [u, p] = 1 := by simp [List.count_cons, uv, c1, Ne.symm c1]
            rw [this, if_pos (by simp)]; rfl
          · have : List.count p [u, v] = 0 := List.count_eq_zero.mpr (by simp [c1, c2])
            rw [this, if_neg (by simp [c1, c2])]; rfl
    · rintro σ H6 ⟨v7, rfl, s6, e6⟩
      have e16 := s6 _ _ e1
      refine ⟨_, rfl, _, rfl, m, rfl, by omega, by omega, fun D3 hD3 => ?_⟩
      refine turns_range (lo := 0) (n := m.toNat) (fun i τ H7 => ∃ (n : Option V) (ys : List V), τ = [n, some (.ref L), some (.ref M)] ∧ Same H6 H7 ∧ H7 D3 = some (.lst ys) ∧ ys.length = (((ptsOf m as).take i).filter (NW.front (ns.take (j + 1)))).length) ⟨none, [], rfl, Same.new hD3 _, upd_same, rfl⟩ ?_ ?_
      · rintro i τ H7 hi ⟨n, ys, rfl, s7, e7, hly⟩
        have hpt : (ptsOf m as)[i]? = some (hits (0 + (i : Int)) as) := by
          unfold ptsOf below
          rw [List.getElem?_map, List.getElem?_map, List.getElem?_range hi, Int.zero_add]
          rfl
        have ef : (((ptsOf m as).take (i + 1)).filter (NW.front (ns.take (j + 1)))).length = (((ptsOf m as).take i).filter (NW.front (ns.take (j + 1)))).length + (if NW.front (ns.take (j + 1)) (hits (0 + (i : Int)) as) = true then 1 else 0) := by
          rw [take_snoc hpt, List.filter_append, List.length_append]
          by_cases c : NW.front (ns.take (j + 1)) (hits (0 + (i : Int)) as) = true
          · rw [if_pos c, List.filter_cons, if_pos c]; rfl
          · rw [if_neg c, List.filter_cons, if_neg c]; rfl
        have le : (((ptsOf m as).take i).filter (NW.front (ns.take (j + 1)))).length ≤ 10 := by
          have : (((ptsOf m as).take i).filter (NW.front (ns.take (j + 1)))).length ≤ ((ptsOf m as).take i).length := List.length_filter_le _ _
          rw [List.length_take] at this
          omega
        have fin : ∀ c : Bool, c = NW.front (ns.take (j + 1)) (hits (0 + (i : Int)) as) → putD D3 (fun τ H7 => ∃ (n : Option V) (ys : List V), τ = [n, some (.ref L), some (.ref M)] ∧ Same H6 H7 ∧ H7 D3 = some (.lst ys) ∧ ys.length = (((ptsOf m as).take (i + 1)).filter (NW.front (ns.take (j + 1)))).length) (tVar 0) [some (.int (0 + (i : Int))), some (.ref L), some (.ref M)] c H7 := fun c ec => by
          unfold putD
          cases hc : c with
          | true =>
            rw [if_pos rfl]
            refine ⟨_, rfl, ys, e7, small1000 (by omega), _, _, rfl, fun b o e => ?_, upd_same, ?_⟩
            · rw [upd_ne (ne_of_none e hD3)]
              exact s7 b o e
            · rw [ef, ← ec, hc, if_pos rfl, List.length_append, hly]; rfl
          | false =>
            rw [if_neg (by decide)]
            refine ⟨_, ys, rfl, s7, e7, ?_⟩
            rw [ef, ← ec, hc, if_neg (by decide), hly]
            rfl
        refine ⟨_, rfl, _, rfl, L, _, _, _, rfl, rfl, SqL.of (s7 _ _ e6), tabP_at (by omega) (by omega), _, _, rfl, rfl, _, rfl, ?_⟩
        have lf := left_front (as := as) (o := ns.take (j + 1)) (p := 0 + (i : Int))
        by_cases c1 : (0 : Int) < leftOf as (ns.take (j + 1)) (0 + (i : Int))
        · refine iteP c1 ⟨_, rfl, _, rfl, M, _, _, _, rfl, rfl, SqL.of (s7 _ _ e16), tabP_at (by omega) (by omega), _, _, rfl, rfl, _, rfl, ?_⟩
          refine fin _ ?_
          rw [Bool.eq_iff_iff, decide_eq_true_eq, ← lf]
          exact ⟨fun z => ⟨c1, z⟩, fun z => z.2⟩
        · refine iteN c1 ⟨_, rfl, ?_⟩
          refine fin _ ?_
          exact (Bool.eq_false_iff.mpr fun z => c1 (lf.mpr z).1).symm
      · rintro τ H7 ⟨n, ys, rfl, s7, e7, hly⟩
        have lp : (ptsOf m as).length = m.toNat := by unfold ptsOf; rw [List.length_map, below_len]
        rw [← lp, List.take_length] at hly
        refine ⟨D3, ys, rfl, .inl (SqL.of e7), _, _, rfl, ?_⟩
        rw [max_is]
        refine ⟨some (.int k), v7, ?_, s6.trans s7, s7 _ _ e6⟩
        rw [hly]
        rfl
  · rintro σ H5 ⟨v6, v7, rfl, s5, e5⟩
    refine ⟨_, rfl, ?_⟩
    rw [List.length_map, lawW_all (by rw [← ln] at hO ⊢; exact hO)]
    exact q _ (s1.trans s5)
end
end K16
end
section
set_option Elab.async false
set_option linter.all false
set_option maxRecDepth 100000
set_option maxHeartbeats 4000000

namespace K16
open PySem L2 NW
theorem pts_srt {m : Int} {as : List (List Int)} : ptsOf m (as.map srt) = ptsOf m as := by
  unfold ptsOf
  congr 1
  funext p
  exact hits_srt p 0 as
theorem okties_take {m : Int} {as : List (List Int)} (h : OkTies m as) (k : Nat) : OkTies m (as.take k) := by
  refine ⟨fun t ht => h.ok t (List.mem_of_mem_take ht), ?_⟩
  rw [List.map_take]
  exact h.nd.sublist (List.take_sublist _ _)
theorem srt_minmax (a b : Int) : srt [a, b] = [if b < a then b else a, if b > a then b else a] := by
  rw [srt_pair]
  split
  · rw [if_neg (by omega)]
  · by_cases e : b > a
    · rw [if_pos e]
    · rw [if_neg e]
      have : b = a := by omega
      rw [this]
theorem cut_int (ns : List Int) (lo hi : Option Int) : ∃ cs : List Int, cutV (ns.map V.int) lo hi = cs.map V.int ∧ cs.length ≤ ns.length := by
  refine ⟨(ns.drop (HT.sIx ns.length 0 lo)).take (HT.sIx ns.length ns.length hi - HT.sIx ns.length 0 lo), ?_, ?_⟩
  · unfold cutV
    rw [List.length_map, List.map_take, List.map_drop]
  · rw [List.length_take, List.length_drop]
    omega
theorem cut_6 (xs : List V) : ∃ k, cutV xs none (some 6) = xs.take k := ⟨_, rfl⟩
theorem Paired.takeP {α β : Type} {F : α → β → Prop} : ∀ {l₁ : List α} {l₂ : List β} (k : Nat), Paired F l₁ l₂ → Paired F (l₁.take k) (l₂.take k)
  | _, _, 0, _ => .nil
  | _, _, _ + 1, .nil => .nil
  | _, _, k + 1, .cons h t => .cons h (Paired.takeP k t)
/-- a list of orders -/
def Ors (K : PySem.W.Frag) (n : Nat) (H : Hp) (xs : List V) : Prop := ∀ x ∈ xs, ∃ (a : Addr) (ns : List Int), x = .ref a ∧ SqL K H a (ns.map V.int) ∧ Ord n ns
section
variable {P : Program} {w : World} {K : PySem.W.Frag} {mg : Str → Option Value} {base : Heap} {f C : Addr} {fd : FuncData} {tm : Addr}
theorem scLaw : FnScope ["_law_script", "_law_points", "_law_ties", "_law_web_here", "_law_found", "_law_width_here", "_law_told", "_law_others", "_law_order_here", "_law_kept_order"] ["_law_script"] (defScope sLaw) := ⟨rfl, rfl, rfl, by decide +kernel, rfl, by decide +kernel, by decide +kernel⟩
theorem ok_law {fC fW fI fS fT fN fO fD fF fX : Addr} {fdC fdW fdI fdS fdT fdN fdO fdD fdF fdX : FuncData} (F : Fun K "law" "law" sLaw f fd) (T : Txt K mg C) (rv : mg "reversed" = none)
    (GC : FnOk P w K mg base CX0 1 fC fdC ["_law_script", "_law_k"] (spCell K)) (bC : Binds K fdC ["_law_script", "_law_k"] []) (kC : PySem.W.keepIn K (.ref fC) = true) (mC : mg "_law_cell" = some (.ref fC))
    (GW : FnOk P w K mg base CX0 3 fW fdW ["_law_script"] (spWeb K)) (bW : Binds K fdW ["_law_script"] []) (kW : PySem.W.keepIn K (.ref fW) = true) (mW : mg "_law_web" = some (.ref fW))
    (M : Mk K C fI) (GI : FnOk P w K mg base CX0 3 fI fdI ["self", "many", "ties"] (spInit K C)) (bI : Binds K fdI ["self", "many", "ties"] [])
    (GS : FnOk P w K mg base CX0 1 fS fdS ["self"] (spSize K C)) (bS : Binds K fdS ["self"] []) (mS : Meth K C "size" fS)
    (GT : FnOk P w K mg base CX0 1 fT fdT ["self"] (spTies K C)) (bT : Binds K fdT ["self"] []) (mT : Meth K C "ties" fT)
    (GN : FnOk P w K mg base (CXF P w) 4 fN fdN ["web"] (spNarrow K C tm)) (bN : Binds K fdN ["web"] []) (kN : PySem.W.keepIn K (.ref fN) = true) (mN : mg "narrow_order" = some (.ref fN))
    (GO : FnOk P w K mg base CX0 2 fO fdO ["_law_cell_here", "_law_n"] spOrder) (bO : Binds K fdO ["_law_cell_here", "_law_n"] []) (kO : PySem.W.keepIn K (.ref fO) = true) (mO : mg "_law_order" = some (.ref fO))
    (GD : FnOk P w K mg base CX0 1 fD fdD ["_law_points", "_law_rows", "_law_order_here"] (spWidth K)) (bD : Binds K fdD ["_law_points", "_law_rows", "_law_order_here"] []) (kD : PySem.W.keepIn K (.ref fD) = true) (mD : mg "_law_width" = some (.ref fD))
    (GF : FnOk P w K mg base CX0 5 fF fdF ["_law_web_here"] (spRefuse K C)) (bF : Binds K fdF ["_law_web_here"] []) (kF : PySem.W.keepIn K (.ref fF) = true) (mF : mg "_law_refused" = some (.ref fF))
    (GX : FnOk P w K mg base CX0 1 fX fdX ["_law_found", "_law_n"] (spIsOrd K)) (bX : Binds K fdX ["_law_found", "_law_n"] []) (kX : PySem.W.keepIn K (.ref fX) = true) (mX : mg "_law_is_order" = some (.ref fX)) :
    FnOk P w K mg base CX0 6 f fd ["_law_script"] (spLaw K) := by
  refine F.ok scLaw (fun vs H Q E h => ?_) (fun cdv A outer s H vs Q E hr h => ?_)
  · obtain ⟨a, ns, rfl, _⟩ := h
    rfl
  obtain ⟨a, ns, rfl, hS, h63, q⟩ := h
  have hr1 : Room 1 _ := hr.mono (by decide)
  have hr2 : Room 2 _ := hr.mono (by decide)
  have hr3 : Room 3 _ := hr.mono (by decide)
  have hr4 : Room 4 _ := hr.mono (by decide)
  refine ⟨_, pss_cons (ps_asg (pe_call GW hr3 rfl mW kW bW .nil pass0 (pa_cons (pv 0) pa_nil)) (pg_tup rfl (pgs_cons (pg_name (i := 1) scLaw.nd rfl (Or.inl rfl)) (pgs_cons (pg_name (i := 2) scLaw.nd rfl (Or.inr rfl)) pgs_nil))))
    (pss_mid (ps_if (pt_cmpR op_ne (pe_op op_mod (pe_op op_fdiv (pe_call GC hr1 rfl mC kC bC .nil pass0 (pa_cons (pv 0) (pa_cons pe_int pa_nil))) pe_int) pe_int) pe_int (nomark _)) (pss_one (ps_set (i := 2) scLaw.nd rfl (Or.inr rfl) (pe_slice sl_list (pv 2) po_none (po_some pe_int)))) pss_nil)
    (pss_cons (ps_set (i := 3) scLaw.nd rfl (Or.inl rfl) (pe_make M GI hr4 rfl T.mgC bI .nil pass0 (pa_cons (pv 1) (pa_cons (pv 2) pa_nil))))
    (pss_cons (ps_if (pt_cmpR op_gt (pe_callB call_len_seq rfl T.len PySem.boot_len (pa_cons (pv 2) pa_nil)) pe_int (nomark _)) (pss_one (ps_ret (pe_and (pe_call GF hr rfl mF kF bF .nil pass0 (pa_cons (pv 3) pa_nil)) (pe_one (pe_cmpR op_eq (pe_meth0 (pv 3) T.cl mS GS hr1 bS .nil pass0) (pv 1) (nomark _)))))) pss_nil)
    (pss_cons (ps_set (i := 4) scLaw.nd rfl (Or.inl rfl) (pe_call GN hr4 rfl mN kN bN .nil passN (pa_cons (pv 3) pa_nil)))
    (pss_cons (ps_if (pt_not (pt_val (pe_call GX hr1 rfl mX kX bX .nil pass0 (pa_cons (pv 4) (pa_cons (pe_callB call_len_seq rfl T.len PySem.boot_len (pa_cons (pv 2) pa_nil)) pa_nil))))) (pss_one (ps_ret pe_bl)) pss_nil)
    (pss_cons (ps_set (i := 5) scLaw.nd rfl (Or.inl rfl) (pe_call GD hr1 rfl mD kD bD .nil pass0 (pa_cons (pv 1) (pa_cons (pv 2) (pa_cons (pv 4) pa_nil)))))
    (pss_cons (ps_set (i := 6) scLaw.nd rfl (Or.inl rfl) (pe_callTy (call_list_rng rfl) rfl T.list PyProof.Rows.boot_list (pa_cons (pe_callTy call_range1 rfl T.range PyProof.Rows.boot_range (pa_cons (pe_callB call_len_seq rfl T.len PySem.boot_len (pa_cons (pv 2) pa_nil)) pa_nil)) pa_nil)))
    (pss_cons (ps_set (i := 7) scLaw.nd rfl (Or.inl rfl) (pe_op op_addL (pe_lst (pa_cons (pv 6) (pa_cons (pe_lrev rfl rfl T.list rfl rv (pv 6)) pa_nil)))
      (pe_comp (defScope sLaw) ["_law_cell_here"] ["_law_ties"] [2] rfl rfl (by decide +kernel) ⟨⟨rfl, by decide +kernel⟩, trivial⟩ (pi_list (pe_slice sl_list (pv 0) (po_some pe_int) (po_some pe_int)))
        (fun _ _ _ => pg_name (i := 0) (show ((["_law_cell_here"] : List Str) ++ (["_law_ties"] : List Str)).Nodup by decide +kernel) rfl (Or.inl rfl)) (fun _ _ _ => pifs_nil)
        (fun _ _ _ => pe_call GO hr2 rfl mO kO bO .nil pass0 (pa_cons (pv 0) (pa_cons (pe_callB (call_len_seqK (K := K) rfl) rfl T.len PySem.boot_len (pa_cons (pv 1) pa_nil)) pa_nil))))))
    (pss_cons (ps_for PassesOwn.never rfl (pi_list (pv 7)) (pg_name (i := 8) scLaw.nd rfl (Or.inl rfl))
      (pss_one (ps_if (pt_cmpR op_lt (pe_call GD hr1 rfl mD kD bD .nil pass0 (pa_cons (pv 1) (pa_cons (pv 2) (pa_cons (pv 8) pa_nil)))) (pv 5) (nomark _)) (pss_one (ps_ret pe_bl)) pss_nil)))
    (pss_cons (ps_set (i := 9) scLaw.nd rfl (Or.inl rfl) (pe_callTy call_list_of rfl T.list PyProof.Rows.boot_list (pa_cons (pv 4) pa_nil)))
    (pss_cons (ps_expr (pe_bm0 PySem.F.plainAttrs_list PySem.F.slot_list_clear PySem.F.type_list_clear mt_clear (pv 4)))
    (pss_cons (ps_if (pt_cmpR (op_neL dat_int (un_of hr)) (pe_call GN hr4 rfl mN kN bN .nil passN (pa_cons (pv 3) pa_nil)) (pv 9) rfl) (pss_one (ps_ret pe_bl)) pss_nil)
    (pss_one (ps_ret (pe_cmpR (op_eqL (dat_tup dat_int) (un_of hr)) (pe_meth0 (pv 3) T.cl mT GT hr1 bT .nil pass0)
      (pe_comp (defScope sLaw) ["_law_tie"] [] [] rfl rfl (by decide +kernel) trivial (pi_list (pv 2)) (fun _ _ _ => pg_name (i := 0) (show ((["_law_tie"] : List Str) ++ ([] : List Str)).Nodup by decide +kernel) rfl (Or.inl rfl)) (fun _ _ _ => pifs_nil)
        (fun _ _ _ => pe_tup (pa_cons (pe_callB (min_pairK (K := K) rfl rfl) rfl T.min PyProof.Rows.boot_min (pa_cons (pv 0) pa_nil)) (pa_cons (pe_callB (max_pairK (K := K) rfl rfl) rfl T.max PyProof.Rows.boot_max (pa_cons (pv 0) pa_nil)) pa_nil)))) rfl))))))))))))))), ?_⟩
  -- points, ties
  refine ⟨_, rfl, a, ns, rfl, hS, fun t l0 z xs0 as0 H0 s0 et el0 nl0 pl0 z1 z10 h120 ok0 => ?_⟩
  refine ⟨t, _, rfl, SqT.of et, rfl, _, _, rfl, _, _, rfl, rfl, ?_⟩
  -- the first six alone
  refine ⟨fun σ' H' => ∃ (l : Addr) (xs : List V) (as : List (List Int)), σ' = [some (.ref a), some (.int z), some (.ref l), none, none, none, none, none, none, none] ∧ Same H H' ∧ H' l = some (.lst xs) ∧ Paired (rPair K H') as xs ∧ as.length ≤ 12 ∧ OkTies z as, ?_, ?_⟩
  · refine ⟨_, rfl, a, ns, 0, rfl, s0.seq hS, by decide, fun c => ?_⟩
    refine ⟨_, _, rfl, rfl, ⟨by decide, by decide⟩, _, _, rfl, rfl, (by show (0 : Int) < 8; decide), rfl, _, rfl, ?_⟩
    refine ite2 (fun _ => ?_) (fun _ => ?_)
    · refine ⟨_, rfl, _, rfl, l0, _, rfl, SqL.of el0, fun l1 hl1 => ?_⟩
      obtain ⟨k, ek⟩ := cut_6 xs0
      have s1 := Same.new hl1 (.lst (cutV xs0 none (some 6)))
      refine ⟨l1, xs0.take k, as0.take k, rfl, s0.trans s1, ?_, Paired.takeP k (Paired.imp (fun a b => trep_tup trep_int _ _ a b s1.ts) pl0), ?_, okties_take ok0 k⟩
      · rw [← ek]; exact upd_same
      · rw [List.length_take]; omega
    · exact ⟨l0, xs0, as0, rfl, s0, el0, pl0, h120, ok0⟩
  rintro σ' H1 ⟨l, xs, as, rfl, s1, el, pl, h12, ok⟩
  clear s0 et el0 nl0 pl0 h120 ok0 t l0 xs0 as0 H0
  have lx : as.length = xs.length := Paired.length pl
  -- web
  refine ⟨_, rfl, _, rfl, fun p dx np ndx npd => ?_⟩
  have s3 : Same H1 (upd (upd H1 dx (.own p)) p (.ins C dx [])) := fun b o e => by
    rw [upd_ne (ne_of_none e np), upd_ne (ne_of_none e ndx)]
    exact e
  have pL : Paired (rSeq K (upd (upd H1 dx (.own p)) p (.ins C dx []))) as xs := Paired.imp (fun t x h => .inr (trep_tup trep_int _ _ _ _ s3.ts h)) pl
  refine ⟨p, dx, l, z, xs, as, rfl, upd_same, SqL.of (s3 _ _ el), pL, ok, h12, z1, z10, fun H2 s2' hW => ⟨rfl, ?_⟩⟩
  have s2 : Same H1 H2 := fun b o e => s2' b o (s3 b o e) (ne_of_none e np)
  have el2 := s2 _ _ el
  have pl2 := Paired.imp (fun a b => trep_tup trep_int _ _ a b s2.ts) pl
  have rl2 : rLst K (rPair K) H2 as (.ref l) := ⟨l, xs, rfl, SqL.of el2, pl2⟩
  have rows : ∀ {H' : Hp}, Same H2 H' → rLst K (rPair K) H' as (.ref l) := fun {H'} e => rLst_same (trep_tup trep_int) e rl2
  have hS2 : SqL K H2 a (ns.map V.int) := s2.seq (s1.seq hS)
  clear s3 s2' pL
  have ls : (as.map srt).length = as.length := List.length_map ..
  -- more than ten
  refine ⟨_, rfl, l, xs, rfl, .inl (SqL.of el2), ?_⟩
  refine ⟨_, _, rfl, rfl, _, rfl, ?_⟩
  by_cases c1 : (10 : Int) < ((xs.length : Nat) : Int)
  · refine iteP c1 ?_
    refine ⟨_, rfl, p, z, _, rfl, hW, z1, z10, by rw [ls]; exact h12, by rw [ls]; omega, fun H3 s3 => ⟨_, rfl, ?_⟩⟩
    have hW3 := hW.same s3
    obtain ⟨dx3, j3, hp3, _⟩ := id hW3
    refine iteT ⟨_, rfl, p, dx3, _, rfl, hp3, flds_no _ _ (by decide +kernel) (by decide +kernel), p, z, _, rfl, hW3, _, rfl, rfl, ?_⟩
    rw [decide_eq_true rfl]
    exact q _
  refine iteN c1 ?_
  have a10 : as.length ≤ 10 := by omega
  -- the order
  refine ⟨_, rfl, p, z, _, rfl, hW, z1, z10, by rw [ls]; exact h12, fun z => absurd z (by rw [ls]; omega), fun _ fo H3 s23 nfo efo => ?_⟩
  rw [ls, pts_srt] at efo
  have oT : Ord as.length (told (ptsOf z as) as.length) := by
    obtain ⟨_, _, h, _⟩ := told_get (pts := ptsOf z as) (many := as.length)
    exact h
  have ltd : (told (ptsOf z as) as.length).length = as.length := by rw [oT.length_eq, below_len]
  generalize etd : told (ptsOf z as) as.length = td at efo oT ltd
  -- is an order
  refine ⟨_, rfl, _, rfl, l, xs, rfl, .inl (SqL.of (s23 _ _ el2)), fo, _, td, rfl, SqL.of efo, by omega, by omega, by rw [Int.toNat_natCast, ← lx]; exact oT, fun H4 s34 => ⟨_, rfl, ?_⟩⟩
  refine iteF ?_
  have s24 := s23.trans s34
  -- its width
  refine ⟨_, rfl, _, rfl, _, rfl, l, fo, z, as, td, rfl, rows s24, ok.ok, h12, z1, z10, SqL.of (s34 _ _ efo), oT, fun H5 s45 => ?_⟩
  have s25 := s24.trans s45
  -- told
  refine ⟨_, rfl, l, xs, rfl, .inl (SqL.of (s25 _ _ el2)), ?_⟩
  rw [← lx]
  refine ⟨_, rfl, fun r hr0 => ?_⟩
  refine ⟨r, _, rfl, upd_same, by omega, by omega, fun L hL => ?_⟩
  rw [Int.toNat_natCast]
  have s56 := (Same.new hr0 (.rng 0 ((as.length : Nat) : Int))).trans (Same.new hL (.lst ((below as.length).map V.int)))
  have e6 : (upd (upd H5 r (.rng 0 ((as.length : Nat) : Int))) L (.lst ((below as.length).map V.int))) L = some (.lst ((below as.length).map V.int)) := upd_same
  generalize upd (upd H5 r (.rng 0 ((as.length : Nat) : Int))) L (.lst ((below as.length).map V.int)) = H6 at s56 e6 ⊢
  have s26 := s25.trans s56
  -- turned about
  refine ⟨_, rfl, _, rfl, L, _, rfl, SqL.of e6, by rw [List.length_map, below_len]; omega, fun L2 hL2 => ?_⟩
  refine ⟨(by show 2 ≤ sizeLine; decide), fun L3 hL3 => ?_⟩
  have er : ((below as.length).map V.int).reverse = ((below as.length).reverse).map V.int := (List.map_reverse ..).symm
  have s67 := (Same.new hL2 (.lst ((below as.length).map V.int).reverse))
  have s78 := Same.new hL3 (.lst [.ref L, .ref L2])
  have e7 := s78 _ _ (upd_same (H := H6) (a := L2) (o := .lst ((below as.length).map V.int).reverse))
  have e8 : (upd (upd H6 L2 (.lst ((below as.length).map V.int).reverse)) L3 (.lst [.ref L, .ref L2])) L3 = some (.lst [.ref L, .ref L2]) := upd_same
  have s68 := s67.trans s78
  generalize upd (upd H6 L2 (.lst ((below as.length).map V.int).reverse)) L3 (.lst [.ref L, .ref L2]) = H8 at s68 e7 e8 ⊢
  clear s67 s78
  rw [er] at e7
  have s28 := s26.trans s68
  -- the drawn ones
  refine ⟨_, rfl, _, rfl, _, rfl, a, _, rfl, s28.seq hS2, fun l4 hl4 => ?_⟩
  obtain ⟨cs, ecs, lcs⟩ := cut_int ns (some 2) (some 32)
  rw [ecs]
  have s89 := Same.new hl4 (.lst (cs.map V.int))
  have e9 : (upd H8 l4 (.lst (cs.map V.int))) l4 = some (.lst (cs.map V.int)) := upd_same
  generalize upd H8 l4 (.lst (cs.map V.int)) = H9 at s89 e9 ⊢
  have s29 := s28.trans s89
  refine ⟨l4, rfl, ⟨_, SqL.of e9⟩, fun D hD => ?_⟩
  refine turns_list (xs := cs.map V.int) (fun i τ H10 => ∃ (n : Option V) (ys : List V), τ = [n, some (.ref l)] ∧ Same H9 H10 ∧ H10 D = some (.lst ys) ∧ ys.length = i ∧ ∀ y ∈ ys, ∃ (b : Addr) (os : List Int), y = .ref b ∧ b ≠ D ∧ H10 b = some (.lst (os.map V.int)) ∧ Ord as.length os) ⟨none, [], rfl, Same.new hD _, upd_same, rfl, fun y hy => by cases hy⟩
    (fun i τ H10 _ ⟨_, _, _, s10, _⟩ => SqL.of (s10 _ _ e9)) ?_ ?_
  · rintro i y τ H10 hy ⟨n, ys, rfl, s10, eD, ly, hys⟩
    obtain ⟨c, _, rfl⟩ := int_at hy
    refine yesN ?_
    refine ⟨_, rfl, _, rfl, l, xs, rfl, .inl (SqL.of (s10 _ _ (s29 _ _ el2))), c, _, rfl, by omega, by omega, fun lo os H11 s11 nlo elo hO => ?_⟩
    rw [Int.toNat_natCast, ← lx] at hO
    have hic : i < cs.length := by
      have := (List.getElem?_eq_some_iff.mp hy).1
      rw [List.length_map] at this
      exact this
    have hDlo : lo ≠ D := fun e => by rw [e, eD] at nlo; cases nlo
    refine ⟨ys, s11 _ _ eD, small1000 (by omega), _, _, rfl, fun b o e => ?_, upd_same, by rw [List.length_append, ly]; rfl, fun y' hy' => ?_⟩
    · rw [upd_ne (ne_of_none e hD)]
      exact s11 _ _ (s10 b o e)
    · rcases List.mem_append.mp hy' with hy' | hy'
      · obtain ⟨b, os', rfl, hb, eb, ho⟩ := hys y' hy'
        exact ⟨b, os', rfl, hb, by rw [upd_ne hb]; exact s11 _ _ eb, ho⟩
      · rw [List.mem_singleton.mp hy']
        exact ⟨lo, os, rfl, hDlo, by rw [upd_ne hDlo]; exact elo, hO⟩
  rintro τ H10 ⟨n, ys, rfl, s910, eD, ly, hys⟩
  rw [List.length_map] at ly
  have e10 := s910 _ _ (s89 _ _ e8)
  refine ⟨L3, D, _, ys, rfl, rfl, SqL.of e10, SqL.of eD, small (by show 2 + _ ≤ _; omega), fun L4 hL4 => ?_⟩
  have s1011 := Same.new hL4 (.lst ([.ref L, .ref L2] ++ ys))
  have e11 : (upd H10 L4 (.lst ([.ref L, .ref L2] ++ ys))) L4 = some (.lst ([.ref L, .ref L2] ++ ys)) := upd_same
  generalize upd H10 L4 (.lst ([.ref L, .ref L2] ++ ys)) = H11 at s1011 e11 ⊢
  have s811 := s89.trans (s910.trans s1011)
  have ors : Ors K as.length H11 ([.ref L, .ref L2] ++ ys) := fun x hx => by
    rcases List.mem_append.mp hx with hx | hx
    · rcases List.mem_cons.mp hx with rfl | hx
      · exact ⟨L, below as.length, rfl, SqL.of (s811 _ _ (s68 _ _ e6)), List.Perm.refl _⟩
      · rw [List.mem_singleton.mp hx]
        exact ⟨L2, _, rfl, SqL.of (s811 _ _ e7), List.reverse_perm _⟩
    · obtain ⟨b, os, rfl, _, eb, ho⟩ := hys x hx
      exact ⟨b, os, rfl, SqL.of (s1011 _ _ eb), ho⟩
  have s211 := s28.trans s811
  have fo11 : H11 fo = some (.lst (td.map V.int)) := s811 _ _ (s68 _ _ (s56 _ _ (s45 _ _ (s34 _ _ efo))))
  -- none is narrower
  refine ⟨_, rfl, L4, rfl, ⟨_, SqL.of e11⟩, for_list (K := K) (a := L4) (xs := [.ref L, .ref L2] ++ ys) (fun i σ H12 => ∃ (v8 : Option V), σ = [some (.ref a), some (.int z), some (.ref l), some (.ref p), some (.ref fo), some (.int (wOf (ptsOf z as) td)), some (.ref L), some (.ref L4), v8, none] ∧ Same H11 H12)
    ⟨none, rfl, Same.refl _⟩ (fun i σ H12 _ ⟨_, _, s12⟩ => s12.seq (SqL.of e11)) ?_ ?_⟩
  · rintro i y σ H12 hy ⟨v8, rfl, s12⟩
    obtain ⟨b, os, rfl, hb, ho⟩ := ors y (List.mem_of_getElem? hy)
    refine ⟨_, rfl, _, rfl, _, rfl, l, b, z, as, os, rfl, rows (s211.trans s12), ok.ok, h12, z1, z10, s12.seq hb, ho, fun H13 s13 => ?_⟩
    refine ⟨_, rfl, _, _, rfl, rfl, _, rfl, ?_⟩
    have le : wOf (ptsOf z as) td ≤ wOf (ptsOf z as) os := by
      rw [← etd]
      exact told_least ho
    refine iteN (by omega) ?_
    exact ⟨_, rfl, s12.trans s13⟩
  rintro σ H12 ⟨v8, rfl, s12⟩
  have fo12 := s12 _ _ fo11
  -- a copy, the told one emptied
  refine ⟨_, rfl, fo, _, rfl, .inl (SqL.of fo12), fun kp hkp => ?_⟩
  have s1213 := Same.new hkp (.lst (td.map V.int))
  refine ⟨_, rfl, .inl ⟨rfl, _, SqL.of (s1213 _ _ fo12)⟩, fo, _, rfl, rfl, s1213 _ _ fo12, ?_⟩
  have nek : kp ≠ fo := fun e => by rw [e, fo12] at hkp; cases hkp
  have s214 : Same H2 (upd (upd H12 kp (.lst (td.map V.int))) fo (.lst [])) := fun b o e => by
    rw [upd_ne (ne_of_none e nfo)]
    exact s1213 _ _ (s12 _ _ (s211 b o e))
  have k14 : (upd (upd H12 kp (.lst (td.map V.int))) fo (.lst [])) kp = some (.lst (td.map V.int)) := by rw [upd_ne nek, upd_same]
  generalize upd (upd H12 kp (.lst (td.map V.int))) fo (.lst []) = H14 at s214 k14 ⊢
  -- asked again
  refine ⟨_, rfl, p, z, _, rfl, hW.same s214, z1, z10, by rw [ls]; exact h12, fun z => absurd z (by rw [ls]; omega), fun _ f2 H15 s15 nf2 ef2 => ?_⟩
  rw [ls, pts_srt, etd] at ef2
  have s215 := s214.trans s15
  refine ⟨_, rfl, td, td, ⟨f2, _, rfl, SqL.of ef2, paired_ints _⟩, ⟨kp, _, rfl, SqL.of (s15 _ _ k14), paired_ints _⟩, _, rfl, ?_⟩
  rw [decide_eq_true rfl]
  refine iteF ?_
  -- the web stays
  have hW15 := hW.same s215
  obtain ⟨dx6, j6, hp6, _⟩ := id hW15
  refine ⟨_, rfl, p, dx6, _, rfl, hp6, flds_no _ _ (by decide +kernel) (by decide +kernel), p, z, _, rfl, hW15, fun l7 H16 s16 r16 => ?_⟩
  have s216 := s215.trans s16
  have el16 := s216 _ _ el2
  have pl16 := Paired.imp (fun a b => trep_tup trep_int _ _ a b s216.ts) pl2
  refine ⟨_, rfl, l, rfl, ⟨_, SqL.of el16⟩, fun D2 hD2 => ?_⟩
  refine turns_list (xs := xs) (fun i τ H3 => ∃ (n : Option V) (ys : List V), τ = [n] ∧ Same H16 H3 ∧ H3 D2 = some (.lst ys) ∧ Paired (rPair K H3) ((as.take i).map srt) ys) ⟨none, [], rfl, Same.new hD2 _, upd_same, .nil⟩
    (fun i τ H3 _ ⟨_, _, _, s3, _⟩ => SqL.of (s3 _ _ el16)) ?_ ?_
  · rintro i y τ H17 hy ⟨n, ys, rfl, s17, e17, p17⟩
    obtain ⟨tie, ht, rt⟩ := Paired.get pl16 hy
    obtain ⟨q1, rfl, hq1⟩ := rPair_seq rt
    obtain ⟨u, v, rfl, _⟩ := ok.ok tie (List.mem_of_getElem? ht)
    have hq17 : SqT K H17 q1 [.int u, .int v] := s17.ts.seq hq1
    refine yesN ?_
    refine ⟨_, rfl, q1, u, v, rfl, hq17, _, rfl, q1, u, v, rfl, hq17, (by show 2 ≤ sizeLine; decide), fun t1 ht1 => ?_⟩
    have s18 := Same.new ht1 (.tup [.int (if v < u then v else u), .int (if v > u then v else u)])
    have e18 := s18 _ _ e17
    have ly : ys.length ≤ 14 := by rw [← Paired.length p17, List.length_map, List.length_take]; omega
    refine ⟨ys, e18, small1000 (by omega), _, _, rfl, fun b o e => ?_, upd_same, ?_⟩
    · rw [upd_ne (ne_of_none e hD2)]
      exact s18 _ _ (s17 b o e)
    · have et : as.take (i + 1) = as.take i ++ [[u, v]] := by rw [List.take_add_one, ht]; rfl
      rw [et, List.map_append, List.map_singleton, srt_minmax]
      have ts := TSm.lst (o := .lst (ys ++ [.ref t1])) e18
      have r1 : rPair K (upd H17 t1 (.tup [.int (if v < u then v else u), .int (if v > u then v else u)])) [if v < u then v else u, if v > u then v else u] (.ref t1) := rPair_of upd_same
      exact Paired.app (Paired.imp (fun a b => trep_tup trep_int _ _ a b (s18.ts.trans ts)) p17) (Paired.one (trep_tup trep_int _ _ _ _ ts r1))
  rintro τ H17 ⟨n, ys, rfl, s17, e17, p17⟩
  rw [← lx, List.take_length] at p17
  refine ⟨_, _, rLst_same (trep_tup trep_int) s17 r16, ⟨D2, ys, rfl, SqL.of e17, p17⟩, ?_⟩
  rw [decide_eq_true rfl]
  exact q _
end
end K16
end
set_option Elab.async false
set_option linter.all false
set_option maxRecDepth 100000

def PySem.W.Fast.tw1107466303455659872 : Unit := ()
def PySem.W.Fast.tw12105723189032453024 : Unit := ()
def PySem.W.Fast.tw12461654324780015752 : Unit := ()
def PySem.W.Fast.tw12519947543785273103 : Unit := ()
def PySem.W.Fast.tw15384972290792311543 : Unit := ()
def PySem.W.Fast.tw1575295607759070562 : Unit := ()
def PySem.W.Fast.tw16647043602060868933 : Unit := ()
def PySem.W.Fast.tw16825761064746801748 : Unit := ()
def PySem.W.Fast.tw17471530354613616578 : Unit := ()
def PySem.W.Fast.tw18276398399377845936 : Unit := ()
def PySem.W.Fast.tw2032538325952491032 : Unit := ()
def PySem.W.Fast.tw2415863562980218098 : Unit := ()
def PySem.W.Fast.tw3903022641332556854 : Unit := ()
def PySem.W.Fast.tw4599094732791064304 : Unit := ()
def PySem.W.Fast.tw5138649974797383845 : Unit := ()
def PySem.W.Fast.tw5788879983741954340 : Unit := ()
def PySem.W.Fast.tw5919731887502770787 : Unit := ()
def PySem.W.Fast.tw626238997922172506 : Unit := ()
def PySem.W.Fast.tw6461557874617451927 : Unit := ()
def PySem.W.Fast.tw6997830146792414907 : Unit := ()
def PySem.W.Fast.tw714679896995516996 : Unit := ()
def PySem.W.Fast.tw8561284546115890662 : Unit := ()
def PySem.W.Fast.tw8735250464905669953 : Unit := ()
namespace K16
open PySem L2
set_option maxHeartbeats 4000000
theorem all_mk {l : PySem.W.OpenLaw} {w : World} {K : PySem.W.Frag} {h : Heap} {mg : Str → Option Value} {fa C : Addr} (X : K.In h) (G : h.Ns mainGlobals mg) (hfa : mg "law" = some (.ref fa))
    {f1 : Addr} {od1 an1 : Option Addr} {sl1 : Array (Option Value)} {oc1 kV1 dc1 pm1 cd1 ct1 : Value}
    {f2 : Addr} {od2 an2 : Option Addr} {sl2 : Array (Option Value)} {oc2 kV2 dc2 pm2 cd2 ct2 : Value}
    {f3 : Addr} {od3 an3 : Option Addr} {sl3 : Array (Option Value)} {oc3 kV3 dc3 pm3 cd3 ct3 : Value}
    {f4 : Addr} {od4 an4 : Option Addr} {sl4 : Array (Option Value)} {oc4 kV4 dc4 pm4 cd4 ct4 : Value}
    {f5 : Addr} {od5 an5 : Option Addr} {sl5 : Array (Option Value)} {oc5 kV5 dc5 pm5 cd5 ct5 : Value}
    {f6 : Addr} {od6 an6 : Option Addr} {sl6 : Array (Option Value)} {oc6 kV6 dc6 pm6 cd6 ct6 : Value}
    {f7 : Addr} {od7 an7 : Option Addr} {sl7 : Array (Option Value)} {oc7 kV7 dc7 pm7 cd7 ct7 : Value}
    {f8 : Addr} {od8 an8 : Option Addr} {sl8 : Array (Option Value)} {oc8 kV8 dc8 pm8 cd8 ct8 : Value}
    {f9 : Addr} {od9 an9 : Option Addr} {sl9 : Array (Option Value)} {oc9 kV9 dc9 pm9 cd9 ct9 : Value}
    {f10 : Addr} {od10 an10 : Option Addr} {sl10 : Array (Option Value)} {oc10 kV10 dc10 pm10 cd10 ct10 : Value}
    {f11 : Addr} {od11 an11 : Option Addr} {sl11 : Array (Option Value)} {oc11 kV11 dc11 pm11 cd11 ct11 : Value}
    {f12 : Addr} {od12 an12 : Option Addr} {sl12 : Array (Option Value)} {oc12 kV12 dc12 pm12 cd12 ct12 : Value}
    {f13 : Addr} {od13 an13 : Option Addr} {sl13 : Array (Option Value)} {oc13 kV13 dc13 pm13 cd13 ct13 : Value}
    {f14 : Addr} {od14 an14 : Option Addr} {sl14 : Array (Option Value)} {oc14 kV14 dc14 pm14 cd14 ct14 : Value}
    {f15 : Addr} {od15 an15 : Option Addr} {sl15 : Array (Option Value)} {oc15 kV15 dc15 pm15 cd15 ct15 : Value}
    {f16 : Addr} {od16 an16 : Option Addr} {sl16 : Array (Option Value)} {oc16 kV16 dc16 pm16 cd16 ct16 : Value}
    {f17 : Addr} {od17 an17 : Option Addr} {sl17 : Array (Option Value)} {oc17 kV17 dc17 pm17 cd17 ct17 : Value}
    {f18 : Addr} {od18 an18 : Option Addr} {sl18 : Array (Option Value)} {oc18 kV18 dc18 pm18 cd18 ct18 : Value}
    {f19 : Addr} {od19 an19 : Option Addr} {sl19 : Array (Option Value)} {oc19 kV19 dc19 pm19 cd19 ct19 : Value}
    {f20 : Addr} {od20 an20 : Option Addr} {sl20 : Array (Option Value)} {oc20 kV20 dc20 pm20 cd20 ct20 : Value}
    {f21 : Addr} {od21 an21 : Option Addr} {sl21 : Array (Option Value)} {oc21 kV21 dc21 pm21 cd21 ct21 : Value}
    (aC : PySem.W.nsIn K mainGlobals "Web" = some (some (.ref C)))
    (a1 : PySem.W.findIn K (.ref C) "__init__" = some (some (.ref f1))) (i1 : PySem.W.isFn K (.ref f1) = true) (l1 : K.lookup f1 = some ⟨oc1, od1, .func (PySem.W.fnOf "__init__" "Web.__init__" (defArgs sInit) (defBody sInit) (defScope sInit) .none kV1 dc1 pm1 an1 cd1 ct1), sl1⟩) (c1 : PySem.W.codeIn K cd1 "Web.__init__" = true) (k1 : PySem.W.keepIn K (.ref f1) = true)
    (a2 : PySem.W.findIn K (.ref C) "size" = some (some (.ref f2))) (i2 : PySem.W.isFn K (.ref f2) = true) (l2 : K.lookup f2 = some ⟨oc2, od2, .func (PySem.W.fnOf "size" "Web.size" (defArgs sSize) (defBody sSize) (defScope sSize) .none kV2 dc2 pm2 an2 cd2 ct2), sl2⟩) (c2 : PySem.W.codeIn K cd2 "Web.size" = true) (k2 : PySem.W.keepIn K (.ref f2) = true)
    (a3 : PySem.W.findIn K (.ref C) "ties" = some (some (.ref f3))) (i3 : PySem.W.isFn K (.ref f3) = true) (l3 : K.lookup f3 = some ⟨oc3, od3, .func (PySem.W.fnOf "ties" "Web.ties" (defArgs sTies) (defBody sTies) (defScope sTies) .none kV3 dc3 pm3 an3 cd3 ct3), sl3⟩) (c3 : PySem.W.codeIn K cd3 "Web.ties" = true) (k3 : PySem.W.keepIn K (.ref f3) = true)
    (a4 : PySem.W.findIn K (.ref C) "at" = some (some (.ref f4))) (i4 : PySem.W.isFn K (.ref f4) = true) (l4 : K.lookup f4 = some ⟨oc4, od4, .func (PySem.W.fnOf "at" "Web.at" (defArgs sAt) (defBody sAt) (defScope sAt) .none kV4 dc4 pm4 an4 cd4 ct4), sl4⟩) (c4 : PySem.W.codeIn K cd4 "Web.at" = true) (k4 : PySem.W.keepIn K (.ref f4) = true)
    (a5 : PySem.W.nsIn K mainGlobals "refuse_amounts" = some (some (.ref f5))) (l5 : K.lookup f5 = some ⟨oc5, od5, .func (PySem.W.fnOf "refuse_amounts" "refuse_amounts" (defArgs sAmt) (defBody sAmt) (defScope sAmt) .none kV5 dc5 pm5 an5 cd5 ct5), sl5⟩) (c5 : PySem.W.codeIn K cd5 "refuse_amounts" = true) (k5 : PySem.W.keepIn K (.ref f5) = true)
    (a6 : PySem.W.nsIn K mainGlobals "checked_ties" = some (some (.ref f6))) (l6 : K.lookup f6 = some ⟨oc6, od6, .func (PySem.W.fnOf "checked_ties" "checked_ties" (defArgs sChk) (defBody sChk) (defScope sChk) .none kV6 dc6 pm6 an6 cd6 ct6), sl6⟩) (c6 : PySem.W.codeIn K cd6 "checked_ties" = true) (k6 : PySem.W.keepIn K (.ref f6) = true)
    (a7 : PySem.W.nsIn K mainGlobals "refuse_points" = some (some (.ref f7))) (l7 : K.lookup f7 = some ⟨oc7, od7, .func (PySem.W.fnOf "refuse_points" "refuse_points" (defArgs sPts) (defBody sPts) (defScope sPts) .none kV7 dc7 pm7 an7 cd7 ct7), sl7⟩) (c7 : PySem.W.codeIn K cd7 "refuse_points" = true) (k7 : PySem.W.keepIn K (.ref f7) = true)
    (a8 : PySem.W.nsIn K mainGlobals "ties_within" = some (some (.ref f8))) (l8 : K.lookup f8 = some ⟨oc8, od8, .func (PySem.W.fnOf "ties_within" "ties_within" (defArgs sWithin) (defBody sWithin) (defScope sWithin) .none kV8 dc8 pm8 an8 cd8 ct8), sl8⟩) (c8 : PySem.W.codeIn K cd8 "ties_within" = true) (k8 : PySem.W.keepIn K (.ref f8) = true)
    (a9 : PySem.W.nsIn K mainGlobals "narrow_order" = some (some (.ref f9))) (l9 : K.lookup f9 = some ⟨oc9, od9, .func (PySem.W.fnOf "narrow_order" "narrow_order" (defArgs sNarrow) (defBody sNarrow) (defScope sNarrow) .none kV9 dc9 pm9 an9 cd9 ct9), sl9⟩) (c9 : PySem.W.codeIn K cd9 "narrow_order" = true) (k9 : PySem.W.keepIn K (.ref f9) = true)
    (a10 : PySem.W.nsIn K mainGlobals "one_tie_on" = some (some (.ref f10))) (l10 : K.lookup f10 = some ⟨oc10, od10, .func (PySem.W.fnOf "one_tie_on" "one_tie_on" (defArgs sOne) (defBody sOne) (defScope sOne) .none kV10 dc10 pm10 an10 cd10 ct10), sl10⟩) (c10 : PySem.W.codeIn K cd10 "one_tie_on" = true) (k10 : PySem.W.keepIn K (.ref f10) = true)
    (a11 : PySem.W.nsIn K mainGlobals "front_behind" = some (some (.ref f11))) (l11 : K.lookup f11 = some ⟨oc11, od11, .func (PySem.W.fnOf "front_behind" "front_behind" (defArgs sFront) (defBody sFront) (defScope sFront) .none kV11 dc11 pm11 an11 cd11 ct11), sl11⟩) (c11 : PySem.W.codeIn K cd11 "front_behind" = true) (k11 : PySem.W.keepIn K (.ref f11) = true)
    (a12 : PySem.W.nsIn K mainGlobals "keep_narrower" = some (some (.ref f12))) (l12 : K.lookup f12 = some ⟨oc12, od12, .func (PySem.W.fnOf "keep_narrower" "keep_narrower" (defArgs sKeep) (defBody sKeep) (defScope sKeep) .none kV12 dc12 pm12 an12 cd12 ct12), sl12⟩) (c12 : PySem.W.codeIn K cd12 "keep_narrower" = true) (k12 : PySem.W.keepIn K (.ref f12) = true)
    (a13 : PySem.W.nsIn K mainGlobals "_law_cell" = some (some (.ref f13))) (l13 : K.lookup f13 = some ⟨oc13, od13, .func (PySem.W.fnOf "_law_cell" "_law_cell" (defArgs sCell) (defBody sCell) (defScope sCell) .none kV13 dc13 pm13 an13 cd13 ct13), sl13⟩) (c13 : PySem.W.codeIn K cd13 "_law_cell" = true) (k13 : PySem.W.keepIn K (.ref f13) = true)
    (a14 : PySem.W.nsIn K mainGlobals "_law_mixed" = some (some (.ref f14))) (l14 : K.lookup f14 = some ⟨oc14, od14, .func (PySem.W.fnOf "_law_mixed" "_law_mixed" (defArgs sMix) (defBody sMix) (defScope sMix) .none kV14 dc14 pm14 an14 cd14 ct14), sl14⟩) (c14 : PySem.W.codeIn K cd14 "_law_mixed" = true) (k14 : PySem.W.keepIn K (.ref f14) = true)
    (a15 : PySem.W.nsIn K mainGlobals "_law_draws" = some (some (.ref f15))) (l15 : K.lookup f15 = some ⟨oc15, od15, .func (PySem.W.fnOf "_law_draws" "_law_draws" (defArgs sDraw) (defBody sDraw) (defScope sDraw) .none kV15 dc15 pm15 an15 cd15 ct15), sl15⟩) (c15 : PySem.W.codeIn K cd15 "_law_draws" = true) (k15 : PySem.W.keepIn K (.ref f15) = true)
    (a16 : PySem.W.nsIn K mainGlobals "_law_web" = some (some (.ref f16))) (l16 : K.lookup f16 = some ⟨oc16, od16, .func (PySem.W.fnOf "_law_web" "_law_web" (defArgs sWeb) (defBody sWeb) (defScope sWeb) .none kV16 dc16 pm16 an16 cd16 ct16), sl16⟩) (c16 : PySem.W.codeIn K cd16 "_law_web" = true) (k16 : PySem.W.keepIn K (.ref f16) = true)
    (a17 : PySem.W.nsIn K mainGlobals "_law_order" = some (some (.ref f17))) (l17 : K.lookup f17 = some ⟨oc17, od17, .func (PySem.W.fnOf "_law_order" "_law_order" (defArgs sOrder) (defBody sOrder) (defScope sOrder) .none kV17 dc17 pm17 an17 cd17 ct17), sl17⟩) (c17 : PySem.W.codeIn K cd17 "_law_order" = true) (k17 : PySem.W.keepIn K (.ref f17) = true)
    (a18 : PySem.W.nsIn K mainGlobals "_law_width" = some (some (.ref f18))) (l18 : K.lookup f18 = some ⟨oc18, od18, .func (PySem.W.fnOf "_law_width" "_law_width" (defArgs sWidth) (defBody sWidth) (defScope sWidth) .none kV18 dc18 pm18 an18 cd18 ct18), sl18⟩) (c18 : PySem.W.codeIn K cd18 "_law_width" = true) (k18 : PySem.W.keepIn K (.ref f18) = true)
    (a19 : PySem.W.nsIn K mainGlobals "_law_refused" = some (some (.ref f19))) (l19 : K.lookup f19 = some ⟨oc19, od19, .func (PySem.W.fnOf "_law_refused" "_law_refused" (defArgs sRefuse) (defBody sRefuse) (defScope sRefuse) .none kV19 dc19 pm19 an19 cd19 ct19), sl19⟩) (c19 : PySem.W.codeIn K cd19 "_law_refused" = true) (k19 : PySem.W.keepIn K (.ref f19) = true)
    (a20 : PySem.W.nsIn K mainGlobals "_law_is_order" = some (some (.ref f20))) (l20 : K.lookup f20 = some ⟨oc20, od20, .func (PySem.W.fnOf "_law_is_order" "_law_is_order" (defArgs sIsOrd) (defBody sIsOrd) (defScope sIsOrd) .none kV20 dc20 pm20 an20 cd20 ct20), sl20⟩) (c20 : PySem.W.codeIn K cd20 "_law_is_order" = true) (k20 : PySem.W.keepIn K (.ref f20) = true)
    (a21 : PySem.W.nsIn K mainGlobals "law" = some (some (.ref f21))) (l21 : K.lookup f21 = some ⟨oc21, od21, .func (PySem.W.fnOf "law" "law" (defArgs sLaw) (defBody sLaw) (defScope sLaw) .none kV21 dc21 pm21 an21 cd21 ct21), sl21⟩) (c21 : PySem.W.codeIn K cd21 "law" = true) (k21 : PySem.W.keepIn K (.ref f21) = true)
    (pg : PySem.W.plainGet K C Str.empty = true) (hd : PySem.W.hasDictIn K C = true) (po : PySem.W.plainOver K C = true) (sa : PySem.W.findIn K (.ref C) "__setattr__" = some (some (.builtin "object.__setattr__"))) (mk : PySem.W.makesIn K C = true) (kc : PySem.W.keepIn K (.ref C) = true)
    (n0 : PySem.W.findIn K (.ref C) "amount" = some none)
    (n1 : PySem.W.findIn K (.ref C) "joints" = some none)
    {t0 : Tok} (v0 : PySem.W.nsIn K mainGlobals "MOST_POINTS" = some (some (.int 10 t0)))
    {t1 : Tok} (v1 : PySem.W.nsIn K mainGlobals "MOST_TIES" = some (some (.int 12 t1)))
    {t2 : Tok} (v2 : PySem.W.nsIn K mainGlobals "MOST_TIES_ORDERED" = some (some (.int 10 t2)))
    (z0 : PySem.W.nsIn K mainGlobals "len" = some none)
    (z1 : PySem.W.nsIn K mainGlobals "range" = some none)
    (z2 : PySem.W.nsIn K mainGlobals "int" = some none)
    (z3 : PySem.W.nsIn K mainGlobals "max" = some none)
    (z4 : PySem.W.nsIn K mainGlobals "min" = some none)
    (z5 : PySem.W.nsIn K mainGlobals "sorted" = some none)
    (z6 : PySem.W.nsIn K mainGlobals "tuple" = some none)
    (z7 : PySem.W.nsIn K mainGlobals "list" = some none)
    (z8 : PySem.W.nsIn K mainGlobals "bool" = some none)
    (z9 : PySem.W.nsIn K mainGlobals "enumerate" = some none)
    (z10 : PySem.W.nsIn K mainGlobals "isinstance" = some none)
    {C_fe : Addr} (y_fe : PySem.W.nsIn K mainGlobals "FrontError" = some (some (.ref C_fe)))
    {C_tm : Addr} (y_tm : PySem.W.nsIn K mainGlobals "TooMany" = some (some (.ref C_tm)))
    {C_bk : Addr} (y_bk : PySem.W.nsIn K mainGlobals "BadKnots" = some (some (.ref C_bk)))
    {C_br : Addr} (y_br : PySem.W.nsIn K mainGlobals "BadRule" = some (some (.ref C_br)))
    {C_bt : Addr} (y_bt : PySem.W.nsIn K mainGlobals "BadTie" = some (some (.ref C_bt)))
    {C_nk : Addr} (y_nk : PySem.W.nsIn K mainGlobals "NoKnot" = some (some (.ref C_nk)))
    {C_nn : Addr} (y_nn : PySem.W.nsIn K mainGlobals "NoName" = some (some (.ref C_nn)))
    {C_nu : Addr} (y_nu : PySem.W.nsIn K mainGlobals "NoNumber" = some (some (.ref C_nu)))
    {C_nr : Addr} (y_nr : PySem.W.nsIn K mainGlobals "NoRow" = some (some (.ref C_nr)))
    {C_ns : Addr} (y_ns : PySem.W.nsIn K mainGlobals "NoSet" = some (some (.ref C_ns)))
    {C_nx : Addr} (y_nx : PySem.W.nsIn K mainGlobals "NoText" = some (some (.ref C_nx)))
    {C_ni : Addr} (y_ni : PySem.W.nsIn K mainGlobals "NoTie" = some (some (.ref C_ni)))
    {C_no : Addr} (y_no : PySem.W.nsIn K mainGlobals "NoOrder" = some (some (.ref C_no)))
    {C_nw : Addr} (y_nw : PySem.W.nsIn K mainGlobals "NoWeights" = some (some (.ref C_nw)))
    {C_tw : Addr} (y_tw : PySem.W.nsIn K mainGlobals "Twice" = some (some (.ref C_tw)))
    {C_un : Addr} (y_un : PySem.W.nsIn K mainGlobals "Unlike" = some (some (.ref C_un)))
    (x_ty : PySem.W.typeIn K (.ref C_fe) = some (.type "type"))
    (x_cl : PySem.W.isClsIn K C_fe = true)
    (x_ex : PySem.W.subIn K (.ref C_fe) (.type "BaseException") = some true)
    (x_ga : PySem.W.findIn K (.ref C_tm) "__getattribute__" = some (some (.builtin "BaseException.__getattribute__")))
    (x_gt : PySem.W.findIn K (.ref C_tm) "__getattr__" = some none)
    (x_gc : PySem.W.findIn K (.ref C_tm) "__class__" = some (some (.builtin "object.__class__")))
    (x_ob : PySem.W.mroIn K C_tm (.type "object") = some true)
    (x_be : PySem.W.mroIn K C_tm (.type "BaseException") = some true)
    (x_is : PySem.W.isClsIn K C_tm = true)
    (x_sb : PySem.W.subIn K (.ref C_tm) (.ref C_fe) = some true)
    (x_k1 : PySem.W.kitOne K (.ref C_tm) (.ref C_tm) = some true)
    (x_k2 : PySem.W.kitOne K (.ref C_tm) (.type "ValueError") = some true)
    (x_o1 : PySem.W.kitAny K (.ref C_tm) [.ref C_bk, .ref C_br, .ref C_bt, .ref C_nk, .ref C_nn, .ref C_nu, .ref C_nr, .ref C_ns, .ref C_nx, .ref C_ni] = some false)
    (x_o2 : PySem.W.kitAny K (.ref C_tm) [.ref C_no, .ref C_nw, .ref C_tw, .ref C_un] = some false)
    (x_xc : PySem.W.excIn K C_tm [.type "ValueError", .type "Exception", .type "BaseException", .type "object"] "ValueError.__new__" = true)
    (x_zv : PySem.W.nsIn K mainGlobals "ValueError" = some none)
    (x_zr : PySem.W.nsIn K mainGlobals "reversed" = some none) :
    ∃ fd : FuncData, (∀ (s : Shared) (v : Value), BindsTo s fd ⟨[v], []⟩ [("_law_script", v)]) ∧ ∀ base : Heap, K.In base → base.Ns mainGlobals mg → FnOk l.prog w K mg base CX0 6 fa fd ["_law_script"] (spLaw K) := by
  have e := hfa.symm.trans (PySem.W.mg_of X G a21)
  cases e
  have F_init := fun_mk (st := sInit) l1 c1 k1
  have b_init := F_init.binds (ps := ["self", "many", "ties"]) fun _ _ _ _ _ _ us hl => match us, hl with | [_, _, _], _ => rfl
  have m_init : Meth K C "__init__" f1 := ⟨a1, i1, k1⟩
  have k_init := k1
  have F_size := fun_mk (st := sSize) l2 c2 k2
  have b_size := F_size.binds (ps := ["self"]) fun _ _ _ _ _ _ us hl => match us, hl with | [_], _ => rfl
  have m_size : Meth K C "size" f2 := ⟨a2, i2, k2⟩
  have k_size := k2
  have F_ties := fun_mk (st := sTies) l3 c3 k3
  have b_ties := F_ties.binds (ps := ["self"]) fun _ _ _ _ _ _ us hl => match us, hl with | [_], _ => rfl
  have m_ties : Meth K C "ties" f3 := ⟨a3, i3, k3⟩
  have k_ties := k3
  have F_at := fun_mk (st := sAt) l4 c4 k4
  have b_at := F_at.binds (ps := ["self", "point"]) fun _ _ _ _ _ _ us hl => match us, hl with | [_, _], _ => rfl
  have m_at : Meth K C "at" f4 := ⟨a4, i4, k4⟩
  have k_at := k4
  have F_amt := fun_mk (st := sAmt) l5 c5 k5
  have b_amt := F_amt.binds (ps := ["points", "ties"]) fun _ _ _ _ _ _ us hl => match us, hl with | [_, _], _ => rfl
  have m_amt := PySem.W.mg_of X G a5
  have k_amt := k5
  have F_chk := fun_mk (st := sChk) l6 c6 k6
  have b_chk := F_chk.binds (ps := ["many", "ties"]) fun _ _ _ _ _ _ us hl => match us, hl with | [_, _], _ => rfl
  have m_chk := PySem.W.mg_of X G a6
  have k_chk := k6
  have F_pts := fun_mk (st := sPts) l7 c7 k7
  have b_pts := F_pts.binds (ps := ["many", "tie"]) fun _ _ _ _ _ _ us hl => match us, hl with | [_, _], _ => rfl
  have m_pts := PySem.W.mg_of X G a7
  have k_pts := k7
  have F_within := fun_mk (st := sWithin) l8 c8 k8
  have b_within := F_within.binds (ps := ["numbers", "some"]) fun _ _ _ _ _ _ us hl => match us, hl with | [_, _], _ => rfl
  have m_within := PySem.W.mg_of X G a8
  have k_within := k8
  have F_narrow := fun_mk (st := sNarrow) l9 c9 k9
  have b_narrow := F_narrow.binds (ps := ["web"]) fun _ _ _ _ _ _ us hl => match us, hl with | [_], _ => rfl
  have m_narrow := PySem.W.mg_of X G a9
  have k_narrow := k9
  have F_one := fun_mk (st := sOne) l10 c10 k10
  have b_one := F_one.binds (ps := ["points", "many", "narrow"]) fun _ _ _ _ _ _ us hl => match us, hl with | [_, _, _], _ => rfl
  have m_one := PySem.W.mg_of X G a10
  have k_one := k10
  have F_front := fun_mk (st := sFront) l11 c11 k11
  have b_front := F_front.binds (ps := ["points", "some"]) fun _ _ _ _ _ _ us hl => match us, hl with | [_, _], _ => rfl
  have m_front := PySem.W.mg_of X G a11
  have k_front := k11
  have F_keep := fun_mk (st := sKeep) l12 c12 k12
  have b_keep := F_keep.binds (ps := ["further", "ties", "offered"]) fun _ _ _ _ _ _ us hl => match us, hl with | [_, _, _], _ => rfl
  have m_keep := PySem.W.mg_of X G a12
  have k_keep := k12
  have F_cell := fun_mk (st := sCell) l13 c13 k13
  have b_cell := F_cell.binds (ps := ["_law_script", "_law_k"]) fun _ _ _ _ _ _ us hl => match us, hl with | [_, _], _ => rfl
  have m_cell := PySem.W.mg_of X G a13
  have k_cell := k13
  have F_mix := fun_mk (st := sMix) l14 c14 k14
  have b_mix := F_mix.binds (ps := ["_law_cell_here", "_law_k"]) fun _ _ _ _ _ _ us hl => match us, hl with | [_, _], _ => rfl
  have m_mix := PySem.W.mg_of X G a14
  have k_mix := k14
  have F_draw := fun_mk (st := sDraw) l15 c15 k15
  have b_draw := F_draw.binds (ps := ["_law_cell_here", "_law_many", "_law_most"]) fun _ _ _ _ _ _ us hl => match us, hl with | [_, _, _], _ => rfl
  have m_draw := PySem.W.mg_of X G a15
  have k_draw := k15
  have F_web := fun_mk (st := sWeb) l16 c16 k16
  have b_web := F_web.binds (ps := ["_law_script"]) fun _ _ _ _ _ _ us hl => match us, hl with | [_], _ => rfl
  have m_web := PySem.W.mg_of X G a16
  have k_web := k16
  have F_order := fun_mk (st := sOrder) l17 c17 k17
  have b_order := F_order.binds (ps := ["_law_cell_here", "_law_n"]) fun _ _ _ _ _ _ us hl => match us, hl with | [_, _], _ => rfl
  have m_order := PySem.W.mg_of X G a17
  have k_order := k17
  have F_width := fun_mk (st := sWidth) l18 c18 k18
  have b_width := F_width.binds (ps := ["_law_points", "_law_rows", "_law_order_here"]) fun _ _ _ _ _ _ us hl => match us, hl with | [_, _, _], _ => rfl
  have m_width := PySem.W.mg_of X G a18
  have k_width := k18
  have F_refuse := fun_mk (st := sRefuse) l19 c19 k19
  have b_refuse := F_refuse.binds (ps := ["_law_web_here"]) fun _ _ _ _ _ _ us hl => match us, hl with | [_], _ => rfl
  have m_refuse := PySem.W.mg_of X G a19
  have k_refuse := k19
  have F_isord := fun_mk (st := sIsOrd) l20 c20 k20
  have b_isord := F_isord.binds (ps := ["_law_found", "_law_n"]) fun _ _ _ _ _ _ us hl => match us, hl with | [_, _], _ => rfl
  have m_isord := PySem.W.mg_of X G a20
  have k_isord := k20
  have F_law := fun_mk (st := sLaw) l21 c21 k21
  have b_law := F_law.binds (ps := ["_law_script"]) fun _ _ _ _ _ _ us hl => match us, hl with | [_], _ => rfl
  have m_law := PySem.W.mg_of X G a21
  have k_law := k21
  have law_all : ∀ base : Heap, FnOk l.prog w K mg base CX0 6 _ _ ["_law_script"] (spLaw K) := fun base => by
    have T : Txt K mg C := ⟨⟨pg, hd, po, sa⟩, n0, n1, PySem.W.mg_of X G aC, ⟨_, PySem.W.mg_of X G v0⟩, ⟨_, PySem.W.mg_of X G v1⟩, PySem.W.mg_none_of X G z0, PySem.W.mg_none_of X G z1, PySem.W.mg_none_of X G z2, PySem.W.mg_none_of X G z3, PySem.W.mg_none_of X G z4, PySem.W.mg_none_of X G z5, PySem.W.mg_none_of X G z6, PySem.W.mg_none_of X G z7, PySem.W.mg_none_of X G z8, PySem.W.mg_none_of X G z9, PySem.W.mg_none_of X G z10⟩
    have N : XN K mg (Cs.mk C_fe C_tm C_bk C_br C_bt C_nk C_nn C_nu C_nr C_ns C_nx C_ni C_no C_nw C_tw C_un) := ⟨PySem.W.mg_of X G y_fe, PySem.W.mg_of X G y_tm, PySem.W.mg_of X G y_bk, PySem.W.mg_of X G y_br, PySem.W.mg_of X G y_bt, PySem.W.mg_of X G y_nk, PySem.W.mg_of X G y_nn, PySem.W.mg_of X G y_nu, PySem.W.mg_of X G y_nr, PySem.W.mg_of X G y_ns, PySem.W.mg_of X G y_nx, PySem.W.mg_of X G y_ni, PySem.W.mg_of X G y_no, PySem.W.mg_of X G y_nw, PySem.W.mg_of X G y_tw, PySem.W.mg_of X G y_un, PySem.W.mg_none_of X G x_zv, ⟨x_ga, x_gt, x_gc, x_ob, x_be, x_is⟩, ⟨x_ty, x_cl, x_ex, x_sb⟩, x_k1, x_k2, x_o1, x_o2⟩
    have GCell := ok_cell (P := l.prog) (w := w) (base := base) F_cell T
    have GMix := ok_mix (P := l.prog) (w := w) (mg := mg) (base := base) F_mix
    have GDraw := ok_draw F_draw T GMix b_mix k_mix m_mix
    have GWeb := ok_web F_web T GCell b_cell k_cell m_cell GDraw b_draw k_draw m_draw
    have GAmt := ok_amt (P := l.prog) (w := w) (base := base) F_amt T
    have GPts := ok_pts (P := l.prog) (w := w) (mg := mg) (base := base) F_pts
    have GChk := ok_chk F_chk T GPts b_pts k_pts m_pts
    have GInit := ok_init F_init T GAmt b_amt k_amt m_amt GChk b_chk k_chk m_chk
    have GSize := ok_size (P := l.prog) (w := w) (base := base) F_size T
    have GTies := ok_ties (P := l.prog) (w := w) (base := base) F_ties T
    have GAt := ok_at (P := l.prog) (w := w) (base := base) F_at T
    have GWithin := ok_within (P := l.prog) (w := w) (mg := mg) (base := base) F_within
    have GFront := ok_front F_front T GWithin b_within k_within m_within
    have GKeep := ok_keep (P := l.prog) (w := w) (base := base) F_keep T
    have GOne := ok_one F_one T GFront b_front k_front m_front GKeep b_keep k_keep m_keep
    have GNarrow := ok_narrow F_narrow T ⟨PySem.W.mg_of X G y_tm, x_xc⟩ ⟨_, PySem.W.mg_of X G v2⟩ GSize b_size m_size GTies b_ties m_ties GAt b_at m_at GOne b_one k_one m_one
    have GOrder := ok_order F_order T GMix b_mix k_mix m_mix
    have GRefuse := ok_refuse F_refuse T N GNarrow b_narrow k_narrow m_narrow
    have GIsOrd := ok_isord (P := l.prog) (w := w) (base := base) F_isord T
    have GWidth := ok_width (P := l.prog) (w := w) (base := base) F_width T
    exact ok_law F_law T (PySem.W.mg_none_of X G x_zr) GCell b_cell k_cell m_cell GWeb b_web k_web m_web ⟨mk, a1, i1, kc⟩ GInit b_init GSize b_size m_size GTies b_ties m_ties GNarrow b_narrow k_narrow m_narrow GOrder b_order k_order m_order GWidth b_width k_width m_width GRefuse b_refuse k_refuse m_refuse GIsOrd b_isord k_isord m_isord
  exact ⟨_, fun s v => .of_eq rfl, fun base _ _ => law_all base⟩
theorem walk {l : PySem.W.OpenLaw} {q : Program} {loose : List Str} {XP : (Str → Option Value) → Heap → Prop} {YP : World → Heap → Prop} {d : DefRec} {K : Params → PySem.W.Frag} (hn : l.most = some 63) (hdf : d.params.defaults = [])
    (hY : ∀ (w : World) (h : Heap), YP w h → (K w.params).In h)
    (F : ∀ (w : World) (mg : Str → Option Value) (fa : Addr) (h : Heap), (K w.params).In h → h.Ns mainGlobals mg → mg d.name = some (.ref fa) →
      ∃ fd : FuncData, (∀ (s : Shared) (u : Value), BindsTo s fd ⟨[u], []⟩ [("_law_script", u)]) ∧ ∀ base : Heap, (K w.params).In base → base.Ns mainGlobals mg → FnOk l.prog w (K w.params) mg base CX0 6 fa fd ["_law_script"] (spLaw (K w.params))) :
    PySem.W.WalkO q loose XP YP l.row.toRowW d [] (fun f vs => PySem.call f vs) :=
  L2.walk_of (n := 63) (k := 6) (x := "_law_script") (CX := fun _ => CX0) (sp := fun w => spLaw (K w.params)) hn (by decide) hdf ⟨rfl, by decide, by decide, rfl⟩ hY F (fun _ _ a ns hl _ hS => ⟨a, ns, rfl, hS, hl, fun _ => rfl⟩) fun _ _ _ _ _ z => z
end K16
open PySem PySem.W PyProof.Rows
set_option maxRecDepth 100000 in
set_option maxHeartbeats 0 in
theorem PySem.Challenge.cw_frontways_k16_whole_no_narrower_order_holds : PySem.Challenge.rw_frontways_k16_whole_no_narrower_order.Holds := by
  w_on; o_law; k_head; (case hw => w_witness2)
  k_fill
  refine K16.walk (l := PySem.Challenge.rw_frontways_k16_whole_no_narrower_order) rfl rfl (fun w h Y => PySem.W.kIn_of Y) ?F
  case F =>
    intro w mg fa h KX G hmg
    refine' K16.all_mk KX G hmg ?aC ?a1 ?i1 ?l1 ?c1 ?k1 ?a2 ?i2 ?l2 ?c2 ?k2 ?a3 ?i3 ?l3 ?c3 ?k3 ?a4 ?i4 ?l4 ?c4 ?k4 ?a5 ?l5 ?c5 ?k5 ?a6 ?l6 ?c6 ?k6 ?a7 ?l7 ?c7 ?k7 ?a8 ?l8 ?c8 ?k8 ?a9 ?l9 ?c9 ?k9 ?a10 ?l10 ?c10 ?k10 ?a11 ?l11 ?c11 ?k11 ?a12 ?l12 ?c12 ?k12 ?a13 ?l13 ?c13 ?k13 ?a14 ?l14 ?c14 ?k14 ?a15 ?l15 ?c15 ?k15 ?a16 ?l16 ?c16 ?k16 ?a17 ?l17 ?c17 ?k17 ?a18 ?l18 ?c18 ?k18 ?a19 ?l19 ?c19 ?k19 ?a20 ?l20 ?c20 ?k20 ?a21 ?l21 ?c21 ?k21 ?pg ?hd ?po ?sa ?mk ?kc ?n0 ?n1 ?v0 ?v1 ?v2 ?z0 ?z1 ?z2 ?z3 ?z4 ?z5 ?z6 ?z7 ?z8 ?z9 ?z10 ?y_fe ?y_tm ?y_bk ?y_br ?y_bt ?y_nk ?y_nn ?y_nu ?y_nr ?y_ns ?y_nx ?y_ni ?y_no ?y_nw ?y_tw ?y_un ?x_ty ?x_cl ?x_ex ?x_ga ?x_gt ?x_gc ?x_ob ?x_be ?x_is ?x_sb ?x_k1 ?x_k2 ?x_o1 ?x_o2 ?x_xc ?x_zv ?x_zr
    (case aC => k_is)
    (case a1 => k_is)
    (case i1 => k_is)
    (case l1 => k_is)
    (case c1 => k_is)
    (case k1 => k_is)
    (case a2 => k_is)
    (case i2 => k_is)
    (case l2 => k_is)
    (case c2 => k_is)
    (case k2 => k_is)
    (case a3 => k_is)
    (case i3 => k_is)
    (case l3 => k_is)
    (case c3 => k_is)
    (case k3 => k_is)
    (case a4 => k_is)
    (case i4 => k_is)
    (case l4 => k_is)
    (case c4 => k_is)
    (case k4 => k_is)
    (case a5 => k_is)
    (case l5 => k_is)
    (case c5 => k_is)
    (case k5 => k_is)
    (case a6 => k_is)
    (case l6 => k_is)
    (case c6 => k_is)
    (case k6 => k_is)
    (case a7 => k_is)
    (case l7 => k_is)
    (case c7 => k_is)
    (case k7 => k_is)
    (case a8 => k_is)
    (case l8 => k_is)
    (case c8 => k_is)
    (case k8 => k_is)
    (case a9 => k_is)
    (case l9 => k_is)
    (case c9 => k_is)
    (case k9 => k_is)
    (case a10 => k_is)
    (case l10 => k_is)
    (case c10 => k_is)
    (case k10 => k_is)
    (case a11 => k_is)
    (case l11 => k_is)
    (case c11 => k_is)
    (case k11 => k_is)
    (case a12 => k_is)
    (case l12 => k_is)
    (case c12 => k_is)
    (case k12 => k_is)
    (case a13 => k_is)
    (case l13 => k_is)
    (case c13 => k_is)
    (case k13 => k_is)
    (case a14 => k_is)
    (case l14 => k_is)
    (case c14 => k_is)
    (case k14 => k_is)
    (case a15 => k_is)
    (case l15 => k_is)
    (case c15 => k_is)
    (case k15 => k_is)
    (case a16 => k_is)
    (case l16 => k_is)
    (case c16 => k_is)
    (case k16 => k_is)
    (case a17 => k_is)
    (case l17 => k_is)
    (case c17 => k_is)
    (case k17 => k_is)
    (case a18 => k_is)
    (case l18 => k_is)
    (case c18 => k_is)
    (case k18 => k_is)
    (case a19 => k_is)
    (case l19 => k_is)
    (case c19 => k_is)
    (case k19 => k_is)
    (case a20 => k_is)
    (case l20 => k_is)
    (case c20 => k_is)
    (case k20 => k_is)
    (case a21 => k_is)
    (case l21 => k_is)
    (case c21 => k_is)
    (case k21 => k_is)
    (case pg => k_is)
    (case hd => k_is)
    (case po => k_is)
    (case sa => k_is)
    (case mk => k_is)
    (case kc => k_is)
    (case n0 => k_is)
    (case n1 => k_is)
    (case v0 => k_is)
    (case v1 => k_is)
    (case v2 => k_is)
    (case z0 => k_is)
    (case z1 => k_is)
    (case z2 => k_is)
    (case z3 => k_is)
    (case z4 => k_is)
    (case z5 => k_is)
    (case z6 => k_is)
    (case z7 => k_is)
    (case z8 => k_is)
    (case z9 => k_is)
    (case z10 => k_is)
    (case y_fe => k_is)
    (case y_tm => k_is)
    (case y_bk => k_is)
    (case y_br => k_is)
    (case y_bt => k_is)
    (case y_nk => k_is)
    (case y_nn => k_is)
    (case y_nu => k_is)
    (case y_nr => k_is)
    (case y_ns => k_is)
    (case y_nx => k_is)
    (case y_ni => k_is)
    (case y_no => k_is)
    (case y_nw => k_is)
    (case y_tw => k_is)
    (case y_un => k_is)
    (case x_ty => k_is)
    (case x_cl => k_is)
    (case x_ex => k_is)
    (case x_ga => k_is)
    (case x_gt => k_is)
    (case x_gc => k_is)
    (case x_ob => k_is)
    (case x_be => k_is)
    (case x_is => k_is)
    (case x_sb => k_is)
    (case x_k1 => kit_is)
    (case x_k2 => kit_is)
    (case x_o1 => kit_is)
    (case x_o2 => kit_is)
    (case x_xc => k_exc)
    (case x_zv => k_is)
    (case x_zr => k_is)
