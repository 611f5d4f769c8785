import PyProof.Rows.All
import Wide.All
import OpenK.AllK
import Wide.FinOn
import PyProof.EqAt
import PyProof.EqKinds
import PyProof.NeKinds
import PyProof.TupleCall
import KE.KIsAll
import KE.KIsNot
import KE.RegKIsAll
import OpenK.KOwn
import PyProof.NsDelKeeps
import PyProof.ReprRoads
import PyProof.ExcArgsOwn
import PyProof.IsiH_list
import Lean
import OpenK.KMake
import PyProof.DictIter
import KE.KDictList
import PyProof.Rows.Range3
import PyProof.CallType
import PyProof.EnumMake
import PyProof.Rows.CallKwBuiltin
import KE.LcSums
import PyProof.DefCall
import PyProof.DictItems
import PyProof.DictWalks
import PyProof.TupleOfSeq
import PySem.SetTable
import PyProof.SetKind
import PyProof.IsRules
import PyProof.Rows.SetFrom
import PyProof.FactsAll.set
import KE.KSortTup
import PySem.Challenge.RW_frontways_k51_pairs_told_apart
set_option Elab.async false
set_option linter.all false
set_option maxRecDepth 100000
set_option maxHeartbeats 4000000
namespace L2
open PySem PySem.Spec PyProof.Rows
abbrev Key := Sum Int Str
def keyIs : Key → Value → Bool
  | .inl k, v => Value.isInt k v
  | .inr x, v => Value.isStrOf x v
def keyH (w : World) : Key → Int
  | .inl k => hashInt k
  | .inr x => hashStr w x
theorem keyIs_shape : ∀ {k : Key} {v : Value}, keyIs k v = true → (∃ i t, k = Sum.inl i ∧ v = Value.int i t) ∨ (∃ x t, k = Sum.inr x ∧ v = Value.str x t)
  | .inl i, v, h => by
    obtain ⟨t, e⟩ := Value.isInt_shape (k := i) (v := v) h
    exact .inl ⟨i, t, rfl, e⟩
  | .inr x, v, h => by
    obtain ⟨t, e⟩ := Value.isStrOf_shape (x := x) (v := v) h
    exact .inr ⟨x, t, rfl, e⟩
theorem key_ll (a b : Int) : decide ((Sum.inl a : Key) = Sum.inl b) = (a == b) := by
  by_cases e : a = b
  · subst e; simp
  · have h : ¬ (Sum.inl a : Key) = Sum.inl b := fun q => e (Sum.inl.inj q)
    rw [decide_eq_false h]
    exact (beq_eq_false_iff_ne.mpr e).symm
theorem key_rr (a b : Str) : decide ((Sum.inr a : Key) = Sum.inr b) = decide (a = b) := by
  by_cases e : a = b
  · subst e; simp
  · have h : ¬ (Sum.inr a : Key) = Sum.inr b := fun q => e (Sum.inr.inj q)
    rw [decide_eq_false h, decide_eq_false e]
theorem key_lr (a : Int) (b : Str) : decide ((Sum.inl a : Key) = Sum.inr b) = false := decide_eq_false (fun q => nomatch q)
theorem key_rl (a : Str) (b : Int) : decide ((Sum.inr a : Key) = Sum.inl b) = false := decide_eq_false (fun q => nomatch q)
def mixKind (prog : Program) (w : World) : PySem.KeyKind prog w Key where
  is := keyIs
  hash := keyH w
  inj := fun v a b ha hb => by
    rcases keyIs_shape ha with ⟨i, t, rfl, rfl⟩ | ⟨x, t, rfl, rfl⟩
    · rcases keyIs_shape hb with ⟨j, u, rfl, e⟩ | ⟨y, u, rfl, e⟩
      · injection e with e1 _; rw [e1]
      · exact nomatch e
    · rcases keyIs_shape hb with ⟨j, u, rfl, e⟩ | ⟨y, u, rfl, e⟩
      · exact nomatch e
      · injection e with e1 _; rw [e1]
  byValue := fun k v h => by
    rcases keyIs_shape h with ⟨i, t, rfl, rfl⟩ | ⟨x, t, rfl, rfl⟩ <;> rfl
  pyHash := fun hv h => by
    rcases keyIs_shape hv with ⟨i, t, rfl, rfl⟩ | ⟨x, t, rfl, rfl⟩
    · exact wpAny_pyHash_int h
    · exact wpAny_pyHash_str h
  eqBool := fun hu hv h => by
    rcases keyIs_shape hu with ⟨i, t, rfl, rfl⟩ | ⟨x, t, rfl, rfl⟩
    · rcases keyIs_shape hv with ⟨j, u, rfl, rfl⟩ | ⟨y, u, rfl, rfl⟩
      · rw [key_ll] at h; exact wpAny_eqBool_int h
      · rw [key_lr] at h; exact SeqAt.EqAt.int_str i t y u _ _ _ _ h
    · rcases keyIs_shape hv with ⟨j, u, rfl, rfl⟩ | ⟨y, u, rfl, rfl⟩
      · rw [key_rl] at h; exact SeqAt.EqAt.str_int x t j u _ _ _ _ h
      · rw [key_rr] at h; exact wpAny_eqBool_str h
  «strs» := fun k x t v h => by
    rcases keyIs_shape h with ⟨i, u, rfl, e⟩ | ⟨y, u, rfl, e⟩
    · exact nomatch e
    · injection e with e1 _
      subst e1
      cases v <;> rfl
end L2
namespace L2
open PySem PySem.Spec PyProof.Rows
inductive V where
  | non | bl (b : Bool) | int (i : Int) | str (x : Str) | byt (b : Array UInt8) | flt (b : UInt64) | ref (a : Addr) | ty (n : String)
  deriving DecidableEq
def RelV : V → Value → Prop
  | .non, u => u = Value.none
  | .bl b, u => u = Value.bool b
  | .int i, u => ∃ t, u = Value.int i t
  | .str x, u => ∃ t, u = Value.str x t
  | .byt b, u => ∃ t, u = Value.bytes b t
  | .flt b, u => ∃ t, u = Value.float b t
  | .ref a, u => u = Value.ref a
  | .ty n, u => u = Value.type n
abbrev Vals : List V → List Value → Prop := Paired RelV
theorem Vals.length {xs : List V} {us : List Value} (r : Vals xs us) : xs.length = us.length := Paired.length r
theorem Vals.get : ∀ {xs : List V} {us : List Value} {i : Nat} {x : V}, Vals xs us → xs[i]? = some x → ∃ u, us[i]? = some u ∧ RelV x u
  | _, _, _, _, .nil, e => by simp at e
  | _, _, 0, _, .cons r _, e => by simp at e; subst e; exact ⟨_, rfl, r⟩
  | _, _, i + 1, x, .cons _ t, e => by
    obtain ⟨u, h1, h2⟩ := Vals.get (i := i) (x := x) t (by simpa using e)
    exact ⟨u, by simpa using h1, h2⟩
theorem Vals.append : ∀ {xs ys : List V} {us ws : List Value}, Vals xs us → Vals ys ws → Vals (xs ++ ys) (us ++ ws)
  | _, _, _, _, .nil, s => s
  | _, _, _, _, .cons r t, s => .cons r (Vals.append t s)
theorem Vals.take : ∀ {xs : List V} {us : List Value} (n : Nat), Vals xs us → Vals (xs.take n) (us.take n)
  | _, _, 0, _ => .nil
  | _, _, _ + 1, .nil => .nil
  | _, _, n + 1, .cons r t => .cons r (Vals.take n t)
theorem Vals.drop : ∀ {xs : List V} {us : List Value} (n : Nat), Vals xs us → Vals (xs.drop n) (us.drop n)
  | _, _, 0, r => r
  | _, _, _ + 1, .nil => .nil
  | _, _, n + 1, .cons _ t => Vals.drop n t
def RelO : Option V → Option Value → Prop
  | some v, some u => RelV v u
  | none, none => True
  | _, _ => False
def KV {κ : Type} : List (κ × V) → List (κ × Value) → Prop := Paired fun (p : κ × V) (q : κ × Value) => p.1 = q.1 ∧ RelV p.2 q.2
def kV : Key → V
  | .inl i => .int i
  | .inr x => .str x
inductive HO where
  | lst (xs : List V)
  | tup (xs : List V)
  | dK (kvs : List (Key × V)) | dT (kvs : List (List Key × V))
  | set (S : Int → Bool) (n : Nat)
  | ins (C dx : Addr) (fs : List (Str × V))
  | own (x : Addr)
  | xd (fs : List (Str × V))
  | met (f x : Addr)
  | rng (lo hi : Int)
  | frz (o : Obj) (u : HO)
  | tbl (ps : Array Value)
  | ext (φ : Heap → Prop)
abbrev Hp := Addr → Option HO
def upd (H : Hp) (a : Addr) (o : HO) : Hp := fun b => if b = a then some o else H b
theorem upd_same {H : Hp} {a : Addr} {o : HO} : upd H a o a = some o := by unfold upd; rw [if_pos rfl]
theorem upd_ne {H : Hp} {a b : Addr} {o : HO} (h : b ≠ a) : upd H a o b = H b := by unfold upd; rw [if_neg h]
theorem ne_of {H : Hp} {a b : Addr} {o u : HO} (h : H a = some o) (h' : H b = some u) (d : o ≠ u) : a ≠ b := by
  intro e; subst e; rw [h] at h'; exact d (Option.some.inj h')
theorem ne_of_none {H : Hp} {a b : Addr} {o : HO} (h : H a = some o) (h' : H b = none) : a ≠ b := by
  intro e; subst e; rw [h] at h'; cases h'
section
variable (P : Program) (w : World)
def ObjOk (H : Hp) (h : Heap) (a : Addr) : HO → Prop
  | .lst xs => xs.length ≤ sizeLine ∧ ∃ (its : List Value) (n : Nat), Vals xs its ∧ h.get? a = some { cls := .type "list", data := .seq its.toArray n }
  | .tup xs => xs.length ≤ sizeLine ∧ ∃ its : List Value, Vals xs its ∧ IsTup h a its.toArray
  | .dK kvs => kvs.length ≤ sizeLine ∧ (a == sysModules) = false ∧ ∃ vs, KV kvs vs ∧ h.DictOf (mixKind P w) a vs
  | .dT kvs => kvs.length ≤ sizeLine ∧ (a == sysModules) = false ∧ ∃ xs : List (List Key × Addr × Value),
      Paired (fun (p : List Key × V) (q : List Key × Addr × Value) => p.1 = q.1 ∧ H q.2.1 = some (.tup (p.1.map kV)) ∧ RelV p.2 q.2.2) kvs xs ∧
      ∃ o es ep, h.get? a = some o ∧ o.ExactDict ∧ o.data = .dict es ep ∧ es.toList = xs.map (entryOfKey (tupleKind (mixKind P w))) ∧ (xs.map (·.1)).Nodup
  | .set S n => h.SetOf (intKind P w) a S n
  | .ins C dx fs => H dx = some (.own a) ∧ fs.length ≤ 1000 ∧ dx ≠ a ∧ h.get? a = some (PySem.W.instObj C dx) ∧
      ∃ mA, h.Ns1 dx mA ∧ (∀ f, RelO (fs.lookup f) (mA f)) ∧ PySem.Within mA (fs.map (·.1))
  | .own _ => ∃ o, h.get? a = some o
  | .xd fs => ∃ mA, h.Ns1 a mA ∧ ∀ f, RelO (fs.lookup f) (mA f)
  | .rng lo hi => ∃ t u v, h.get? a = some { cls := .type "range", data := .fields #[.int lo t, .int hi u, .int 1 v] }
  | .frz o u => h.get? a = some o ∧ ObjOk H h a u
  | .tbl ps => h.get? a = some { cls := .none, data := .fields ps }
  | .met f x => h.get? a = some (PySem.W.methodObj (.ref f) (.ref x))
  | .ext φ => φ h ∧ (∃ o, h.get? a = some o) ∧ ∀ h1 h2 : Heap, φ h1 → (∀ o, h1.get? a = some o → h2.get? a = some o) → φ h2
def HOk (H : Hp) (h : Heap) : Prop := ∀ a o, H a = some o → ObjOk P w H h a o
end
section
variable {P : Program} {w : World} {H H' : Hp} {h h' : Heap} {a : Addr} {o : HO}
theorem ObjOk.lt (x : ObjOk P w H h a o) : a < h.objs.size := by
  cases o with
  | lst xs => obtain ⟨_, _, _, _, e⟩ := x; exact Heap.lt_size e
  | tup xs => obtain ⟨_, _, _, p⟩ := x; exact p.lt
  | dK kvs => obtain ⟨_, _, _, _, o, _, _, e, _⟩ := x; exact Heap.lt_size e
  | dT kvs => obtain ⟨_, _, _, _, o, _, _, e, _⟩ := x; exact Heap.lt_size e
  | set S n => obtain ⟨o, _, _, _, e, _⟩ := x; exact Heap.lt_size e
  | ins C dx fs => obtain ⟨_, _, _, e, _⟩ := x; exact Heap.lt_size e
  | own y => obtain ⟨_, e⟩ := x; exact Heap.lt_size e
  | xd fs => obtain ⟨_, ⟨_, _, _, e, _⟩, _⟩ := x; exact Heap.lt_size e
  | rng lo hi => obtain ⟨_, _, _, e⟩ := x; exact Heap.lt_size e
  | frz ob u => obtain ⟨e, _⟩ := x; exact Heap.lt_size e
  | tbl ps => exact Heap.lt_size (show h.get? a = some _ from x)
  | met f y => exact Heap.lt_size (show h.get? a = some _ from x)
  | ext φ => obtain ⟨_, ⟨_, e⟩, _⟩ := x; exact Heap.lt_size e
theorem Paired.mapP {α β : Type} {F G : α → β → Prop} : ∀ {l₁ : List α} {l₂ : List β}, Paired F l₁ l₂ → (∀ a b, F a b → G a b) → Paired G l₁ l₂
  | _, _, .nil, _ => .nil
  | _, _, .cons r t, f => .cons (f _ _ r) (Paired.mapP t f)
theorem ObjOk.stay (x : ObjOk P w H h a o) (k : ∀ b u, (b = a ∨ H b = some (.own a)) → h.get? b = some u → h'.get? b = some u)
    (ho : ∀ b, H b = some (.own a) → H' b = some (.own a)) (ht : ∀ b xs, H b = some (.tup xs) → H' b = some (.tup xs)) : ObjOk P w H' h' a o := by
  induction o with
  | lst xs => obtain ⟨z, its, n, r, e⟩ := x; exact ⟨z, its, n, r, k _ _ (.inl rfl) e⟩
  | tup xs => obtain ⟨z, its, r, ob, e, c⟩ := x; exact ⟨z, its, r, ob, k _ _ (.inl rfl) e, c⟩
  | dK kvs => obtain ⟨z, y, vs, r, ob, es, ep, e, c⟩ := x; exact ⟨z, y, vs, r, ob, es, ep, k _ _ (.inl rfl) e, c⟩
  | dT kvs =>
    obtain ⟨z, y, xs, r, ob, es, ep, e, c⟩ := x
    exact ⟨z, y, xs, Paired.mapP r fun p q z => ⟨z.1, ht _ _ z.2.1, z.2.2⟩, ob, es, ep, k _ _ (.inl rfl) e, c⟩
  | set S n => obtain ⟨ob, es, ep, t, e, c⟩ := x; exact ⟨ob, es, ep, t, k _ _ (.inl rfl) e, c⟩
  | ins C dx fs =>
    obtain ⟨d, z, ne, e, mA, ⟨od, es, ep, e2, c⟩, r⟩ := x
    exact ⟨ho _ d, z, ne, k _ _ (.inl rfl) e, mA, ⟨od, es, ep, k _ _ (.inr d) e2, c⟩, r⟩
  | own y => obtain ⟨ob, e⟩ := x; exact ⟨ob, k _ _ (.inl rfl) e⟩
  | xd fs => obtain ⟨mA, ⟨od, es, ep, e, c⟩, r⟩ := x; exact ⟨mA, ⟨od, es, ep, k _ _ (.inl rfl) e, c⟩, r⟩
  | rng lo hi => obtain ⟨t, u, v, e⟩ := x; exact ⟨t, u, v, k _ _ (.inl rfl) e⟩
  | frz ob u ih => obtain ⟨e, q⟩ := x; exact ⟨k _ _ (.inl rfl) e, ih q⟩
  | tbl ps =>
    have e : h.get? a = some { cls := .none, data := .fields ps } := x
    show h'.get? a = some { cls := .none, data := .fields ps }
    exact k a _ (.inl rfl) e
  | met f y =>
    have e : h.get? a = some (PySem.W.methodObj (.ref f) (.ref y)) := x
    show h'.get? a = some (PySem.W.methodObj (.ref f) (.ref y))
    exact k a _ (.inl rfl) e
  | ext φ => obtain ⟨p, ⟨o, e⟩, st⟩ := x; exact ⟨st _ _ p fun o q => k _ _ (.inl rfl) q, ⟨o, k _ _ (.inl rfl) e⟩, st⟩
theorem HOk.lt (x : HOk P w H h) (e : H a = some o) : a < h.objs.size := (x a o e).lt
theorem HOk.fresh (x : HOk P w H h) (e : h.objs.size ≤ a) : H a = none := by
  cases q : H a with
  | none => rfl
  | some u => exact absurd (Nat.lt_of_lt_of_le (x.lt q) e) (Nat.lt_irrefl _)
theorem HOk.kept (x : HOk P w H h) (k : ∀ b u, h.get? b = some u → h'.get? b = some u) : HOk P w H h' := fun a o e =>
  (x a o e).stay (fun b u _ q => k b u q) (fun _ q => q) fun _ _ q => q
theorem HOk.laid (x : HOk P w H h) (k : ∀ b u, h.get? b = some u → h'.get? b = some u) (hp : h.objs.size ≤ a) (new : ObjOk P w (upd H a o) h' a o) : HOk P w (upd H a o) h' := fun b u e => by
  have hn := x.fresh hp
  by_cases hb : b = a
  · subst hb; rw [upd_same] at e; cases e; exact new
  · rw [upd_ne hb] at e
    exact (x b u e).stay (fun c v _ q => k c v q) (fun c q => by rw [upd_ne (ne_of_none q hn)]; exact q) fun c xs q => by rw [upd_ne (ne_of_none q hn)]; exact q
end
def Rd (H : Hp) (a : Addr) (u : HO) : Prop := H a = some u ∨ ∃ o, H a = some (.frz o u)
theorem Rd.ok {P : Program} {w : World} {H : Hp} {h : Heap} {a : Addr} {u : HO} (r : Rd H a u) (x : HOk P w H h) : ObjOk P w H h a u := by
  rcases r with r | ⟨o, r⟩
  · exact x a u r
  · obtain ⟨_, q⟩ := x a _ r
    exact q
def Mut : Option HO → Prop
  | some (.lst _) => True
  | some (.dK _) => True
  | some (.dT _) => True
  | some (.set _ _) => True
  | some (.ins _ _ _) => True
  | some (.ext _) => True
  | _ => False
section
variable {P : Program} {w : World} {H : Hp} {h h' : Heap} {x e : Addr} {o' : HO}
theorem HOk.write (ok : HOk P w H h) (mu : Mut (H x)) (he : e = x ∨ H e = some (.own x)) (k : ∀ b u, b ≠ e → h.get? b = some u → h'.get? b = some u) (heo : ∃ u, h'.get? e = some u)
    (new : ObjOk P w (upd H x o') h' x o') : HOk P w (upd H x o') h' := fun b u q => by
  have nown : ∀ c y, H c = some (.own y) → c ≠ x := fun c y r z => by subst z; rw [r] at mu; exact mu
  have ntup : ∀ c xs, H c = some (.tup xs) → c ≠ x := fun c xs r z => by subst z; rw [r] at mu; exact mu
  by_cases hb : b = x
  · subst hb; rw [upd_same] at q; cases q; exact new
  · rw [upd_ne hb] at q
    by_cases hbe : b = e
    · have q' : H b = some (.own x) := by
        rcases he with z | z
        · exact absurd (hbe.trans z) hb
        · rw [hbe]; exact z
      rw [q] at q'; cases q'
      obtain ⟨v, hv⟩ := heo
      exact ⟨v, by rw [hbe]; exact hv⟩
    · refine (ok b u q).stay (fun c v hc r => k c v ?_ r) (fun c r => by rw [upd_ne (nown c b r)]; exact r) fun c xs r => by rw [upd_ne (ntup c xs r)]; exact r
      rcases hc with rfl | hc
      · exact hbe
      · rintro rfl
        rcases he with z | z
        · exact nown c b hc z
        · rw [hc] at z; cases z; exact hb rfl
end
structure Un (fs ex : List Addr) (H H' : Hp) (h h' : Heap) : Prop where
  keep : ∀ b o, h.get? b = some o → H b = none → b ∉ fs → b ∉ ex → h'.get? b = some o
  slot : ∀ b o, h.get? b = some o → H b = none → b ∈ fs → b ∉ ex → ∃ sl, h'.get? b = some { o with slots := sl }
  free : ∀ b o, h.get? b = some o → H b = none → b ∉ ex → H' b = none
  there : ∀ b o, h.get? b = some o → b ∉ ex → ∃ o', h'.get? b = some o'
  tups : ∀ b xs, H b = some (.tup xs) → H' b = some (.tup xs)
  frzs : ∀ b o u, H b = some (.frz o u) → H' b = some (.frz o u)
  tbls : ∀ b ps, H b = some (.tbl ps) → ∃ more, H' b = some (.tbl (ps ++ more))
section
variable {fs fs' ex ex' : List Addr} {H H1 H2 : Hp} {h h1 h2 h' : Heap} {a x e : Addr} {o : HO}
theorem Un.any (u : Un fs ex H H1 h h1) {b : Addr} {ob : Obj} (q : h.get? b = some ob) (n : H b = none) (hx : b ∉ ex) : ∃ sl, h1.get? b = some { ob with slots := sl } := by
  by_cases hb : b ∈ fs
  · exact u.slot b ob q n hb hx
  · exact ⟨ob.slots, u.keep b ob q n hb hx⟩
theorem Un.kept (k : ∀ b u, h.get? b = some u → h'.get? b = some u) : Un fs ex H H h h' :=
  ⟨fun b ob q _ _ _ => k b ob q, fun b ob q _ _ _ => ⟨ob.slots, k b ob q⟩, fun _ _ _ n _ => n, fun b ob q _ => ⟨ob, k b ob q⟩, fun _ _ q => q, fun _ _ _ q => q, fun _ ps q => ⟨#[], by rw [q]; simp⟩⟩
theorem Un.refl : Un fs ex H H h h := Un.kept fun _ _ q => q
theorem Un.laid (k : ∀ b u, h.get? b = some u → h'.get? b = some u) (hp : h.objs.size ≤ a) (hn : H a = none) : Un fs ex H (upd H a o) h h' where
  keep := fun b u q _ _ _ => k b u q
  slot := fun b u q _ _ _ => ⟨u.slots, k b u q⟩
  free := fun b u q n _ => by rw [upd_ne (Nat.ne_of_lt (Nat.lt_of_lt_of_le (Heap.lt_size q) hp))]; exact n
  there := fun b u q _ => ⟨u, k b u q⟩
  tups := fun b xs q => by rw [upd_ne (ne_of_none q hn)]; exact q
  frzs := fun b u xs q => by rw [upd_ne (ne_of_none q hn)]; exact q
  tbls := fun b ps q => ⟨#[], by rw [upd_ne (ne_of_none q hn), q]; simp⟩
theorem Un.write (mu : Mut (H x)) (he : e = x ∨ H e = some (.own x)) (k : ∀ b u, b ≠ e → h.get? b = some u → h'.get? b = some u) (heo : ∃ u, h'.get? e = some u) : Un fs ex H (upd H x o) h h' := by
  have hx : ∀ b, H b = none → b ≠ x := fun b n z => by subst z; rw [n] at mu; exact mu
  have hb : ∀ b, H b = none → b ≠ e := fun b n z => by
    subst z
    rcases he with r | r
    · exact hx b n r
    · rw [n] at r; cases r
  have hm : ∀ b u, H b = some u → ¬ Mut (some u) → b ≠ x := fun b u q nm z => by subst z; rw [q] at mu; exact nm mu
  refine ⟨fun b u q n _ _ => k b u (hb b n) q, fun b u q n _ _ => ⟨u.slots, k b u (hb b n) q⟩, fun b u q n _ => by rw [upd_ne (hx b n)]; exact n, fun b u q _ => ?_,
    fun b xs q => by rw [upd_ne (hm b _ q fun z => z)]; exact q, fun b u xs q => by rw [upd_ne (hm b _ q fun z => z)]; exact q, fun b ps q => ⟨#[], by rw [upd_ne (hm b _ q fun z => z), q]; simp⟩⟩
  by_cases hbe : b = e
  · subst hbe; exact heo
  · exact ⟨u, k b u hbe q⟩
end
def trk (h : Heap) (H : Hp) : List Addr := (List.range h.objs.size).filter fun a => (H a).isSome
def hidT (h : Heap) (H : Hp) : Heap := PySem.W.hideAll h (trk h H)
theorem hidT_size (h : Heap) (H : Hp) : (hidT h H).objs.size = h.objs.size := PySem.W.hideAll_size _ _
theorem hidT_get {h : Heap} {H : Hp} {b : Addr} {o : Obj} (e : h.get? b = some o) (n : H b = none) : (hidT h H).get? b = some o :=
  PySem.W.hideAll_get _ e fun hm => by
    have q : (H b).isSome = true := (List.mem_filter.mp hm).2
    rw [n] at q; simp at q
theorem of_hidT {h : Heap} {H : Hp} {b : Addr} {o : Obj} (e : (hidT h H).get? b = some o) : h.get? b = some o ∧ H b = none := by
  have e' : h.get? b = some o := PySem.W.of_hideAll (trk h H) e
  refine ⟨e', ?_⟩
  cases q : H b with
  | none => rfl
  | some x =>
    have hm : b ∈ trk h H := List.mem_filter.mpr ⟨List.mem_range.mpr (Heap.lt_size e'), by simp [q]⟩
    have z : (hidT h H).get? b = none := PySem.W.hideAll_none (trk h H) hm
    rw [z] at e; cases e
end L2
namespace L2
open PySem PySem.Spec PyProof.Rows
structure Mod (K : PySem.W.Frag) (mg : Str → Option Value) (base : Heap) : Prop where
  kin : K.In base
  glob : base.Ns mainGlobals mg
  blt : ∃ mb, base.Ns builtinsNs mb ∧ ∀ x : Str, x ≠ "__name__" → mb x = bootBuiltins x
  nolimit : base.NoLimit
structure Cx where
  prog : Program
  w : World
  K : PySem.W.Frag
  mg : Str → Option Value
  base : Heap
  A : Around
  N : List Str
  s₀ : Shared
  H₀ : Hp
  env : Env
  outer : List Env
  stack : List Env
  ex : List Addr
  fn : Str → Bool
  calm : Bool
  pn : List (Addr × Obj)
  xe : Value → Shared → Prop
def frs (l : List Env) : List Addr := l.filterMap (·.frame)
abbrev Cx.fs (X : Cx) : List Addr := frs X.outer
def Vis (sc : Scope) (x : Str) : Prop := sc.names.lookup x = some .local ∨ sc.names.lookup x = some .cell ∨ sc.names.lookup x = some .free
def Loc (sc : Scope) (x : Str) : Prop := sc.names.lookup x = some .local ∨ sc.names.lookup x = some .cell
def Look (env : Env) (h : Heap) (m : Str → Option Value) (x : Str) (u : Value) : Prop :=
  (env.kindOf x = some .local ∧ m x = some u) ∨ ((env.kindOf x = some .cell ∨ env.kindOf x = some .free) ∧ ∃ c, env.cells.lookup x = some c ∧ h.IsCell c (some u))
structure Cx.Ok (X : Cx) : Prop where
  mod : Mod X.K X.mg X.base
  kind : X.env.scope.kind = .function
  glob : X.env.globals = mainGlobals
  blt : X.env.builtins = builtinsNs
  above : X.s₀.heap.objs.size ≤ X.env.locals
  inj : ∀ x y c, X.env.cells.lookup x = some c → X.env.cells.lookup y = some c → x = y
  has : ∀ x, (X.env.kindOf x = some .cell ∨ X.env.kindOf x = some .free) → ∃ c, X.env.cells.lookup x = some c
  cab : ∀ x c, X.fn x = true → X.env.cells.lookup x = some c → X.s₀.heap.objs.size ≤ c
  hd : X.calm = true → X.A.handled = none
  frames : X.A.frames = some X.stack
  stk : X.stack = X.outer ∨ (X.stack = X.env :: X.outer ∧ X.env.frame = some X.env.locals)
  exf : ∀ b ∈ X.ex, b ≠ X.env.locals ∧ ∀ x c, X.env.cells.lookup x = some c → c ≠ b
  bs : ∀ b o, X.base.get? b = some o → X.s₀.heap.get? b = some o ∧ X.H₀ b = none
  bsz : X.base.objs.size ≤ X.s₀.heap.objs.size
  noex : ∀ b o, X.base.get? b = some o → b ∉ X.ex
  exfs : ∀ b ∈ X.ex, b ∉ X.fs
  funs : X.s₀.heap.FunFrames X.base X.outer
  frf : ∀ b ∈ X.fs, X.H₀ b = none
structure Inv (X : Cx) (pins : List (Addr × Obj)) (σ : List (Option V)) (H : Hp) (s : Shared) : Prop where
  ok : X.Ok
  os : s.os = X.s₀.os
  bare : AllBare s.gens
  base : Un X.fs X.ex X.H₀ H X.s₀.heap s.heap
  loc : ∃ m, s.heap.Ns X.env.locals m ∧ ∀ (i : Nat) (x : Str) (v : V), X.N[i]? = some x → σ[i]? = some (some v) → Vis X.env.scope x → ∃ u, RelV v u ∧ Look X.env s.heap m x u
  cell : ∀ x c, X.env.cells.lookup x = some c → ∃ v, s.heap.IsCell c v
  free : H X.env.locals = none
  freeC : ∀ x c, X.env.cells.lookup x = some c → H c = none
  pin : ∀ p ∈ X.pn ++ pins, s.heap.get? p.1 = some p.2 ∧ H p.1 = none ∧ p.1 ≠ X.env.locals ∧ p.1 ∉ X.fs ∧ ∀ v, p.2.data ≠ .cell v
  hok : HOk X.prog X.w H s.heap
  len : σ.length = X.N.length
section
variable {X : Cx} {pins : List (Addr × Obj)} {σ : List (Option V)} {H H' : Hp} {s : Shared} {h' : Heap}
theorem Cx.Ok.nofr (ok : X.Ok) {b : Addr} {o : Obj} (e : X.base.get? b = some o) : b ∉ X.fs := fun hb => by
  have := (ok.funs.mem hb).1
  rw [e] at this; cases this
theorem Inv.bs (I : Inv X pins σ H s) : ∀ b o, X.base.get? b = some o → s.heap.get? b = some o ∧ H b = none := fun b o e =>
  ⟨I.base.keep b o (I.ok.bs b o e).1 (I.ok.bs b o e).2 (I.ok.nofr e) (I.ok.noex b o e), I.base.free b o (I.ok.bs b o e).1 (I.ok.bs b o e).2 (I.ok.noex b o e)⟩
theorem Inv.bk (I : Inv X pins σ H s) : ∀ b o, X.base.get? b = some o → s.heap.get? b = some o := fun b o e => (I.bs b o e).1
theorem Inv.mod (I : Inv X pins σ H s) : Mod X.K X.mg X.base := I.ok.mod
theorem Inv.kIn (I : Inv X pins σ H s) : X.K.In s.heap := I.ok.mod.kin.keeps I.bk
theorem Inv.lt (I : Inv X pins σ H s) : X.env.locals < s.heap.objs.size := let ⟨_, hn, _⟩ := I.loc; hn.lt
theorem Inv.sz (I : Inv X pins σ H s) : X.s₀.heap.objs.size ≤ s.heap.objs.size := Nat.le_trans I.ok.above (Nat.le_of_lt I.lt)
theorem Inv.nofs (I : Inv X pins σ H s) {a : Addr} (h : s.heap.objs.size ≤ a) : a ∉ X.fs := fun hb => by
  obtain ⟨_, o, ho, _⟩ := I.ok.funs.mem hb
  exact absurd (Nat.lt_of_lt_of_le (Heap.lt_size ho) (Nat.le_trans I.sz h)) (Nat.lt_irrefl _)
theorem Inv.cne (I : Inv X pins σ H s) : ∀ x c, X.env.cells.lookup x = some c → c ≠ X.env.locals := fun x c e z => by
  obtain ⟨v, o, ho, hd⟩ := I.cell x c e
  obtain ⟨m, ⟨o', es, ep, ho', hd', _⟩, _⟩ := I.loc
  rw [z, ho'] at ho; cases ho; rw [hd'] at hd; cases hd
theorem Inv.funs (I : Inv X pins σ H s) : s.heap.FunFrames X.base X.outer := by
  have all : ∀ (l : List Env), (∀ b ∈ frs l, b ∈ X.fs) → X.s₀.heap.FunFrames X.base l → s.heap.FunFrames X.base l := by
    intro l
    induction l with
    | nil => intro _ _; trivial
    | cons env r ih =>
      intro hs hl
      obtain ⟨hk, ⟨L, o, hf, hn, ho, hd⟩, hr⟩ := hl
      have hL : L ∈ X.fs := hs L (by unfold frs; rw [List.filterMap_cons, hf]; exact List.mem_cons_self)
      obtain ⟨sl, e⟩ := I.base.slot L o ho (I.ok.frf L hL) hL fun z => I.ok.exfs L z hL
      exact ⟨hk, ⟨L, _, hf, hn, e, hd⟩, ih (fun b hb => hs b (by unfold frs; rw [List.filterMap_cons, hf]; exact List.mem_cons_of_mem _ hb)) hr⟩
  exact all X.outer (fun _ hb => hb) I.ok.funs
theorem Inv.stack (I : Inv X pins σ H s) : s.heap.FunFrames X.base X.stack := by
  rcases I.ok.stk with e | ⟨e, hf⟩
  · rw [e]; exact I.funs
  · rw [e]
    obtain ⟨m, hn, _⟩ := I.loc
    refine .cons (by rw [I.ok.kind]; decide) hf hn ?_ I.funs
    exact Heap.get?_none_of_le (Nat.le_trans I.ok.bsz I.ok.above)
theorem Inv.stkSub (I : Inv X pins σ H s) : ∀ b ∈ frs X.stack, b ∈ X.env.locals :: X.fs := fun b hb => by
  rcases I.ok.stk with e | ⟨e, hf⟩
  · rw [e] at hb; exact List.mem_cons_of_mem _ hb
  · rw [e] at hb
    unfold frs at hb
    rw [List.filterMap_cons, hf] at hb
    exact hb
theorem Inv.stkFree (I : Inv X pins σ H s) : ∀ b ∈ frs X.stack, H b = none := fun b hb => by
  rcases List.mem_cons.mp (I.stkSub b hb) with e | hb
  · rw [e]; exact I.free
  · obtain ⟨_, o, ho, _⟩ := I.ok.funs.mem hb
    exact I.base.free b o ho (I.ok.frf b hb) fun z => I.ok.exfs b z hb
theorem Inv.step {g' : Array GenState} {t' : Nat} {d' : Drawn} {ch : List Addr} (I : Inv X pins σ H s)
    (hch : ∀ b ∈ ch, (b ∈ X.ex ∨ X.s₀.heap.objs.size ≤ b) ∧ b ≠ X.env.locals ∧ (∀ x c, X.env.cells.lookup x = some c → c ≠ b) ∧ ∀ p ∈ X.pn ++ pins, p.1 ≠ b)
    (keep : ∀ b o, b ≠ X.env.locals → b ∉ X.fs → b ∉ ch → s.heap.get? b = some o → H b = none → h'.get? b = some o)
    (slot : ∀ b o, b ≠ X.env.locals → b ∈ X.fs → b ∉ ch → s.heap.get? b = some o → H b = none → ∃ sl, h'.get? b = some { o with slots := sl }) (free : ∀ b o, b ∉ ch → s.heap.get? b = some o → H b = none → H' b = none)
    (there : ∀ b o, b ∉ ch → s.heap.get? b = some o → ∃ o', h'.get? b = some o')
    (tups : ∀ b xs, H b = some (.tup xs) → H' b = some (.tup xs)) (frzs : ∀ b o u, H b = some (.frz o u) → H' b = some (.frz o u)) (tbls : ∀ b ps, H b = some (.tbl ps) → ∃ more, H' b = some (.tbl (ps ++ more)))
    (ns : ∀ m, s.heap.Ns X.env.locals m → h'.Ns X.env.locals m) (hok : HOk X.prog X.w H' h') (hg : AllBare g') :
    Inv X pins σ H' { s with heap := h', gens := g', drawn := d', toks := t' } := by
  have neL : ∀ b o, X.s₀.heap.get? b = some o → b ≠ X.env.locals := fun b o e => Nat.ne_of_lt (Nat.lt_of_lt_of_le (Heap.lt_size e) I.ok.above)
  have neC : ∀ b o, X.s₀.heap.get? b = some o → b ∉ X.ex → b ∉ ch := fun b o e hx hb => by
    rcases (hch b hb).1 with z | z
    · exact hx z
    · exact absurd (Nat.lt_of_lt_of_le (Heap.lt_size e) z) (Nat.lt_irrefl _)
  have cellK : ∀ x c, X.env.cells.lookup x = some c → ∀ v, s.heap.IsCell c v → h'.IsCell c v := fun x c e v ⟨o, ho, hd⟩ => by
    have nch : c ∉ ch := fun z => (hch c z).2.2.1 x c e rfl
    by_cases hc : c ∈ X.fs
    · obtain ⟨sl, q⟩ := slot c o (I.cne x c e) hc nch ho (I.freeC x c e)
      exact ⟨_, q, hd⟩
    · exact ⟨o, keep c o (I.cne x c e) hc nch ho (I.freeC x c e), hd⟩
  refine ⟨I.ok, I.os, hg, ⟨fun b o e n hb hx => ?_, fun b o e n hb hx => ?_, fun b o e n hx => ?_, fun b o e hx => ?_, fun b xs e => tups b xs (I.base.tups b xs e), fun b o xs e => frzs b o xs (I.base.frzs b o xs e), fun b ps e => ?_⟩, ?_, fun x c e => ?_, ?_, fun x c e => ?_, fun p hp => ?_, hok, I.len⟩
  · exact keep b o (neL b o e) hb (neC b o e hx) (I.base.keep b o e n hb hx) (I.base.free b o e n hx)
  · obtain ⟨sl, e1⟩ := I.base.slot b o e n hb hx
    obtain ⟨sl', e2⟩ := slot b _ (neL b o e) hb (neC b o e hx) e1 (I.base.free b o e n hx)
    exact ⟨sl', e2⟩
  · obtain ⟨o', e1⟩ := I.base.there b o e hx
    exact free b o' (neC b o e hx) e1 (I.base.free b o e n hx)
  · obtain ⟨o', e1⟩ := I.base.there b o e hx
    exact there b o' (neC b o e hx) e1
  · obtain ⟨m1, e1⟩ := I.base.tbls b ps e
    obtain ⟨m2, e2⟩ := tbls b _ e1
    exact ⟨m1 ++ m2, by rw [e2, Array.append_assoc]⟩
  · obtain ⟨m, hn, hl⟩ := I.loc
    refine ⟨m, ns m hn, fun i x v e1 e2 e3 => ?_⟩
    obtain ⟨u, r, l⟩ := hl i x v e1 e2 e3
    refine ⟨u, r, ?_⟩
    rcases l with l | ⟨k, c, e, z⟩
    · exact .inl l
    · exact .inr ⟨k, c, e, cellK x c e _ z⟩
  · obtain ⟨v, z⟩ := I.cell x c e
    exact ⟨v, cellK x c e v z⟩
  · obtain ⟨m, ⟨o, _, _, ho, _⟩, _⟩ := I.loc
    exact free _ o (fun z => (hch _ z).2.1 rfl) ho I.free
  · obtain ⟨v, o, ho, hd⟩ := I.cell x c e
    exact free c o (fun z => (hch c z).2.2.1 x c e rfl) ho (I.freeC x c e)
  · obtain ⟨e, n, ne, nf, d⟩ := I.pin p hp
    have nch : p.1 ∉ ch := fun z => (hch p.1 z).2.2.2 p hp rfl
    exact ⟨keep p.1 p.2 ne nf nch e n, free p.1 p.2 nch e n, ne, nf, d⟩
theorem Inv.un {t' : Nat} (I : Inv X pins σ H s) (u : Un X.fs [] H H' s.heap h') (hok : HOk X.prog X.w H' h') : Inv X pins σ H' { s with heap := h', toks := t' } := by
  obtain ⟨m, ⟨o, es, ep, ho, r⟩, _⟩ := id I.loc
  obtain ⟨sl, hL⟩ := u.any ho I.free (by simp)
  exact I.step (g' := s.gens) (d' := s.drawn) (ch := []) (fun _ z => nomatch z) (fun b o _ hb _ e n => u.keep b o e n hb (by simp)) (fun b o _ hb _ e n => u.slot b o e n hb (by simp)) (fun b o _ e n => u.free b o e n (by simp)) (fun b o _ e => u.there b o e (by simp)) u.tups u.frzs u.tbls (fun m' hm => by
    obtain ⟨o', es', ep', ho', r'⟩ := hm
    rw [ho] at ho'; cases ho'
    exact ⟨_, es', ep', hL, r'⟩) hok I.bare
theorem Inv.call {g' : Array GenState} {t' : Nat} {d' : Drawn} {ch : List Addr} (I : Inv X pins σ H s) (u : Un (frs X.stack) ch H H' s.heap h') (hok : HOk X.prog X.w H' h') (hg : AllBare g')
    (hch : ∀ b ∈ ch, (b ∈ X.ex ∨ X.s₀.heap.objs.size ≤ b) ∧ b ≠ X.env.locals ∧ (∀ x c, X.env.cells.lookup x = some c → c ≠ b) ∧ ∀ p ∈ X.pn ++ pins, p.1 ≠ b) :
    Inv X pins σ H' { s with heap := h', gens := g', drawn := d', toks := t' } := by
  obtain ⟨m, ⟨o, es, ep, ho, r⟩, _⟩ := id I.loc
  obtain ⟨sl, hL⟩ := u.any ho I.free fun z => (hch _ z).2.1 rfl
  exact I.step (ch := ch) hch (fun b o hL hb hc e n => u.keep b o e n (fun z => (List.mem_cons.mp (I.stkSub b z)).elim hL hb) hc) (fun b o _ _ hc e n => u.any e n hc) (fun b o hc e n => u.free b o e n hc) (fun b o hc e => u.there b o e hc) u.tups u.frzs u.tbls (fun m' hm => by
    obtain ⟨o', es', ep', ho', r'⟩ := hm
    rw [ho] at ho'; cases ho'
    exact ⟨_, es', ep', hL, r'⟩) hok hg
theorem Inv.turned {t' : Nat} {it : Addr} (I : Inv X pins σ H s) (k : ∀ b o, b ≠ it → s.heap.get? b = some o → h'.get? b = some o) (hn : H it = none) (hL : it ≠ X.env.locals)
    (h1 : it ∈ X.ex ∨ X.s₀.heap.objs.size ≤ it) (h2 : ∀ x c, X.env.cells.lookup x = some c → c ≠ it) (h3 : ∀ p ∈ X.pn ++ pins, p.1 ≠ it) : Inv X pins σ H { s with heap := h', toks := t' } := by
  have nit : ∀ b u, H b = some u → b ≠ it := fun b u e z => by rw [z, hn] at e; cases e
  refine I.step (g' := s.gens) (d' := s.drawn) (ch := [it]) (fun b hb => ?_) (fun b o _ _ hc e _ => k b o (fun z => hc (by simp [z])) e) (fun b o _ _ hc e _ => ⟨o.slots, k b o (fun z => hc (by simp [z])) e⟩) (fun _ _ _ _ n => n)
    (fun b o hc e => ⟨o, k b o (fun z => hc (by simp [z])) e⟩) (fun _ _ e => e) (fun _ _ _ e => e) (fun b ps e => ⟨#[], by rw [e]; simp⟩) (fun m hm => ?_) (fun b u e => ?_) I.bare
  · have e : b = it := by simpa using hb
    subst e
    exact ⟨h1, hL, h2, h3⟩
  · obtain ⟨o, es, ep, ho, r⟩ := hm
    exact ⟨o, es, ep, k _ o (Ne.symm hL) ho, r⟩
  · refine (I.hok b u e).stay (fun c v hc q => k c v ?_ q) (fun _ q => q) fun _ _ q => q
    rcases hc with z | z
    · rw [z]; exact nit b u e
    · exact nit c _ z
theorem Inv.tok (I : Inv X pins σ H s) (t : Nat) : Inv X pins σ H { s with toks := t } := I.un (h' := s.heap) (t' := t) Un.refl I.hok
theorem Inv.kept {t' : Nat} (I : Inv X pins σ H s) (k : ∀ b u, s.heap.get? b = some u → h'.get? b = some u) : Inv X pins σ H { s with heap := h', toks := t' } := I.un (Un.kept k) (I.hok.kept k)
theorem Inv.laid {a : Addr} {o : HO} {t' : Nat} (I : Inv X pins σ H s) (k : ∀ b u, s.heap.get? b = some u → h'.get? b = some u) (hp : s.heap.objs.size ≤ a) (new : ObjOk X.prog X.w (upd H a o) h' a o) :
    Inv X pins σ (upd H a o) { s with heap := h', toks := t' } := I.un (Un.laid k hp (I.hok.fresh hp)) (I.hok.laid k hp new)
theorem Inv.write {x e : Addr} {o : HO} {t' : Nat} (I : Inv X pins σ H s) (mu : Mut (H x)) (he : e = x ∨ H e = some (.own x)) (k : ∀ b u, b ≠ e → s.heap.get? b = some u → h'.get? b = some u) (heo : ∃ u, h'.get? e = some u)
    (new : ObjOk X.prog X.w (upd H x o) h' x o) : Inv X pins σ (upd H x o) { s with heap := h', toks := t' } := I.un (Un.write mu he k heo) (I.hok.write mu he k heo new)
theorem Inv.pins_of {pins' : List (Addr × Obj)} (I : Inv X pins σ H s) (h : ∀ p ∈ pins', s.heap.get? p.1 = some p.2 ∧ H p.1 = none ∧ p.1 ≠ X.env.locals ∧ p.1 ∉ X.fs ∧ ∀ v, p.2.data ≠ .cell v) : Inv X pins' σ H s :=
  ⟨I.ok, I.os, I.bare, I.base, I.loc, I.cell, I.free, I.freeC, fun p hp => (List.mem_append.mp hp).elim (fun z => I.pin p (List.mem_append_left _ z)) (h p), I.hok, I.len⟩
theorem nodup_ix {N : List Str} (hN : N.Nodup) {i j : Nat} {x : Str} (a : N[i]? = some x) (b : N[j]? = some x) : i = j := by
  obtain ⟨h1, e1⟩ := List.getElem?_eq_some_iff.mp a
  obtain ⟨h2, e2⟩ := List.getElem?_eq_some_iff.mp b
  exact (List.getElem_inj hN).mp (e1.trans e2.symm)
theorem store_ok2 {M : Model} {A : Around} {E : Value → Shared → Prop} {i : Nat} {x : Str} {v : V} {u : Value} {Q : Unit → Shared → Prop} (I : Inv X pins σ H s) (hN : X.N.Nodup) (hi : X.N[i]? = some x) (hx : Loc X.env.scope x) (r : RelV v u)
    (h : ∀ s', Inv X pins (σ.set i (some v)) H s' → (∃ a, Heap.SameBut a s.heap s'.heap ∧ (a = X.env.locals ∨ X.env.cells.lookup x = some a)) → Q () s') (hf : X.fn x = true ∨ X.env.scope.names.lookup x = some .local := by first | exact .inl rfl | exact .inr rfl | assumption) : wpAny M A (storeName X.env x u) Q E s := by
  obtain ⟨m, hn, hl⟩ := id I.loc
  have hcls : (X.env.scope.kind == .class || (X.env.scope.kind == .module && X.env.locals != X.env.globals)) = false := by rw [I.ok.kind]; rfl
  have hiσ : i < σ.length := by rw [I.len]; exact (List.getElem?_eq_some_iff.mp hi).1
  have cne := I.cne
  have tracked : ∀ {a : Addr} {h' : Heap}, (∃ o, s.heap.get? a = some o ∧ H a = none) → Heap.SameBut a s.heap h' → HOk X.prog X.w H h' := fun {a h'} ha hs b ob e => by
    obtain ⟨_, _, hfree⟩ := ha
    refine (I.hok b ob e).stay (fun c w' hc q => (hs.2 c ?_).trans q) (fun _ q => q) fun _ _ q => q
    rintro rfl
    rcases hc with rfl | hc
    · rw [hfree] at e; cases e
    · rw [hfree] at hc; cases hc
  rcases hx with hk | hk
  · refine wpAny_storeName_local hk hn (fun h' hn' hs => ?_) hcls
    obtain ⟨oL, _, _, hoL, _⟩ := id hn
    refine h _ ⟨I.ok, I.os, I.bare, ⟨fun b o e n hb hx => ?_, fun b o e n hb hx => ?_, I.base.free, fun b o e hx => ?_, I.base.tups, I.base.frzs, I.base.tbls⟩, ⟨_, hn', fun j y v' e1 e2 e3 => ?_⟩, fun y c e => ?_, I.free, I.freeC, fun p hp => ?_, tracked ⟨oL, hoL, I.free⟩ hs, by simpa using I.len⟩ ⟨_, hs, .inl rfl⟩
    · exact (hs.2 b (Nat.ne_of_lt (Nat.lt_of_lt_of_le (Heap.lt_size e) I.ok.above))).trans (I.base.keep b o e n hb hx)
    · obtain ⟨sl, e1⟩ := I.base.slot b o e n hb hx
      exact ⟨sl, (hs.2 b (Nat.ne_of_lt (Nat.lt_of_lt_of_le (Heap.lt_size e) I.ok.above))).trans e1⟩
    · obtain ⟨o', e1⟩ := I.base.there b o e hx
      exact ⟨o', (hs.2 b (Nat.ne_of_lt (Nat.lt_of_lt_of_le (Heap.lt_size e) I.ok.above))).trans e1⟩
    · by_cases hj : j = i
      · subst hj
        rw [hi] at e1; cases e1
        rw [List.getElem?_set_self hiσ] at e2
        cases e2
        exact ⟨u, r, .inl ⟨hk, by simp⟩⟩
      · rw [List.getElem?_set_ne (Ne.symm hj)] at e2
        obtain ⟨u', r', q⟩ := hl j y v' e1 e2 e3
        refine ⟨u', r', ?_⟩
        rcases q with ⟨k, e⟩ | ⟨k, c, e, z⟩
        · refine .inl ⟨k, ?_⟩
          have : y ≠ x := fun e => hj (nodup_ix hN e1 (e ▸ hi))
          simp [this, e]
        · exact .inr ⟨k, c, e, z.sameBut hs (cne y c e)⟩
    · obtain ⟨w', z⟩ := I.cell y c e
      exact ⟨w', z.sameBut hs (cne y c e)⟩
    · obtain ⟨e, n, ne, nf, d⟩ := I.pin p hp
      exact ⟨(hs.2 p.1 ne).trans e, n, ne, nf, d⟩
  · have hfn : X.fn x = true := by
      rcases hf with z | z
      · exact z
      · rw [z] at hk; cases hk
    obtain ⟨c, hc⟩ := I.ok.has x (.inl hk)
    obtain ⟨w', z⟩ := I.cell x c hc
    refine wpAny_storeName_cell I.ok.kind hk hc z (fun h' hc' hs => ?_)
    obtain ⟨oc, hoc, hocd⟩ := id z
    refine h { s with heap := h' } ⟨I.ok, I.os, I.bare, ⟨fun b o e n hb hx => ?_, fun b o e n hb hx => ?_, I.base.free, fun b o e hx => ?_, I.base.tups, I.base.frzs, I.base.tbls⟩, ⟨m, hn.sameBut hs (Ne.symm (cne x c hc)), fun j y v' e1 e2 e3 => ?_⟩, fun y c' e => ?_, I.free, I.freeC, fun p hp => ?_, tracked ⟨oc, hoc, I.freeC x c hc⟩ hs, by simpa using I.len⟩ ⟨c, hs, .inr hc⟩
    · exact (hs.2 b (Nat.ne_of_lt (Nat.lt_of_lt_of_le (Heap.lt_size e) (I.ok.cab x c hfn hc)))).trans (I.base.keep b o e n hb hx)
    · obtain ⟨sl, e1⟩ := I.base.slot b o e n hb hx
      exact ⟨sl, (hs.2 b (Nat.ne_of_lt (Nat.lt_of_lt_of_le (Heap.lt_size e) (I.ok.cab x c hfn hc)))).trans e1⟩
    · obtain ⟨o', e1⟩ := I.base.there b o e hx
      exact ⟨o', (hs.2 b (Nat.ne_of_lt (Nat.lt_of_lt_of_le (Heap.lt_size e) (I.ok.cab x c hfn hc)))).trans e1⟩
    · by_cases hj : j = i
      · subst hj
        rw [hi] at e1; cases e1
        rw [List.getElem?_set_self hiσ] at e2
        cases e2
        exact ⟨u, r, .inr ⟨.inl hk, c, hc, hc'⟩⟩
      · rw [List.getElem?_set_ne (Ne.symm hj)] at e2
        obtain ⟨u', r', q⟩ := hl j y v' e1 e2 e3
        refine ⟨u', r', ?_⟩
        rcases q with q | ⟨k, c', e, z'⟩
        · exact .inl q
        · refine .inr ⟨k, c', e, z'.sameBut hs ?_⟩
          rintro rfl
          exact hj (nodup_ix hN e1 (I.ok.inj _ _ _ e hc ▸ hi))
    · by_cases hcc : c' = c
      · subst hcc; exact ⟨_, hc'⟩
      · obtain ⟨w2, z2⟩ := I.cell y c' e
        exact ⟨w2, z2.sameBut hs hcc⟩
    · obtain ⟨e, n, ne, nf, d⟩ := I.pin p hp
      refine ⟨(hs.2 p.1 ?_).trans e, n, ne, nf, d⟩
      intro q
      rw [q, hoc] at e
      have q' : oc = p.2 := Option.some.inj e
      exact d w' (by rw [← q']; exact hocd)
theorem store_ok {M : Model} {A : Around} {E : Value → Shared → Prop} {i : Nat} {x : Str} {v : V} {u : Value} {Q : Unit → Shared → Prop} (I : Inv X pins σ H s) (hN : X.N.Nodup) (hi : X.N[i]? = some x) (hx : Loc X.env.scope x) (r : RelV v u)
    (h : ∀ s', Inv X pins (σ.set i (some v)) H s' → Q () s') (hf : X.fn x = true ∨ X.env.scope.names.lookup x = some .local := by first | exact .inl rfl | exact .inr rfl | assumption) : wpAny M A (storeName X.env x u) Q E s :=
  store_ok2 I hN hi hx r (fun s' I' _ => h s' I') hf
theorem Inv.call' {s' : Shared} {ch : List Addr} (I : Inv X pins σ H s) (ho : s'.os = s.os) (u : Un (frs X.stack) ch H H' s.heap s'.heap) (hok : HOk X.prog X.w H' s'.heap) (hg : AllBare s'.gens)
    (hch : ∀ b ∈ ch, (b ∈ X.ex ∨ X.s₀.heap.objs.size ≤ b) ∧ b ≠ X.env.locals ∧ (∀ x c, X.env.cells.lookup x = some c → c ≠ b) ∧ ∀ p ∈ X.pn ++ pins, p.1 ≠ b) : Inv X pins σ H' s' := by
  obtain ⟨h', g', d', t', o'⟩ := s'
  have e : o' = s.os := ho
  subst e
  exact I.call (g' := g') (t' := t') (d' := d') u hok hg hch
end
abbrev XK := Value → Option Addr → Hp → Prop
abbrev St := List (Option V)
abbrev VK := V → Hp → Prop
abbrev TE := St → Hp → VK → Prop
abbrev TT := St → Hp → (Bool → Hp → Prop) → Prop
abbrev TA := St → Hp → (List V → Hp → Prop) → Prop
structure Ends where
  nx : St → Hp → Prop
  rt : VK
  bk : St → Hp → Prop := fun _ _ => False
  ct : St → Hp → Prop := fun _ _ => False
abbrev TS := Ends → St → Hp → Prop
def EP (X : Cx) (pins : List (Addr × Obj)) (σ : St) (Q : VK) (u : Value) (s' : Shared) : Prop := ∃ v H', Inv X pins σ H' s' ∧ RelV v u ∧ Q v H'
def TP (X : Cx) (pins : List (Addr × Obj)) (σ : St) (Q : Bool → Hp → Prop) (b : Bool) (s' : Shared) : Prop := ∃ H', Inv X pins σ H' s' ∧ Q b H'
def AP (X : Cx) (pins : List (Addr × Obj)) (σ : St) (Q : List V → Hp → Prop) (us : List Value) (s' : Shared) : Prop := ∃ vs H', Inv X pins σ H' s' ∧ Vals vs us ∧ Q vs H'
def SP (X : Cx) (pins : List (Addr × Obj)) (D : Ends) (f : Flow) (s' : Shared) : Prop :=
  match f with
  | .next => ∃ σ' H', Inv X pins σ' H' s' ∧ D.nx σ' H'
  | .brk => ∃ σ' H', Inv X pins σ' H' s' ∧ D.bk σ' H'
  | .cont => ∃ σ' H', Inv X pins σ' H' s' ∧ D.ct σ' H'
  | .ret u => ∃ v σ' H', Inv X pins σ' H' s' ∧ RelV v u ∧ D.rt v H'
def PE (X : Cx) (e : Expr) (t : TE) : Prop :=
  ∀ (pins : List (Addr × Obj)) (s : Shared) (σ : St) (H : Hp) (Q : VK), Inv X pins σ H s → t σ H Q → wpAny (model X.prog X.w) X.A (eval e X.env) (EP X pins σ Q) X.xe s
def PT (X : Cx) (e : Expr) (t : TT) : Prop :=
  ∀ (pins : List (Addr × Obj)) (s : Shared) (σ : St) (H : Hp) (Q : Bool → Hp → Prop), Inv X pins σ H s → t σ H Q → wpAny (model X.prog X.w) X.A (isTrue e X.env (eval e X.env)) (TP X pins σ Q) X.xe s
def PW (X : Cx) (e : Expr) (t : TT) : Prop :=
  ∀ (whole : Sem Value) (pins : List (Addr × Obj)) (s : Shared) (σ : St) (H : Hp) (Q : Bool → Hp → Prop), Inv X pins σ H s → t σ H Q → wpAny (model X.prog X.w) X.A (isTrue e X.env whole) (TP X pins σ Q) X.xe s
theorem PW.pt {X : Cx} {e : Expr} {t : TT} (h : PW X e t) : PT X e t := h _
def PA (X : Cx) (es : List Expr) (t : TA) : Prop :=
  ∀ (pos : Pos) (pins : List (Addr × Obj)) (s : Shared) (σ : St) (H : Hp) (Q : List V → Hp → Prop), Inv X pins σ H s → t σ H Q → wpAny (model X.prog X.w) X.A (spliced (backTo pos (starEach es X.env))) (AP X pins σ Q) X.xe s
def PS (X : Cx) (st : Stmt) (t : TS) : Prop :=
  ∀ (pins : List (Addr × Obj)) (s : Shared) (σ : St) (H : Hp) (D : Ends), Inv X pins σ H s → t D σ H → wpAny (model X.prog X.w) X.A (exec st X.env) (SP X pins D) X.xe s
def PSs (X : Cx) (st : List Stmt) (t : TS) : Prop :=
  ∀ (pins : List (Addr × Obj)) (s : Shared) (σ : St) (H : Hp) (D : Ends), Inv X pins σ H s → t D σ H → wpAny (model X.prog X.w) X.A (execs st X.env) (SP X pins D) X.xe s
theorem thn {α : Type} {t : Sem α} {Q Q' : α → Shared → Prop} {M : Model} {A : Around} {E : Value → Shared → Prop} {s : Shared} (h : wpAny M A t Q E s) (hQ : ∀ a s, Q a s → Q' a s) : wpAny M A t Q' E s := wpAny_mono h hQ fun _ _ x => x
end L2
namespace L2
open PySem PySem.Spec PyProof.Rows
section
variable {X : Cx}
def tVar (i : Nat) : TE := fun σ H Q => ∃ v, σ[i]? = some (some v) ∧ Q v H
def tC (v : V) : TE := fun _ H Q => Q v H
theorem pe_var {i : Nat} {x : Str} {pos : Pos} (hN : X.N[i]? = some x) (hv : Vis X.env.scope x) (hd : (x == ("__debug__" : Str)) = false := by decide) (hcd : (x == ("__classdict__" : Str)) = false := by decide) : PE X (.Name x pos) (tVar i) := by
  intro pins s σ H Q I h
  obtain ⟨v, e, h⟩ := h
  obtain ⟨m, hn, hl⟩ := I.loc
  obtain ⟨u, r, l⟩ := hl i x v hN e hv
  have fin : EP X pins σ Q u s := ⟨v, H, I, r, h⟩
  rcases l with ⟨hk, hm⟩ | ⟨hk, c, hc, hcell⟩
  · exact wpAny_Name (wpAny_loadName_local I.ok.kind hk hn hm fin) hd
  · rcases hk with hk | hk
    · exact wpAny_Name (wpAny_loadName_cell I.ok.kind hk hc hcell fin) hd
    · exact wpAny_Name (wpAny_loadName_free I.ok.kind hk hc hcell fin hcd) hd
theorem pe_int {i j pos} : PE X (.Constant (.int i) j pos) (tC (.int i)) := fun _ _ _ H _ I h => wpAny_Constant_int ⟨.int i, H, I.tok _, ⟨_, rfl⟩, h⟩
theorem pe_bl {b j pos} : PE X (.Constant (.bool b) j pos) (tC (.bl b)) := fun _ _ _ H _ I h => Constant_bool ⟨.bl b, H, I, rfl, h⟩
def Gl (X : Cx) (x : Str) : Prop := X.env.kindOf x = some .globalImplicit
theorem ld_glob {E : Value → Shared → Prop} {pins : List (Addr × Obj)} {s : Shared} {σ : St} {H : Hp} {x : Str} {u : Value} {pos : Pos} {Q : Value → Shared → Prop} (I : Inv X pins σ H s) (hg : Gl X x) (hm : X.mg x = some u) (h : Q u s)
    (hd : (x == ("__debug__" : Str)) = false := by decide) : wpAny (model X.prog X.w) X.A (eval (.Name x pos) X.env) Q E s :=
  Calls.Name_function_global I.ok.kind hg (Calls.loadGlobal_global (by rw [I.ok.glob]; exact I.mod.glob.keeps I.bk) hm h) hd
theorem ld_blt {E : Value → Shared → Prop} {pins : List (Addr × Obj)} {s : Shared} {σ : St} {H : Hp} {x : Str} {u : Value} {pos : Pos} {Q : Value → Shared → Prop} (I : Inv X pins σ H s) (hg : Gl X x) (hm : X.mg x = none) (hv : bootBuiltins x = some u) (h : Q u s)
    (hn : x ≠ "__name__" := by decide) (hd : (x == ("__debug__" : Str)) = false := by decide) : wpAny (model X.prog X.w) X.A (eval (.Name x pos) X.env) Q E s := by
  obtain ⟨mb, h1, h2⟩ := I.mod.blt
  exact Calls.Name_function_global I.ok.kind hg (Calls.loadGlobal_builtin (by rw [I.ok.glob]; exact I.mod.glob.keeps I.bk) hm (by rw [I.ok.blt]; exact h1.keeps I.bk) ((h2 x hn).trans hv) h) hd
theorem pe_glob {x : Str} {v : V} {u : Value} {pos : Pos} (hg : Gl X x) (hm : X.mg x = some u) (r : RelV v u) (hd : (x == ("__debug__" : Str)) = false := by decide) : PE X (.Name x pos) (tC v) :=
  fun _ _ _ H _ I h => ld_glob I hg hm ⟨v, H, I, r, h⟩ hd
theorem pe_bltn {x : Str} {v : V} {u : Value} {pos : Pos} (hg : Gl X x) (hm : X.mg x = none) (hv : bootBuiltins x = some u) (r : RelV v u) (hn : x ≠ "__name__" := by decide) (hd : (x == ("__debug__" : Str)) = false := by decide) : PE X (.Name x pos) (tC v) :=
  fun _ _ _ H _ I h => ld_blt I hg hm hv ⟨v, H, I, r, h⟩ hn hd
variable {a b : Expr} {ta tb : TE} {pos : Pos}
def tB (t : TE) : TT := fun σ H Q => t σ H fun x H1 => ∃ c, x = .bl c ∧ Q c H1
theorem pt_val {e : Expr} {t : TE} (h : PE X e t) (he : ∀ whole, isTrue e X.env whole = (do let v ← whole; standAt e.pos; holding [v] (truthy v)) := by intro _; rfl) : PT X e (tB t) := by
  intro pins s σ H Q I hw
  refine isTrue_plain (thn (h pins s σ H _ I hw) fun v s1 ⟨x, H1, I1, r1, q1⟩ => ?_) (he _)
  obtain ⟨d, rfl, q⟩ := q1
  cases r1
  exact wpAny_truthy_bool ⟨H1, I1, q⟩
variable {tA tB' : TT} {rest : List Expr}
def tAnd (t u : TT) : TT := fun σ H Q => t σ H fun c H1 => if c = true then u σ H1 Q else Q false H1
def tOr (t u : TT) : TT := fun σ H Q => t σ H fun c H1 => if c = true then Q true H1 else u σ H1 Q
def tNot (t : TT) : TT := fun σ H Q => t σ H fun c H1 => Q (!c) H1
theorem pw_and1 (ha : PT X a tA) : PW X (.BoolOp .And [a] pos) tA := by
  intro wh pins s σ H Q I h
  refine isTrue_and (thn (ha pins s σ H Q I h) fun c s1 e => ?_)
  cases c with
  | true => exact isTrue_and_nil e
  | false => exact e
theorem pw_or1 (ha : PT X a tA) : PW X (.BoolOp .Or [a] pos) tA := by
  intro wh pins s σ H Q I h
  refine isTrue_or (thn (ha pins s σ H Q I h) fun c s1 e => ?_)
  cases c with
  | false => exact isTrue_or_nil e
  | true => exact e
theorem pw_and (ha : PT X a tA) (hb : PW X (.BoolOp .And (b :: rest) pos) tB') : PW X (.BoolOp .And (a :: b :: rest) pos) (tAnd tA tB') := by
  intro wh pins s σ H Q I h
  refine isTrue_and (thn (ha pins s σ H _ I h) fun c s1 ⟨H1, I1, q1⟩ => ?_)
  cases c with
  | true => exact hb wh pins s1 σ H1 Q I1 q1
  | false => exact ⟨H1, I1, q1⟩
theorem pw_or (ha : PT X a tA) (hb : PW X (.BoolOp .Or (b :: rest) pos) tB') : PW X (.BoolOp .Or (a :: b :: rest) pos) (tOr tA tB') := by
  intro wh pins s σ H Q I h
  refine isTrue_or (thn (ha pins s σ H _ I h) fun c s1 ⟨H1, I1, q1⟩ => ?_)
  cases c with
  | true => exact ⟨H1, I1, q1⟩
  | false => exact hb wh pins s1 σ H1 Q I1 q1
theorem pt_not (ha : PT X a tA) : PT X (.UnaryOp .Not a pos) (tNot tA) := by
  intro pins s σ H Q I h
  exact isTrue_not (ha pins s σ H (fun c H1 => Q (!c) H1) I h)
def tAndV (ta tb : TE) : TE := fun σ H Q => ta σ H fun x H1 => ∃ c, x = .bl c ∧ if c = true then tb σ H1 Q else Q (.bl false) H1
def tOrV (ta tb : TE) : TE := fun σ H Q => ta σ H fun x H1 => ∃ c, x = .bl c ∧ if c = true then Q (.bl true) H1 else tb σ H1 Q
def tNotV (ta : TE) : TE := fun σ H Q => ta σ H fun x H1 => ∃ c, x = .bl c ∧ Q (.bl (!c)) H1
theorem pe_one {op} {t : TE} (h : PE X a t) : PE X (.BoolOp op [a] pos) t := fun pins s σ H Q I hw => BoolOp_one (h pins s σ H Q I hw)
theorem pe_and (ha : PE X a ta) (hb : PE X (.BoolOp .And (b :: rest) pos) tb) : PE X (.BoolOp .And (a :: b :: rest) pos) (tAndV ta tb) := by
  intro pins s σ H Q I h
  refine BoolOp_and (thn (ha pins s σ H _ I h) fun v s1 ⟨x, H1, I1, r1, q1⟩ => ?_)
  obtain ⟨c, rfl, q1⟩ := q1
  cases r1
  refine wpAny_truthy_bool ?_
  cases c with
  | true => exact hb pins s1 σ H1 Q I1 q1
  | false => exact ⟨.bl false, H1, I1, rfl, q1⟩
theorem pe_or (ha : PE X a ta) (hb : PE X (.BoolOp .Or (b :: rest) pos) tb) : PE X (.BoolOp .Or (a :: b :: rest) pos) (tOrV ta tb) := by
  intro pins s σ H Q I h
  refine BoolOp_or (thn (ha pins s σ H _ I h) fun v s1 ⟨x, H1, I1, r1, q1⟩ => ?_)
  obtain ⟨c, rfl, q1⟩ := q1
  cases r1
  refine wpAny_truthy_bool ?_
  cases c with
  | false => exact hb pins s1 σ H1 Q I1 q1
  | true => exact ⟨.bl true, H1, I1, rfl, q1⟩
theorem pe_not (ha : PE X a ta) : PE X (.UnaryOp .Not a pos) (tNotV ta) := by
  intro pins s σ H Q I h
  refine UnaryOp_ (thn (ha pins s σ H _ I h) fun v s1 ⟨x, H1, I1, r1, q1⟩ => ?_)
  obtain ⟨c, rfl, q1⟩ := q1
  cases r1
  exact not_of (wpAny_truthy_bool ⟨.bl (!c), H1, I1, rfl, q1⟩)
def tIf (t : TT) (ta tb : TE) : TE := fun σ H Q => t σ H fun c H1 => if c = true then ta σ H1 Q else tb σ H1 Q
theorem pe_ifExp {c : Expr} (hc : PT X c tA) (ha : PE X a ta) (hb : PE X b tb) : PE X (.IfExp c a b pos) (tIf tA ta tb) := by
  intro pins s σ H Q I h
  refine wpAny_IfExp (thn (hc pins s σ H _ I h) fun d s1 ⟨H1, I1, q1⟩ => ?_)
  cases d with
  | true => exact ha pins s1 σ H1 Q I1 q1
  | false => exact hb pins s1 σ H1 Q I1 q1
end
end L2
namespace L2
open PySem PySem.Spec PyProof.Rows
def SqL (K : PySem.W.Frag) (H : Hp) (a : Addr) (xs : List V) : Prop :=
  Rd H a (.lst xs) ∨
    ∃ (o : Obj) (its : Array Value) (n : Nat), K.lookup a = some o ∧ o.cls = .type "list" ∧ o.dict = none ∧ o.data = .seq its n ∧ its.size ≤ sizeLine ∧ Vals xs its.toList
def SqT (K : PySem.W.Frag) (H : Hp) (a : Addr) (xs : List V) : Prop :=
  Rd H a (.tup xs) ∨
    ∃ (o : Obj) (its : Array Value) (n : Nat), K.lookup a = some o ∧ o.cls = .type "tuple" ∧ o.data = .seq its n ∧ its.size ≤ sizeLine ∧ Vals xs its.toList
def absV : Value → Option V
  | .none => some .non
  | .bool b => some (.bl b)
  | .int i _ => some (.int i)
  | .str x _ => some (.str x)
  | .bytes b _ => some (.byt b)
  | .float b _ => some (.flt b)
  | .ref a => some (.ref a)
  | .type n => some (.ty n)
  | _ => none
theorem RelV.abs {x : V} {u : Value} (r : RelV x u) : absV u = some x := by
  cases x with
  | non => cases r; rfl
  | bl _ => cases r; rfl
  | int _ => obtain ⟨t, rfl⟩ := r; rfl
  | str _ => obtain ⟨t, rfl⟩ := r; rfl
  | byt _ => obtain ⟨t, rfl⟩ := r; rfl
  | flt _ => obtain ⟨t, rfl⟩ := r; rfl
  | ref _ => cases r; rfl
  | ty _ => cases r; rfl
theorem RelV.inj {x y : V} {u : Value} (r : RelV x u) (q : RelV y u) : x = y := Option.some.inj (r.abs.symm.trans q.abs)
theorem Vals.inj : ∀ {xs ys : List V} {us : List Value}, Vals xs us → Vals ys us → xs = ys
  | _, _, _, .nil, .nil => rfl
  | _, _, _, .cons r t, .cons r' t' => by rw [r.inj r', Vals.inj t t']
section
variable {X : Cx} {pins : List (Addr × Obj)} {σ : St} {H : Hp} {s : Shared} {a : Addr} {xs ys : List V}
theorem SqL.of {K : PySem.W.Frag} (h : H a = some (.lst xs)) : SqL K H a xs := .inl (.inl h)
theorem SqT.of {K : PySem.W.Frag} (h : H a = some (.tup xs)) : SqT K H a xs := .inl (.inl h)
theorem Inv.list (I : Inv X pins σ H s) (h : SqL X.K H a xs) : ∃ its : List Value, Vals xs its ∧ PlainL s.heap a its.toArray ∧ xs.length ≤ sizeLine := by
  rcases h with h | ⟨o, its, n, hk, hc, hd, hs, hz, r⟩
  · obtain ⟨z, its, n, r, e⟩ := h.ok I.hok
    exact ⟨its, r, ⟨_, n, e, rfl, rfl, rfl⟩, z⟩
  · refine ⟨its.toList, r, ⟨o, n, I.kIn a o hk, hc, hd, by simpa using hs⟩, ?_⟩
    have e := r.length
    simp only [Array.length_toList] at e
    omega
theorem Inv.tuple (I : Inv X pins σ H s) (h : SqT X.K H a xs) : ∃ its : List Value, Vals xs its ∧ IsTup s.heap a its.toArray ∧ xs.length ≤ sizeLine := by
  rcases h with h | ⟨o, its, n, hk, hc, hs, hz, r⟩
  · obtain ⟨z, its, r, p⟩ := h.ok I.hok
    exact ⟨its, r, p, z⟩
  · refine ⟨its.toList, r, ⟨o, I.kIn a o hk, hc, n, by simpa using hs⟩, ?_⟩
    have e := r.length
    simp only [Array.length_toList] at e
    omega
theorem Inv.list_inj (I : Inv X pins σ H s) (h : SqL X.K H a xs) (h' : SqL X.K H a ys) : xs = ys := by
  obtain ⟨its, r, ⟨o, n, e, _, _, d⟩, _⟩ := I.list h
  obtain ⟨its', r', ⟨o', n', e', _, _, d'⟩, _⟩ := I.list h'
  rw [e] at e'; cases e'
  rw [d] at d'
  injection d' with d1 _
  have : its = its' := by simpa using congrArg Array.toList d1
  subst this
  exact r.inj r'
theorem Inv.tuple_inj (I : Inv X pins σ H s) (h : SqT X.K H a xs) (h' : SqT X.K H a ys) : xs = ys := by
  obtain ⟨its, r, ⟨o, e, _, n, d⟩, _⟩ := I.tuple h
  obtain ⟨its', r', ⟨o', e', _, n', d'⟩, _⟩ := I.tuple h'
  rw [e] at e'; cases e'
  rw [d] at d'
  injection d' with d1 _
  have : its = its' := by simpa using congrArg Array.toList d1
  subst this
  exact r.inj r'
end
abbrev Cx.wish (X : Cx) (E : Value → Shared → Prop) : Cx := { X with xe := E }
abbrev Cx.nox (X : Cx) : Cx := X.wish fun _ _ => False
theorem Cx.Ok.wish {X : Cx} (ok : X.Ok) (E : Value → Shared → Prop) : (X.wish E).Ok :=
  ⟨ok.mod, ok.kind, ok.glob, ok.blt, ok.above, ok.inj, ok.has, ok.cab, ok.hd, ok.frames, ok.stk, ok.exf, ok.bs, ok.bsz, ok.noex, ok.exfs, ok.funs, ok.frf⟩
theorem Cx.Ok.unwish {X : Cx} {E : Value → Shared → Prop} (ok : (X.wish E).Ok) : X.Ok :=
  ⟨ok.mod, ok.kind, ok.glob, ok.blt, ok.above, ok.inj, ok.has, ok.cab, ok.hd, ok.frames, ok.stk, ok.exf, ok.bs, ok.bsz, ok.noex, ok.exfs, ok.funs, ok.frf⟩
section
variable {X : Cx} {pins : List (Addr × Obj)} {σ : St} {H : Hp} {s : Shared} {E : Value → Shared → Prop}
theorem Inv.wish (I : Inv X pins σ H s) (E : Value → Shared → Prop) : Inv (X.wish E) pins σ H s := ⟨I.ok.wish E, I.os, I.bare, I.base, I.loc, I.cell, I.free, I.freeC, I.pin, I.hok, I.len⟩
theorem Inv.unwish (I : Inv (X.wish E) pins σ H s) : Inv X pins σ H s := ⟨I.ok.unwish, I.os, I.bare, I.base, I.loc, I.cell, I.free, I.freeC, I.pin, I.hok, I.len⟩
theorem SP.unwish {D : Ends} {f : Flow} {s' : Shared} (h : SP (X.wish E) pins D f s') : SP X pins D f s' := by
  cases f with
  | next => obtain ⟨σ', H', I, q⟩ := h; exact ⟨σ', H', I.unwish, q⟩
  | brk => obtain ⟨σ', H', I, q⟩ := h; exact ⟨σ', H', I.unwish, q⟩
  | cont => obtain ⟨σ', H', I, q⟩ := h; exact ⟨σ', H', I.unwish, q⟩
  | ret u => obtain ⟨v, σ', H', I, r, q⟩ := h; exact ⟨v, σ', H', I.unwish, r, q⟩
theorem PSs.nox {st : List Stmt} {t : TS} (h : PSs X.nox st t) : PSs X st t := fun pins s σ H D I hw =>
  wpAny_mono (h pins s σ H D (I.wish _) hw) (fun _ _ q => q.unwish) fun _ _ z => False.elim z
end
section
variable {X : Cx} {st : Stmt} {rest : List Stmt} {t u : TS} {e : Expr} {te : TE} {pos : Pos}
def tNext : TS := fun D σ H => D.nx σ H
def tSeq (t u : TS) : TS := fun D σ H => t { D with nx := u D } σ H
theorem pss_nil : PSs X [] tNext := fun _ _ σ H _ I h => wpAny_execs_nil ⟨σ, H, I, h⟩
theorem pss_cons (h1 : PS X st t) (h2 : PSs X rest u) : PSs X (st :: rest) (tSeq t u) := by
  intro pins s σ H D I h
  refine wpAny_execs_cons (thn (h1 pins s σ H { D with nx := u D } I h) fun f s1 q => ?_)
  cases f with
  | next =>
    obtain ⟨σ', H', I', q⟩ := q
    exact h2 pins s1 σ' H' D I' q
  | ret v => exact q
  | brk => exact q
  | cont => exact q
theorem pss_one (h1 : PS X st t) : PSs X [st] t := by
  intro pins s σ H D I h
  refine wpAny_execs_cons (thn (h1 pins s σ H D I h) fun f s1 q => ?_)
  cases f with
  | next => exact wpAny_execs_nil q
  | ret v => exact q
  | brk => exact q
  | cont => exact q
theorem Inv.quiet {pins : List (Addr × Obj)} {σ : St} {H : Hp} {s : Shared} (I : Inv X pins σ H s) : interactive X.env = false := by simp [interactive, I.ok.kind]
def tDrop (te : TE) : TS := fun D σ H => te σ H fun _ H1 => D.nx σ H1
theorem ps_expr (he : PE X e te) (hs : swapsWith e none pos.line X.env = pure false := by rfl) : PS X (.Expr e pos) (tDrop te) := by
  intro pins s σ H D I h
  exact wpAny_Expr_any (thn (he pins s σ H _ I h) fun v s1 ⟨x, H1, I1, r1, q1⟩ => ⟨σ, H1, I1, q1⟩) I.quiet hs
def tRet (te : TE) : TS := fun D σ H => te σ H D.rt
theorem ps_ret (he : PE X e te) : PS X (.Return (some e) pos) (tRet te) := by
  intro pins s σ H D I h
  exact wpAny_Return_some (thn (he pins s σ H _ I h) fun v s1 ⟨x, H1, I1, r1, q1⟩ => ⟨x, σ, H1, I1, r1, q1⟩)
def tIfS (c : TT) (t u : TS) : TS := fun D σ H => c σ H fun b H1 => if b = true then t D σ H1 else u D σ H1
theorem ps_if {c : Expr} {a b : List Stmt} {tc : TT} (hc : PT X c tc) (ha : PSs X a t) (hb : PSs X b u) : PS X (.If c a b pos) (tIfS tc t u) := by
  intro pins s σ H D I h
  refine wpAny_If (thn (hc pins s σ H _ I h) fun d s1 ⟨H1, I1, q1⟩ => ?_)
  cases d with
  | true => exact ha pins s1 σ H1 D I1 q1
  | false => exact hb pins s1 σ H1 D I1 q1
def tNever : TS := fun _ _ _ => False
theorem pss_never {sts : List Stmt} : PSs X sts tNever := fun _ _ _ _ _ _ h => h.elim
end
abbrev TG := V → St → Hp → (St → Hp → Prop) → Prop
abbrev TGs := List V → St → Hp → (St → Hp → Prop) → Prop
def PG (X : Cx) (target : Expr) (t : TG) : Prop :=
  ∀ (pins : List (Addr × Obj)) (s : Shared) (σ : St) (H : Hp) (v : V) (u : Value) (Q : St → Hp → Prop), Inv X pins σ H s → RelV v u → t v σ H Q →
    wpAny (model X.prog X.w) X.A (assign target X.env u) (fun _ s' => ∃ σ' H', Inv X pins σ' H' s' ∧ Q σ' H') X.xe s
def PGs (X : Cx) (ts : List Expr) (t : TGs) : Prop :=
  ∀ (pins : List (Addr × Obj)) (s : Shared) (σ : St) (H : Hp) (vs : List V) (us : List Value) (Q : St → Hp → Prop), Inv X pins σ H s → Vals vs us → t vs σ H Q →
    wpAny (model X.prog X.w) X.A (assignInOrder ((assignEach ts X.env).map (·.2)) us) (fun _ s' => ∃ σ' H', Inv X pins σ' H' s' ∧ Q σ' H') X.xe s
section
variable {X : Cx} {pos : Pos}
def gName (i : Nat) : TG := fun v σ H Q => Q (σ.set i (some v)) H
theorem pg_name {i : Nat} {x : Str} (hN : X.N.Nodup) (hi : X.N[i]? = some x) (hx : Loc X.env.scope x) (hf : X.fn x = true ∨ X.env.scope.names.lookup x = some .local := by first | exact .inl rfl | exact .inr rfl | assumption) : PG X (.Name x pos) (gName i) := by
  intro pins s σ H v u Q I r h
  exact wpAny_assign_Name (store_ok I hN hi hx r (fun s' I' => ⟨_, H, I', h⟩) hf)
def gNil : TGs := fun vs σ H Q => vs = [] ∧ Q σ H
def gCons (t : TG) (u : TGs) : TGs := fun vs σ H Q => ∃ v r, vs = v :: r ∧ t v σ H fun σ' H' => u r σ' H' Q
theorem pgs_nil : PGs X [] gNil := by
  intro pins s σ H vs us Q I r h
  obtain ⟨e, h⟩ := h
  subst e
  cases r
  exact assignInOrder_nil ⟨σ, H, I, h⟩
theorem pgs_cons {e : Expr} {es : List Expr} {t : TG} {u : TGs} (h1 : PG X e t) (h2 : PGs X es u)
    (hs : (assignEach (e :: es) X.env).map (·.2) = assign e X.env :: (assignEach es X.env).map (·.2) := by rfl) : PGs X (e :: es) (gCons t u) := by
  intro pins s σ H vs us Q I r h
  obtain ⟨v, vr, e1, h⟩ := h
  subst e1
  cases r with
  | cons r rr =>
    rw [hs]
    refine assignInOrder_cons (thn (h1 pins s σ H _ _ _ I r h) fun _ s1 ⟨σ1, H1, I1, q1⟩ => ?_)
    exact h2 pins s1 σ1 H1 _ _ Q I1 rr q1
def gTup (K : PySem.W.Frag) (n : Nat) (t : TGs) : TG := fun v σ H Q => ∃ a xs, v = .ref a ∧ SqT K H a xs ∧ xs.length = n ∧ t xs σ H Q
theorem pg_tup {es : List Expr} {k : Nat} {t : TGs} {n : Nat} (hc : X.calm = true) (h : PGs X es t)
    (hn : (assignEach es X.env).length = n := by rfl) (hst : (assignEach es X.env).findIdx? (·.1) = none := by rfl) : PG X (.Tuple es k pos) (gTup X.K n t) := by
  intro pins s σ H v u Q I r hw
  obtain ⟨a, xs, e1, hq, hl, hw⟩ := hw
  subst e1
  cases r
  obtain ⟨its, rv, ht, hz⟩ := I.tuple hq
  refine assign_Tuple_tuple (I.ok.hd hc) ht (by simp [hn, ← hl, rv.length]) hst fun h' hx => ?_
  have I1 : Inv X pins σ H { s with heap := h' } := I.kept (t' := s.toks) fun b o e => hx b o (Nat.ne_of_lt (Heap.lt_size e)) e
  exact h pins _ σ H xs _ Q I1 (by simpa using rv) hw
def tAsg (te : TE) (g : TG) : TS := fun D σ H => te σ H fun x H1 => g x σ H1 D.nx
theorem ps_asg {tg e : Expr} {te : TE} {g : TG} (he : PE X e te) (hg : PG X tg g) (hs : swapsWithSole [tg] e pos.line X.env = pure false := by rfl) (hw : swappedStores [tg] e X.env = pure none := by rfl)
    (h1 : (assignEach [tg] X.env).map (·.2) = [assign tg X.env] := by rfl) : PS X (.Assign [tg] e pos) (tAsg te g) := by
  intro pins s σ H D I h
  refine wpAny_Assign_stores (thn (he pins s σ H _ I h) fun v s1 ⟨x, H1, I1, r1, q1⟩ => ?_) hs hw
  rw [h1]
  exact thn (hg pins s1 σ H1 x v _ I1 r1 q1) fun _ s2 q => q
theorem ps_set {i : Nat} {x : Str} {e : Expr} {te : TE} {pos' : Pos} (hN : X.N.Nodup) (hi : X.N[i]? = some x) (hx : Loc X.env.scope x) (he : PE X e te) (hs : swapsWith e (some (.Name x pos')) pos.line X.env = pure false := by rfl) (hf : X.fn x = true ∨ X.env.scope.names.lookup x = some .local := by first | exact .inl rfl | exact .inr rfl | assumption) :
    PS X (.Assign [.Name x pos'] e pos) (tAsg te (gName i)) := by
  intro pins s σ H D I h
  refine wpAny_Assign_Name (thn (he pins s σ H _ I h) fun v s1 ⟨y, H1, I1, r1, q1⟩ => ?_) hs
  exact store_ok I1 hN hi hx r1 (fun s2 I2 => ⟨_, H1, I2, q1⟩) hf
end
section
variable {X : Cx} {pos : Pos}
end
structure It where
  go : Nat → Hp → Prop
  yld : Nat → Hp → V → Hp → Prop
  stop : Nat → Hp → Prop
def FpOk (X : Cx) (pins : List (Addr × Obj)) (H : Hp) (b : Addr) : Prop :=
  H b = none ∧ b ≠ X.env.locals ∧ b ∉ X.fs ∧ (b ∈ X.ex ∨ X.s₀.heap.objs.size ≤ b) ∧ (∀ x c, X.env.cells.lookup x = some c → c ≠ b) ∧ ∀ p ∈ X.pn ++ pins, p.1 ≠ b
theorem Inv.fpOk {X : Cx} {pins : List (Addr × Obj)} {σ : St} {H H' : Hp} {s : Shared} {b : Addr} (I : Inv X pins σ H s) (hb : s.heap.objs.size ≤ b) (hn : H' b = none) : FpOk X pins H' b := by
  refine ⟨hn, Nat.ne_of_gt (Nat.lt_of_lt_of_le I.lt hb), I.nofs hb, .inr (Nat.le_trans I.sz hb), fun x c e z => ?_, fun p hp z => ?_⟩
  · obtain ⟨v, q⟩ := I.cell x c e
    exact absurd (Nat.lt_of_lt_of_le q.lt (by rw [z]; exact hb)) (Nat.lt_irrefl _)
  · exact absurd (Nat.lt_of_lt_of_le (Heap.lt_size (I.pin p hp).1) (by rw [z]; exact hb)) (Nat.lt_irrefl _)
structure Turn (P : Program) (w : World) (K : PySem.W.Frag) (tg : Expr) (J : It) (fp : List Addr) (it : Addr) (tn : Nat → Heap → Prop) : Prop where
  mem : it ∈ fp
  obj : ∀ i h, tn i h → ∀ b ∈ fp, ∃ o, h.get? b = some o ∧ ∀ v, o.data ≠ .cell v
  keep : ∀ i h h', tn i h → (∀ b ∈ fp, ∀ o, h.get? b = some o → h'.get? b = some o) → tn i h'
  item : ∀ (X : Cx), X.prog = P → X.w = w → X.K = K → X.calm = true → ∀ (i : Nat) (pins : List (Addr × Obj)) (s : Shared) (σ : St) (H : Hp) (E : Value → Shared → Prop), Inv X pins σ H s → (∀ b ∈ fp, FpOk X pins H b) → tn i s.heap → J.go i H →
    wpAny (model P w) X.A (pyNext (.ref it)) (fun r s1 => ∃ u, r = some u ∧
      wpAny (model P w) X.A (letOwnedTupleGo tg (.ref it) u) (fun _ s2 => ∃ x H', Inv X pins σ H' s2 ∧ RelV x u ∧ J.yld i H x H' ∧ tn (i + 1) s2.heap ∧ ∀ b ∈ fp, H' b = none) E s1) E s
  done : ∀ (X : Cx), X.prog = P → X.w = w → X.K = K → X.calm = true → ∀ (i : Nat) (pins : List (Addr × Obj)) (s : Shared) (σ : St) (H : Hp) (E : Value → Shared → Prop), Inv X pins σ H s → (∀ b ∈ fp, FpOk X pins H b) → tn i s.heap → J.stop i H →
    wpAny (model P w) X.A (pyNext (.ref it)) (fun r s1 => r = none ∧ Inv X pins σ H s1) E s
  self : ∀ (A : Around) (i : Nat) (s : Shared) (Q : Value → Shared → Prop) (E : Value → Shared → Prop), tn i s.heap → Q (.ref it) s → wpAny (model P w) A (pyIter (.ref it)) Q E s
abbrev TI := St → Hp → (It → Hp → Prop) → Prop
def PIE (X : Cx) (pins : List (Addr × Obj)) (σ : St) (tg : Expr) (R : It → Hp → Prop) (itv : Value) (s2 : Shared) : Prop :=
  ∃ (it : Addr) (fp : List Addr) (tn : Nat → Heap → Prop) (J : It) (H' : Hp), itv = .ref it ∧ Inv X pins σ H' s2 ∧ Turn X.prog X.w X.K tg J fp it tn ∧ tn 0 s2.heap ∧ (∀ b ∈ fp, FpOk X pins H' b) ∧ R J H'
def PI (X : Cx) (tg iter : Expr) (wi : TI) : Prop :=
  ∀ (pins : List (Addr × Obj)) (s : Shared) (σ : St) (H : Hp) (R : It → Hp → Prop), Inv X pins σ H s → wi σ H R →
    wpAny (model X.prog X.w) X.A (eval iter X.env) (fun v s1 => wpAny (model X.prog X.w) X.A (pyIter v) (PIE X pins σ tg R) X.xe s1) X.xe s
theorem go_of {M : Model} {A : Around} {E : Value → Shared → Prop} {s : Shared} {tg : Expr} {it : Addr} {u : Value} {o : Obj} {n : String} {vs : Array Value} {Q : Unit → Shared → Prop} (ho : s.heap.get? it = some o) (hc : o.cls = .type n) (hd : o.data = .fields vs)
    (hn : ["enumerate", "zip", "dict_itemiterator", "dict_reverseitemiterator", "odict_iterator", "itertools.zip_longest", "itertools.pairwise"].contains n = false) (hQ : Q () s) : wpAny M A (letOwnedTupleGo tg (.ref it) u) Q E s := by
  unfold letOwnedTupleGo
  cases tg <;> first
    | exact wpAny_pure hQ
    | (cases u <;> first
        | exact wpAny_pure hQ
        | (refine wpAny_bind (wpAny_load ho ?_)
           rw [hc, hd]
           show wpAny M A (if (["enumerate", "zip", "dict_itemiterator", "dict_reverseitemiterator", "odict_iterator", "itertools.zip_longest", "itertools.pairwise"].contains n && vs[0]? == some (rawInt _)) = true then _ else _) Q E s
           rw [if_neg (by intro h; rw [hn, Bool.false_and] at h; cases h)]
           exact wpAny_pure hQ))
def Itl (K : PySem.W.Frag) (a : Addr) : It :=
  ⟨fun i H => ∃ xs x, SqL K H a xs ∧ xs[i]? = some x, fun i H x H' => H' = H ∧ ∀ xs, SqL K H a xs → xs[i]? = some x, fun i H => ∃ xs, SqL K H a xs ∧ xs.length ≤ i⟩
def Itt (K : PySem.W.Frag) (a : Addr) : It :=
  ⟨fun i H => ∃ xs x, SqT K H a xs ∧ xs[i]? = some x, fun i H x H' => H' = H ∧ ∀ xs, SqT K H a xs → xs[i]? = some x, fun i H => ∃ xs, SqT K H a xs ∧ xs.length ≤ i⟩
def Itr (lo : Int) (n : Nat) : It := ⟨fun i _ => i < n, fun i H x H' => H' = H ∧ x = .int (lo + i), fun i _ => n ≤ i⟩
theorem turn_list {P : Program} {w : World} {K : PySem.W.Frag} {tg : Expr} (a it : Addr) : Turn P w K tg (Itl K a) [it] it (fun i h => h.IsListIter it a i) where
  mem := by simp
  obj := fun i h st b hb => by
    have e : b = it := by simpa using hb
    subst e
    obtain ⟨o, e, c, d⟩ := st
    exact ⟨o, e, fun v z => by rw [d] at z; cases z⟩
  keep := fun i h h' st k => st.at fun o e => k it (by simp) o e
  item := by
    intro X hP hw hK hc i pins s σ H E I hf st hg
    subst hP hw hK
    obtain ⟨xs, x, hq, hx⟩ := hg
    obtain ⟨its, rv, p, hz⟩ := I.list hq
    obtain ⟨u, hu, ru⟩ := rv.get hx
    obtain ⟨f0, f1, f2, f3, f4, f5⟩ := hf it (by simp)
    refine wpAny_pyNext_list_item st p.isList (x := u) (by simpa using hu) fun h' st' sb => ?_
    have I1 : Inv X pins σ H { s with heap := h' } := I.turned (t' := s.toks) (fun b o hb e => (sb.2 b hb).trans e) f0 f1 f3 f4 f5
    obtain ⟨o, e, c, d⟩ := id st'
    exact ⟨u, rfl, go_of (s := { s with heap := h' }) e c d (by decide) ⟨x, H, I1, ru, ⟨rfl, fun ys hy => by rw [I.list_inj hy hq]; exact hx⟩, st', fun b hb => (hf b hb).1⟩⟩
  done := by
    intro X hP hw hK hc i pins s σ H E I hf st hg
    subst hP hw hK
    obtain ⟨xs, hq, hx⟩ := hg
    obtain ⟨its, rv, p, hz⟩ := I.list hq
    obtain ⟨f0, f1, f2, f3, f4, f5⟩ := hf it (by simp)
    have hl := rv.length
    exact wpAny_pyNext_list_end (I.ok.hd hc) st p.isList (by simp; omega) fun h' eb => ⟨rfl, I.turned (t' := s.toks) (fun b o hb e => eb b o hb e) f0 f1 f3 f4 f5⟩
  self := fun _ _ _ _ _ st h => wpAny_pyIter_listiter st h
theorem turn_tuple {P : Program} {w : World} {K : PySem.W.Frag} {tg : Expr} (a it : Addr) : Turn P w K tg (Itt K a) [it] it (fun i h => h.IsTupleIter it a i) where
  mem := by simp
  obj := fun i h st b hb => by
    have e : b = it := by simpa using hb
    subst e
    obtain ⟨o, e, c, d⟩ := st
    exact ⟨o, e, fun v z => by rw [d] at z; cases z⟩
  keep := fun i h h' st k => st.at fun o e => k it (by simp) o e
  item := by
    intro X hP hw hK hc i pins s σ H E I hf st hg
    subst hP hw hK
    obtain ⟨xs, x, hq, hx⟩ := hg
    obtain ⟨its, rv, p, hz⟩ := I.tuple hq
    obtain ⟨u, hu, ru⟩ := rv.get hx
    obtain ⟨f0, f1, f2, f3, f4, f5⟩ := hf it (by simp)
    refine wpAny_pyNext_tuple_item st (show s.heap.IsTuple a its.toArray from p) (x := u) (by simpa using hu) fun h' st' sb => ?_
    have I1 : Inv X pins σ H { s with heap := h' } := I.turned (t' := s.toks) (fun b o hb e => (sb.2 b hb).trans e) f0 f1 f3 f4 f5
    obtain ⟨o, e, c, d⟩ := id st'
    exact ⟨u, rfl, go_of (s := { s with heap := h' }) e c d (by decide) ⟨x, H, I1, ru, ⟨rfl, fun ys hy => by rw [I.tuple_inj hy hq]; exact hx⟩, st', fun b hb => (hf b hb).1⟩⟩
  done := by
    intro X hP hw hK hc i pins s σ H E I hf st hg
    subst hP hw hK
    obtain ⟨xs, hq, hx⟩ := hg
    obtain ⟨its, rv, p, hz⟩ := I.tuple hq
    obtain ⟨f0, f1, f2, f3, f4, f5⟩ := hf it (by simp)
    have hl := rv.length
    exact wpAny_pyNext_tuple_end (I.ok.hd hc) st (show s.heap.IsTuple a its.toArray from p) (by simp; omega) fun h' eb => ⟨rfl, I.turned (t' := s.toks) (fun b o hb e => eb b o hb e) f0 f1 f3 f4 f5⟩
  self := fun _ _ _ _ _ st h => wpAny_pyIter_tupleiter st h
theorem turn_range {P : Program} {w : World} {K : PySem.W.Frag} {tg : Expr} (it : Addr) (lo : Int) (n : Nat) : Turn P w K tg (Itr lo n) [it] it (fun i h => IsRangeIter h it (lo + (i : Nat) * 1) ((n : Int) - (i : Nat)) 1) where
  mem := by simp
  obj := fun i h st b hb => by
    have e : b = it := by simpa using hb
    subst e
    exact ⟨_, st, fun v z => by
      have z' : Data.fields _ = Data.cell v := z
      cases z'⟩
  keep := fun i h h' st k => k it (by simp) _ st
  item := by
    intro X hP hw hK hc i pins s σ H E I hf st hg
    subst hP hw hK
    obtain ⟨f0, f1, f2, f3, f4, f5⟩ := hf it (by simp)
    have W := Walks.range (prog := X.prog) (w := X.w) (I.ok.hd hc) it lo 1 n
    refine W.item i s _ _ hg st fun v h' tk hv st' kk => ?_
    obtain ⟨t, rfl⟩ := hv
    have I1 : Inv X pins σ H { s with heap := h', toks := tk } := I.turned (fun b o hb e => kk b o (by simpa using hb) e) f0 f1 f3 f4 f5
    refine ⟨_, rfl, go_of (s := { s with heap := h', toks := tk }) (n := "range_iterator") st' rfl rfl (by decide) ⟨.int (lo + i), H, I1, ⟨t, ?_⟩, ⟨rfl, rfl⟩, st', fun b hb => (hf b hb).1⟩⟩
    rw [Int.mul_one]
  done := by
    intro X hP hw hK hc i pins s σ H E I hf st hg
    subst hP hw hK
    obtain ⟨f0, f1, f2, f3, f4, f5⟩ := hf it (by simp)
    exact wpAny_pyNext_range_end (I.ok.hd hc) st (by have : n ≤ i := hg; omega) fun h' eb => ⟨rfl, I.turned (t' := s.toks) (fun b o hb e => eb b o hb e) f0 f1 f3 f4 f5⟩
  self := fun _ _ _ _ _ st h => wpAny_pyIter_rangeiter st h
end L2
namespace L2
open PySem PySem.Spec PyProof.Rows
section
variable {X : Cx} {tg : Expr}
def iList (K : PySem.W.Frag) (tl : TE) : TI := fun σ H R => tl σ H fun x H1 => ∃ a, x = .ref a ∧ (∃ xs, SqL K H1 a xs) ∧ R (Itl K a) H1
def iTup (K : PySem.W.Frag) (tl : TE) : TI := fun σ H R => tl σ H fun x H1 => ∃ a, x = .ref a ∧ (∃ xs, SqT K H1 a xs) ∧ R (Itt K a) H1
theorem pi_list {l : Expr} {tl : TE} (hl : PE X l tl) : PI X tg l (iList X.K tl) := by
  intro pins s σ H R I h
  refine thn (hl pins s σ H _ I h) fun v s1 ⟨x, H1, I1, r1, q1⟩ => ?_
  obtain ⟨a, e, ⟨xs, hq⟩, q⟩ := q1
  subst e
  cases r1
  obtain ⟨its, rv, p, hz⟩ := I1.list hq
  refine wpAny_pyIter_list p.isList ?_
  refine ⟨s1.heap.objs.size, [s1.heap.objs.size], _, _, H1, rfl, I1.kept (t' := s1.toks) fun b o e => Heap.get?_push_of_some _ e, turn_list a _, ⟨_, Heap.get?_push_size _ rfl, rfl, rfl⟩, fun b hb => ?_, q⟩
  have e : b = s1.heap.objs.size := by simpa using hb
  subst e
  exact I1.fpOk (Nat.le_refl _) (I1.hok.fresh (Nat.le_refl _))
theorem pi_tup {l : Expr} {tl : TE} (hl : PE X l tl) : PI X tg l (iTup X.K tl) := by
  intro pins s σ H R I h
  refine thn (hl pins s σ H _ I h) fun v s1 ⟨x, H1, I1, r1, q1⟩ => ?_
  obtain ⟨a, e, ⟨xs, hq⟩, q⟩ := q1
  subst e
  cases r1
  obtain ⟨its, rv, p, hz⟩ := I1.tuple hq
  refine wpAny_pyIter_tuple (show s1.heap.IsTuple a its.toArray from p) ?_
  refine ⟨s1.heap.objs.size, [s1.heap.objs.size], _, _, H1, rfl, I1.kept (t' := s1.toks) fun b o e => Heap.get?_push_of_some _ e, turn_tuple a _, ⟨_, Heap.get?_push_size _ rfl, rfl, rfl⟩, fun b hb => ?_, q⟩
  have e : b = s1.heap.objs.size := by simpa using hb
  subst e
  exact I1.fpOk (Nat.le_refl _) (I1.hok.fresh (Nat.le_refl _))
theorem range_it {pins : List (Addr × Obj)} {σ : St} {H : Hp} {s : Shared} {R : It → Hp → Prop} {E : Value → Shared → Prop} {lo hi : Int} {t u v : Tok} {tk : Nat} (I : Inv X pins σ H s) (h1 : -(2 ^ 62) ≤ lo) (h2 : lo < 2 ^ 62) (h3 : -(2 ^ 62) ≤ hi) (h4 : hi < 2 ^ 62)
    (q : R (Itr lo (hi - lo).toNat) H) : wpAny (model X.prog X.w) X.A (pyIter (.ref s.heap.objs.size)) (PIE X pins σ tg R) E { s with heap := s.heap.push { cls := .type "range", data := .fields #[.int lo t, .int hi u, .int 1 v] }, toks := tk } := by
  refine wpAny_pyIter_range (IsRange.new ..) (small_one h1 h2 h3 h4) ?_
  have I1 : Inv X pins σ H { s with heap := s.heap.push { cls := .type "range", data := .fields #[.int lo t, .int hi u, .int 1 v] }, toks := tk } := I.kept fun b o e => Heap.get?_push_of_some _ e
  refine ⟨(s.heap.push { cls := .type "range", data := .fields #[.int lo t, .int hi u, .int 1 v] }).objs.size, [(s.heap.push { cls := .type "range", data := .fields #[.int lo t, .int hi u, .int 1 v] }).objs.size], _, _, H, rfl,
    I1.kept (t' := tk) fun b o e => Heap.get?_push_of_some _ e, turn_range _ lo (hi - lo).toNat, ?_, fun b hb => ?_, q⟩
  · have e1 : lo + ((0 : Nat) : Int) * 1 = lo := by simp
    have e2 : (((hi - lo).toNat : Nat) : Int) - ((0 : Nat) : Int) = Builtin.Range.rangeSize lo hi 1 := by rw [rangeSize_one]; split <;> omega
    show IsRangeIter _ _ (lo + ((0 : Nat) : Int) * 1) ((((hi - lo).toNat : Nat) : Int) - ((0 : Nat) : Int)) 1
    rw [e1, e2]
    exact Heap.get?_push_size _ rfl
  · have e : b = (s.heap.push { cls := .type "range", data := .fields #[.int lo t, .int hi u, .int 1 v] }).objs.size := by simpa using hb
    subst e
    exact I1.fpOk (Nat.le_refl _) (I1.hok.fresh (Nat.le_refl _))
def iRng1 (ta : TA) : TI := fun σ H R => ta σ H fun vs H1 => ∃ j : Int, vs = [.int j] ∧ -(2 ^ 62) ≤ j ∧ j < 2 ^ 62 ∧ R (Itr 0 j.toNat) H1
theorem pi_range1 {a : Expr} {ta : TA} {p pos : Pos} (hg : Gl X "range") (hm : X.mg "range" = none) (ha : PA X [a] ta) (hs : starEach [a] X.env = [(false, eval a X.env)] := by rfl) : PI X tg (.Call (.Name "range" p) [a] [] pos) (iRng1 ta) := by
  intro pins s σ H R I h
  refine Call_ (ld_blt I hg hm boot_range (PyProof.Rows.callWith_type1 (thn (ha pos pins s σ H _ I h) fun us s1 ⟨vs, H1, I1, r1, q1⟩ => ?_) hs rfl))
  obtain ⟨j, e, q1, q2, q⟩ := q1
  subst e
  cases r1 with
  | cons r rr =>
    cases rr
    obtain ⟨t, rfl⟩ := r
    exact call_range_1 (range_it I1 (by omega) (by omega) q1 q2 (by simpa using q))
def tFor (wi : TI) (g : TG) (tb : TS) : TS := fun D σ H => wi σ H fun J H1 => ∃ W : Nat → Nat → St → Hp → Prop, (∃ m, W 0 m σ H1) ∧ ∀ i m σ H, W i m σ H →
  (J.stop i H ∧ D.nx σ H) ∨ (J.go i H ∧ ∃ N : St → Hp → Prop, (∀ σ' H', N σ' H' → ∃ m', m' < m ∧ W (i + 1) m' σ' H') ∧ ∀ x H', J.yld i H x H' → g x σ H' fun σ2 H2 => tb { D with nx := N, ct := N, bk := D.nx } σ2 H2)
def pinsAt (fp : List Addr) (h : Heap) : List (Addr × Obj) := fp.filterMap fun b => (h.get? b).map fun o => (b, o)
theorem mem_pinsAt {fp : List Addr} {h : Heap} {b : Addr} {o : Obj} (hb : b ∈ fp) (e : h.get? b = some o) : (b, o) ∈ pinsAt fp h := List.mem_filterMap.mpr ⟨b, hb, by rw [e]; rfl⟩
theorem of_pinsAt {fp : List Addr} {h : Heap} {p : Addr × Obj} (hp : p ∈ pinsAt fp h) : p.1 ∈ fp ∧ h.get? p.1 = some p.2 := by
  obtain ⟨b, hb, e⟩ := List.mem_filterMap.mp hp
  cases q : h.get? b with
  | none => rw [q] at e; cases e
  | some o =>
    rw [q] at e
    have e' : (b, o) = p := Option.some.inj e
    subst e'
    exact ⟨hb, q⟩
theorem Inv.pinned {pins : List (Addr × Obj)} {σ : St} {H : Hp} {s : Shared} {fp : List Addr} (I : Inv X pins σ H s) (hf : ∀ b ∈ fp, FpOk X pins H b) (ho : ∀ b ∈ fp, ∃ o, s.heap.get? b = some o ∧ ∀ v, o.data ≠ .cell v) : Inv X (pins ++ pinsAt fp s.heap) σ H s :=
  I.pins_of fun p hp => (List.mem_append.mp hp).elim (fun z => I.pin p (List.mem_append_right _ z)) fun z => by
    obtain ⟨hb, e⟩ := of_pinsAt z
    obtain ⟨f0, f1, f2, _⟩ := hf p.1 hb
    obtain ⟨o, e', d⟩ := ho p.1 hb
    rw [e] at e'; cases e'
    exact ⟨e, f0, f1, f2, d⟩
theorem Inv.unpinned {pins pl : List (Addr × Obj)} {σ : St} {H : Hp} {s : Shared} (I : Inv X (pins ++ pl) σ H s) : Inv X pins σ H s := I.pins_of fun p hp => I.pin p (List.mem_append_right _ (List.mem_append_left _ hp))
theorem ps_for {iter : Expr} {body : List Stmt} {wi : TI} {g : TG} {tb : TS} {pos : Pos} (hp : PassesOwn (model X.prog X.w) X.A X.env X.xe) (hc : X.calm = true) (hi : PI X tg iter wi) (hg : PG X tg g) (hb : PSs X body tb)
    (hs : ∀ x, foldedSetIterable iter X.env x = pure x := by intro _; rfl) : PS X (.For tg iter body [] pos) (tFor wi g tb) := by
  intro pins s σ H D I h
  refine wpAny_For (thn (hi pins s σ H _ I h) fun v s1 h1 => thn h1 fun itv s2 h2 => ?_) hs
  obtain ⟨it, fp, tn, J, H2, e, I2, T, st2, f2, W, ⟨m0, w0⟩, turn⟩ := h2
  subst e
  have stat : ∀ {H' : Hp}, (∀ b ∈ fp, H' b = none) → ∀ b ∈ fp, FpOk X pins H' b := fun hn b hb => ⟨hn b hb, (f2 b hb).2⟩
  refine codeAny_forLoop_any (fun n s' => ∃ i σ' H', Inv X pins σ' H' s' ∧ tn i s'.heap ∧ (∀ b ∈ fp, H' b = none) ∧ W i n σ' H') ?_ m0 ⟨0, σ, H2, I2, st2, fun b hb => (f2 b hb).1, w0⟩
  rintro n s3 ⟨i, σ3, H3, I3, st3, fr3, w3⟩
  rcases turn i n σ3 H3 w3 with ⟨stop, qn⟩ | ⟨go, N, hN, step⟩
  · refine wpAny_passesOwn hp (thn (T.done X rfl rfl rfl hc i pins s3 σ3 H3 X.xe I3 (stat fr3) st3 stop) fun r s4 ⟨hr, I4⟩ => ?_)
    subst hr
    exact wpAny_execs_nil ⟨σ3, H3, I4, qn⟩
  · refine wpAny_passesOwn hp (thn (T.item X rfl rfl rfl hc i pins s3 σ3 H3 X.xe I3 (stat fr3) st3 go) fun r s4 ⟨u, hr, h4⟩ => ?_)
    subst hr
    refine wpAny_passesOwn hp (thn h4 fun _ s5 ⟨x, H5, I5, r5, y5, st5, fr5⟩ => ?_)
    have I5' := I5.pinned (stat fr5) (T.obj _ _ st5)
    refine wpAny_passesOwn hp (thn (hg _ s5 σ3 H5 x u _ I5' r5 (step x H5 y5)) fun _ s6 ⟨σ6, H6, I6, q6⟩ => ?_)
    refine wpAny_passesOwn hp (thn (hb _ s6 σ6 H6 _ I6 q6) fun f s7 q7 => ?_)
    have again : ∀ {σ7 : St} {H7 : Hp}, Inv X (pins ++ pinsAt fp s5.heap) σ7 H7 s7 → N σ7 H7 → ∃ m, m < n ∧ ∃ i σ' H', Inv X pins σ' H' s7 ∧ tn i s7.heap ∧ (∀ b ∈ fp, H' b = none) ∧ W i m σ' H' := fun {σ7 H7} I7 n7 => by
      obtain ⟨m', hm, w7⟩ := hN σ7 H7 n7
      refine ⟨m', hm, i + 1, σ7, H7, I7.unpinned, T.keep _ _ _ st5 fun b hb o e => (I7.pin (b, o) (List.mem_append_right _ (List.mem_append_right _ (mem_pinsAt hb e)))).1, fun b hb => ?_, w7⟩
      obtain ⟨o, e, d⟩ := T.obj _ _ st5 b hb
      exact (I7.pin (b, o) (List.mem_append_right _ (List.mem_append_right _ (mem_pinsAt hb e)))).2.1
    cases f with
    | next => obtain ⟨σ7, H7, I7, n7⟩ := q7; exact again I7 n7
    | cont => obtain ⟨σ7, H7, I7, n7⟩ := q7; exact again I7 n7
    | brk => obtain ⟨σ7, H7, I7, q7⟩ := q7; exact ⟨σ7, H7, I7.unpinned, q7⟩
    | ret v => obtain ⟨x7, σ7, H7, I7, r7, q7⟩ := q7; exact ⟨x7, σ7, H7, I7.unpinned, r7, q7⟩
end
theorem for_list {K : PySem.W.Frag} {a : Addr} {xs : List V} {g : TG} {tb : TS} {D : Ends} {σ : St} {H : Hp} (Pv : Nat → St → Hp → Prop) (h0 : Pv 0 σ H) (hl : ∀ i σ H, i ≤ xs.length → Pv i σ H → SqL K H a xs)
    (hs : ∀ i x σ H, xs[i]? = some x → Pv i σ H → g x σ H fun σ2 H2 => tb { D with nx := Pv (i + 1), ct := Pv (i + 1), bk := D.nx } σ2 H2) (hd : ∀ σ H, Pv xs.length σ H → D.nx σ H) :
    ∃ W : Nat → Nat → St → Hp → Prop, (∃ m, W 0 m σ H) ∧ ∀ i m σ H, W i m σ H →
      ((Itl K a).stop i H ∧ D.nx σ H) ∨ ((Itl K a).go i H ∧ ∃ N : St → Hp → Prop, (∀ σ' H', N σ' H' → ∃ m', m' < m ∧ W (i + 1) m' σ' H') ∧ ∀ x H', (Itl K a).yld i H x H' → g x σ H' fun σ2 H2 => tb { D with nx := N, ct := N, bk := D.nx } σ2 H2) := by
  refine ⟨fun i m σ H => m = xs.length - i ∧ i ≤ xs.length ∧ Pv i σ H, ⟨xs.length, by simp, Nat.zero_le _, h0⟩, ?_⟩
  rintro i m σ H ⟨rfl, hi, p⟩
  have q := hl i σ H hi p
  by_cases hlt : i < xs.length
  · refine .inr ⟨⟨xs, xs[i], q, by simp [hlt]⟩, Pv (i + 1), fun σ' H' p' => ⟨xs.length - (i + 1), by omega, rfl, hlt, p'⟩, fun x H' y => ?_⟩
    obtain ⟨e, y⟩ := y
    subst e
    exact hs i x σ _ (y xs q) p
  · have e : i = xs.length := by omega
    subst e
    exact .inl ⟨⟨xs, q, Nat.le_refl _⟩, hd σ H p⟩
theorem for_tup {K : PySem.W.Frag} {a : Addr} {xs : List V} {g : TG} {tb : TS} {D : Ends} {σ : St} {H : Hp} (Pv : Nat → St → Hp → Prop) (h0 : Pv 0 σ H) (hl : ∀ i σ H, i ≤ xs.length → Pv i σ H → SqT K H a xs)
    (hs : ∀ i x σ H, xs[i]? = some x → Pv i σ H → g x σ H fun σ2 H2 => tb { D with nx := Pv (i + 1), ct := Pv (i + 1), bk := D.nx } σ2 H2) (hd : ∀ σ H, Pv xs.length σ H → D.nx σ H) :
    ∃ W : Nat → Nat → St → Hp → Prop, (∃ m, W 0 m σ H) ∧ ∀ i m σ H, W i m σ H →
      ((Itt K a).stop i H ∧ D.nx σ H) ∨ ((Itt K a).go i H ∧ ∃ N : St → Hp → Prop, (∀ σ' H', N σ' H' → ∃ m', m' < m ∧ W (i + 1) m' σ' H') ∧ ∀ x H', (Itt K a).yld i H x H' → g x σ H' fun σ2 H2 => tb { D with nx := N, ct := N, bk := D.nx } σ2 H2) := by
  refine ⟨fun i m σ H => m = xs.length - i ∧ i ≤ xs.length ∧ Pv i σ H, ⟨xs.length, by simp, Nat.zero_le _, h0⟩, ?_⟩
  rintro i m σ H ⟨rfl, hi, p⟩
  have q := hl i σ H hi p
  by_cases hlt : i < xs.length
  · refine .inr ⟨⟨xs, xs[i], q, by simp [hlt]⟩, Pv (i + 1), fun σ' H' p' => ⟨xs.length - (i + 1), by omega, rfl, hlt, p'⟩, fun x H' y => ?_⟩
    obtain ⟨e, y⟩ := y
    subst e
    exact hs i x σ _ (y xs q) p
  · have e : i = xs.length := by omega
    subst e
    exact .inl ⟨⟨xs, q, Nat.le_refl _⟩, hd σ H p⟩
theorem for_range {lo : Int} {n : Nat} {g : TG} {tb : TS} {D : Ends} {σ : St} {H : Hp} (Pv : Nat → St → Hp → Prop) (h0 : Pv 0 σ H)
    (hs : ∀ i σ H, i < n → Pv i σ H → g (.int (lo + i)) σ H fun σ2 H2 => tb { D with nx := Pv (i + 1), ct := Pv (i + 1), bk := D.nx } σ2 H2) (hd : ∀ σ H, Pv n σ H → D.nx σ H) :
    ∃ W : Nat → Nat → St → Hp → Prop, (∃ m, W 0 m σ H) ∧ ∀ i m σ H, W i m σ H →
      ((Itr lo n).stop i H ∧ D.nx σ H) ∨ ((Itr lo n).go i H ∧ ∃ N : St → Hp → Prop, (∀ σ' H', N σ' H' → ∃ m', m' < m ∧ W (i + 1) m' σ' H') ∧ ∀ x H', (Itr lo n).yld i H x H' → g x σ H' fun σ2 H2 => tb { D with nx := N, ct := N, bk := D.nx } σ2 H2) := by
  refine ⟨fun i m σ H => m = n - i ∧ i ≤ n ∧ Pv i σ H, ⟨n, by simp, Nat.zero_le _, h0⟩, ?_⟩
  rintro i m σ H ⟨rfl, hi, p⟩
  by_cases hlt : i < n
  · refine .inr ⟨hlt, Pv (i + 1), fun σ' H' p' => ⟨n - (i + 1), by omega, rfl, hlt, p'⟩, fun x H' y => ?_⟩
    obtain ⟨e, y⟩ := y
    subst e y
    exact hs i σ _ hlt p
  · have e : i = n := by omega
    subst e
    exact .inl ⟨Nat.le_refl _, hd σ H p⟩
end L2
namespace L2
open PySem PySem.Spec PyProof.Rows
abbrev R2 := V → V → Hp → VK → Prop
def OpR (X : Cx) (f : Value → Value → Sem Value) (r : R2) : Prop :=
  ∀ (pins : List (Addr × Obj)) (s : Shared) (σ : St) (H : Hp) (x y : V) (v u : Value) (Q : VK), Inv X pins σ H s → RelV x v → RelV y u → r x y H Q →
    wpAny (model X.prog X.w) X.A (f v u) (EP X pins σ Q) X.xe s
def UnR (X : Cx) (f : Value → Sem Value) (r : V → Hp → VK → Prop) : Prop :=
  ∀ (pins : List (Addr × Obj)) (s : Shared) (σ : St) (H : Hp) (x : V) (v : Value) (Q : VK), Inv X pins σ H s → RelV x v → r x H Q →
    wpAny (model X.prog X.w) X.A (f v) (EP X pins σ Q) X.xe s
def CallR (X : Cx) (f : Value) (r : List V → Hp → VK → Prop) : Prop :=
  ∀ (pins : List (Addr × Obj)) (s : Shared) (σ : St) (H : Hp) (xs : List V) (us : List Value) (Q : VK), Inv X pins σ H s → Vals xs us → r xs H Q →
    wpAny (model X.prog X.w) X.A (call f us) (EP X pins σ Q) X.xe s
def tOp (r : R2) (ta tb : TE) : TE := fun σ H Q => ta σ H fun x H1 => tb σ H1 fun y H2 => r x y H2 Q
def tUn (r : V → Hp → VK → Prop) (ta : TE) : TE := fun σ H Q => ta σ H fun x H1 => r x H1 Q
def rI (C : Int → Int → Prop) (g : Int → Int → V) : R2 := fun x y H Q => ∃ i j, x = .int i ∧ y = .int j ∧ C i j ∧ Q (g i j) H
def rI0 (g : Int → Int → V) : R2 := fun x y H Q => ∃ i j, x = .int i ∧ y = .int j ∧ Q (g i j) H
def rU (g : Int → V) : V → Hp → VK → Prop := fun x H Q => ∃ i, x = .int i ∧ Q (g i) H
section
variable {X : Cx} {a b c : Expr} {ta tb tc : TE} {pos : Pos}
theorem binT (ha : PE X a ta) (hb : PE X b tb) {pins : List (Addr × Obj)} {s : Shared} {σ : St} {H : Hp} {R : V → V → Hp → Prop} (I : Inv X pins σ H s)
    (h : ta σ H fun x H1 => tb σ H1 fun y H2 => R x y H2) {Q : Value → Shared → Prop} {f : Value → Value → Sem Value}
    (hf : ∀ v u s2 x y H2, Inv X pins σ H2 s2 → RelV x v → RelV y u → R x y H2 → wpAny (model X.prog X.w) X.A (f v u) Q X.xe s2) :
    wpAny (model X.prog X.w) X.A (eval a X.env) (fun v s₁ => wpAny (model X.prog X.w) X.A (eval b X.env) (fun u s₂ => wpAny (model X.prog X.w) X.A (f v u) Q X.xe s₂) X.xe s₁) X.xe s := by
  refine thn (ha pins s σ H _ I h) fun v s1 ⟨x, H1, I1, r1, q1⟩ => ?_
  refine thn (hb pins s1 σ H1 _ I1 q1) fun u s2 ⟨y, H2, I2, r2, q2⟩ => ?_
  exact hf v u s2 x y H2 I2 r1 r2 q2
theorem pe_op {op : Operator} {r : R2} (ho : OpR X (binaryOp op) r) (ha : PE X a ta) (hb : PE X b tb) : PE X (.BinOp a op b pos) (tOp r ta tb) := by
  intro pins s σ H Q I h
  exact wpAny_BinOp (binT ha hb I h fun v u s2 x y H2 I2 rx ry q => ho pins s2 σ H2 x y v u Q I2 rx ry q)
theorem pe_un {op : UnaryOp} {r : V → Hp → VK → Prop} (ho : UnR X (unaryOp op) r) (ha : PE X a ta) : PE X (.UnaryOp op a pos) (tUn r ta) := by
  intro pins s σ H Q I h
  exact UnaryOp_ (thn (ha pins s σ H _ I h) fun v s1 ⟨x, H1, I1, r1, q1⟩ => ho pins s1 σ H1 x v Q I1 r1 q1)
theorem opI {f : Value → Value → Sem Value} {C : Int → Int → Prop} {g : Int → Int → Int}
    (rule : ∀ (i j : Int) (t u : Tok) (s : Shared) (Q : Value → Shared → Prop) (E : Value → Shared → Prop), C i j → Q (.int (g i j) s.toks) { s with toks := s.toks + 1 } → wpAny (model X.prog X.w) X.A (f (.int i t) (.int j u)) Q E s) :
    OpR X f (rI C fun i j => .int (g i j)) := by
  intro pins s σ H x y v u Q I rx ry h
  obtain ⟨i, j, rfl, rfl, hc, q⟩ := h
  obtain ⟨t, rfl⟩ := rx
  obtain ⟨t', rfl⟩ := ry
  exact rule i j t t' s _ _ hc ⟨.int (g i j), H, I.tok _, ⟨_, rfl⟩, q⟩
theorem opI0 {f : Value → Value → Sem Value} {g : Int → Int → Int}
    (rule : ∀ (i j : Int) (t u : Tok) (s : Shared) (Q : Value → Shared → Prop) (E : Value → Shared → Prop), Q (.int (g i j) s.toks) { s with toks := s.toks + 1 } → wpAny (model X.prog X.w) X.A (f (.int i t) (.int j u)) Q E s) :
    OpR X f (rI0 fun i j => .int (g i j)) := by
  intro pins s σ H x y v u Q I rx ry h
  obtain ⟨i, j, rfl, rfl, q⟩ := h
  obtain ⟨t, rfl⟩ := rx
  obtain ⟨t', rfl⟩ := ry
  exact rule i j t t' s _ _ ⟨.int (g i j), H, I.tok _, ⟨_, rfl⟩, q⟩
theorem opB0 {f : Value → Value → Sem Value} {g : Int → Int → Bool}
    (rule : ∀ (i j : Int) (t u : Tok) (s : Shared) (Q : Value → Shared → Prop) (E : Value → Shared → Prop), Q (.bool (g i j)) s → wpAny (model X.prog X.w) X.A (f (.int i t) (.int j u)) Q E s) :
    OpR X f (rI0 fun i j => .bl (g i j)) := by
  intro pins s σ H x y v u Q I rx ry h
  obtain ⟨i, j, rfl, rfl, q⟩ := h
  obtain ⟨t, rfl⟩ := rx
  obtain ⟨t', rfl⟩ := ry
  exact rule i j t t' s _ _ ⟨.bl (g i j), H, I, rfl, q⟩
def CDiv (i j : Int) : Prop := 0 < j ∧ j < 1073741824
def CMul (i j : Int) : Prop := (-(2 ^ 64) < i ∧ i < 2 ^ 64) ∨ (-(2 ^ 64) < j ∧ j < 2 ^ 64)
theorem CMul.ok {i j : Int} (h : CMul i j) : IntMulOk i j := by
  rcases h with ⟨h1, h2⟩ | ⟨h1, h2⟩
  · exact .of_left (intBits_le_64 h1 h2)
  · exact .of_right (intBits_le_64 h1 h2)
theorem op_add : OpR X (binaryOp .Add) (rI0 fun i j => .int (i + j)) := opI0 fun _ _ _ _ _ _ _ q => add_int q
theorem op_sub : OpR X (binaryOp .Sub) (rI0 fun i j => .int (i - j)) := opI0 fun _ _ _ _ _ _ _ q => sub_int q
theorem op_mul : OpR X (binaryOp .Mult) (rI CMul fun i j => .int (i * j)) := opI fun _ _ _ _ _ _ _ hc q => mul_int q hc.ok
theorem op_fdiv : OpR X (binaryOp .FloorDiv) (rI CDiv fun i j => .int (i / j)) := opI fun i j _ _ _ _ _ hc q => by
  have h1 : (0 : Int) < j := hc.1
  have h2 : j < 1073741824 := hc.2
  exact floordiv_int (by omega) (by rw [Int.fdiv_eq_ediv_of_nonneg i (by omega)]; exact q) (.inl (PyProof.noPylong_small (by omega)))
theorem op_mod : OpR X (binaryOp .Mod) (rI (fun _ j => 0 < j) fun i j => .int (i % j)) := opI fun i j _ _ _ _ _ hc q => by
  have h1 : (0 : Int) < j := hc
  exact mod_int' (by omega) (by rw [Int.fmod_eq_emod_of_nonneg i (by omega)]; exact q)
theorem unI {f : Value → Sem Value} {g : Int → Int}
    (rule : ∀ (i : Int) (t : Tok) (s : Shared) (Q : Value → Shared → Prop) (E : Value → Shared → Prop), Q (.int (g i) s.toks) { s with toks := s.toks + 1 } → wpAny (model X.prog X.w) X.A (f (.int i t)) Q E s) :
    UnR X f (rU fun i => .int (g i)) := by
  intro pins s σ H x v Q I rx h
  obtain ⟨i, rfl, q⟩ := h
  obtain ⟨t, rfl⟩ := rx
  exact rule i t s _ _ ⟨.int (g i), H, I.tok _, ⟨_, rfl⟩, q⟩
theorem un_neg : UnR X (unaryOp .USub) (rU fun i => .int (-i)) := unI fun _ _ _ _ _ q => neg_int q
end
def scal : V → V → Bool
  | .non, .non => true | .non, .int _ => true | .int _, .non => true | .non, .bl _ => true | .bl _, .non => true | .non, .str _ => true | .str _, .non => true
  | .int _, .int _ => true | .bl _, .bl _ => true | .str _, .str _ => true | .byt _, .byt _ => true
  | .int _, .str _ => true | .str _, .int _ => true | .bl _, .str _ => true | .str _, .bl _ => true
  | _, _ => false
def rEq : R2 := fun x y H Q => scal x y = true ∧ Q (.bl (decide (x = y))) H
theorem dec_int {i j : Int} : decide (V.int i = V.int j) = (i == j) := by
  rw [Bool.eq_iff_iff]
  simp
theorem dec_bl {i j : Bool} : decide (V.bl i = V.bl j) = (i == j) := by
  rw [Bool.eq_iff_iff]
  simp
theorem dec_str {i j : Str} : decide (V.str i = V.str j) = (i == j) := by
  rw [Bool.eq_iff_iff]
  simp
theorem dec_byt {i j : Array UInt8} : decide (V.byt i = V.byt j) = (i.toList == j.toList) := by
  rw [Bool.eq_iff_iff]
  cases i
  cases j
  simp
section
variable {X : Cx} {a b c : Expr} {ta tb tc : TE} {pos : Pos}
theorem fin_bl {pins : List (Addr × Obj)} {σ : St} {H : Hp} {s : Shared} {Q : VK} {k k' : Bool} (I : Inv X pins σ H s) (q : Q (.bl k) H) (e : k = k') : EP X pins σ Q (.bool k') s := by
  subst e
  exact ⟨.bl k, H, I, rfl, q⟩
theorem op_eq : OpR X (compareOp .Eq) rEq := by
  intro pins s σ H x y v u Q I rx ry h
  obtain ⟨hs, q⟩ := h
  cases x with
  | non =>
    cases rx
    cases y with
    | non => cases ry; exact PySem.EqNone.eq_none_none (fin_bl I q (by simp))
    | bl j => cases ry; exact PySem.EqNone.eq_none_bool (fin_bl I q (by simp))
    | int j => obtain ⟨t', rfl⟩ := ry; exact PySem.EqNone.eq_none_int (fin_bl I q (by simp))
    | str j => obtain ⟨t', rfl⟩ := ry; exact PySem.EqNone.eq_none_str (fin_bl I q (by simp))
    | _ => exact absurd (show false = true from hs) Bool.false_ne_true
  | bl i =>
    cases rx
    cases y with
    | non => cases ry; exact PySem.EqNone.eq_bool_none (fin_bl I q (by simp))
    | bl j => cases ry; exact eq_bool (fin_bl I q dec_bl)
    | str j => obtain ⟨t', rfl⟩ := ry; exact PySem.EqMixed.eq_bool_str (fin_bl I q (by simp))
    | _ => exact absurd (show false = true from hs) Bool.false_ne_true
  | int i =>
    obtain ⟨t, rfl⟩ := rx
    cases y with
    | non => cases ry; exact PySem.EqNone.eq_int_none (fin_bl I q (by simp))
    | int j => obtain ⟨t', rfl⟩ := ry; exact eq_int (fin_bl I q dec_int)
    | str j => obtain ⟨t', rfl⟩ := ry; exact PySem.EqMixed.eq_int_str (fin_bl I q (by simp))
    | _ => exact absurd (show false = true from hs) Bool.false_ne_true
  | str i =>
    obtain ⟨t, rfl⟩ := rx
    cases y with
    | non => cases ry; exact PySem.EqNone.eq_str_none (fin_bl I q (by simp))
    | bl j => cases ry; exact PySem.EqMixed.eq_str_bool (fin_bl I q (by simp))
    | int j => obtain ⟨t', rfl⟩ := ry; exact PySem.EqMixed.eq_str_int (fin_bl I q (by simp))
    | str j => obtain ⟨t', rfl⟩ := ry; exact eq_str (fin_bl I q dec_str)
    | _ => exact absurd (show false = true from hs) Bool.false_ne_true
  | byt i =>
    obtain ⟨t, rfl⟩ := rx
    cases y with
    | byt j => obtain ⟨t', rfl⟩ := ry; exact PySem.W.eq_bytes (fin_bl I q dec_byt)
    | _ => exact absurd (show false = true from hs) Bool.false_ne_true
  | _ => cases y <;> exact absurd (show false = true from hs) Bool.false_ne_true
theorem op_lt : OpR X (compareOp .Lt) (rI0 fun i j => .bl (decide (i < j))) := opB0 fun _ _ _ _ _ _ _ q => lt_int q
theorem op_gt : OpR X (compareOp .Gt) (rI0 fun i j => .bl (decide (j < i))) := opB0 fun _ _ _ _ _ _ _ q => gt_int q
theorem op_ge : OpR X (compareOp .GtE) (rI0 fun i j => .bl (decide (j ≤ i))) := opB0 fun _ _ _ _ _ _ _ q => ge_int q
theorem nomark (b : Expr) {op : CmpOp} (h : op ≠ .In := by decide) (h2 : op ≠ .NotIn := by decide) : behindInMarks op b = false := by
  have e1 : (op == CmpOp.In) = false := by cases op <;> first | rfl | exact absurd rfl h
  have e2 : (op == CmpOp.NotIn) = false := by cases op <;> first | rfl | exact absurd rfl h2
  cases b <;> simp [behindInMarks, e1, e2]
theorem pe_cmpR {op : CmpOp} {r : R2} (ho : OpR X (compareOp op) r) (ha : PE X a ta) (hb : PE X b tb) (hm : behindInMarks op b = false) : PE X (.Compare a [op] [b] pos) (tOp r ta tb) := by
  intro pins s σ H Q I h
  exact wpAny_Compare1 (binT ha hb I h fun v u s2 x y H2 I2 rx ry q => ho pins s2 σ H2 x y v u Q I2 rx ry q) hm
def tTest (t : TE) : TT := fun σ H Q => t σ H fun x H' => ∃ k, x = .bl k ∧ Q k H'
theorem pt_cmpR {op : CmpOp} {r : R2} (ho : OpR X (compareOp op) r) (ha : PE X a ta) (hb : PE X b tb) (hm : behindInMarks op b = false) : PT X (.Compare a [op] [b] pos) (tTest (tOp r ta tb)) := by
  intro pins s σ H Q I h
  refine wpAny_isTrue_Compare1 (thn (ha pins s σ H _ I h) fun v s1 ⟨x, H1, I1, r1, q1⟩ => thn (hb pins s1 σ H1 _ I1 q1) fun u s2 ⟨y, H2, I2, r2, q2⟩ =>
    thn (ho pins s2 σ H2 x y v u _ I2 r1 r2 q2) fun c s3 ⟨z, H3, I3, r3, k, e, q3⟩ => ?_) hm
  subst e
  cases r3
  exact wpAny_truthy_bool ⟨H3, I3, q3⟩
theorem line63 : (sizeLine : Nat) < 2 ^ 63 := by rw [sizeLine_eq]; decide
theorem vals1 {x : V} {us : List Value} (r : Vals [x] us) : ∃ u, us = [u] ∧ RelV x u := by
  cases r with
  | cons r1 r2 => cases r2; exact ⟨_, rfl, r1⟩
theorem vals2 {x y : V} {us : List Value} (r : Vals [x, y] us) : ∃ u w', us = [u, w'] ∧ RelV x u ∧ RelV y w' := by
  cases r with
  | cons r1 r2 =>
    cases r2 with
    | cons r3 r4 => cases r4; exact ⟨_, _, rfl, r1, r3⟩
theorem call_max2 (hc : X.calm = true) : CallR X (.builtin "max") (fun xs H Q => ∃ i j, xs = [.int i, .int j] ∧ Q (.int (if j > i then j else i)) H) := by
  intro pins s σ H xs us Q I r h
  obtain ⟨i, j, rfl, q⟩ := h
  obtain ⟨u, w', rfl, ⟨t, rfl⟩, ⟨t', rfl⟩⟩ := vals2 r
  refine max_two_ints (I.ok.hd hc) fun h' tk k => ⟨_, H, I.kept k, ?_, q⟩
  by_cases hj : j > i
  · rw [if_pos hj, if_pos hj]; exact ⟨_, rfl⟩
  · rw [if_neg hj, if_neg hj]; exact ⟨_, rfl⟩
theorem call_int1 : CallR X (.type "int") (fun xs H Q => (∃ i, xs = [.int i] ∧ Q (.int i) H) ∨ ∃ k, xs = [.bl k] ∧ Q (.int (if k then 1 else 0)) H) := by
  intro pins s σ H xs us Q I r h
  rcases h with ⟨i, rfl, q⟩ | ⟨k, rfl, q⟩
  · obtain ⟨u, rfl, t, rfl⟩ := vals1 r
    exact call_int_int ⟨.int i, H, I, ⟨_, rfl⟩, q⟩
  · obtain ⟨u, rfl, r1⟩ := vals1 r
    cases r1
    exact call_int_bool ⟨.int (if k then 1 else 0), H, I.tok _, ⟨_, rfl⟩, q⟩
end
end L2
namespace L2
open PySem PySem.Spec PyProof.Rows
structure ObjM (h : Heap) (x dx C : Addr) (mA : Str → Option Value) : Prop where
  obj : h.get? x = some (PySem.W.instObj C dx)
  ns : h.Ns1 dx mA
  ne : dx ≠ x
theorem lookIn_ns {h : Heap} {dx : Addr} {mA : Str → Option Value} (n : h.Ns1 dx mA) : ∃ od, h.get? dx = some od ∧ ∀ name, PySem.W.lookIn name od = some (mA name) := by
  obtain ⟨o, es, ep, ho, hd, hk, _, hm⟩ := n
  refine ⟨o, ho, fun name => ?_⟩
  have e := hm name
  unfold nsFind findBy at e
  rw [← Array.find?_toList] at e
  unfold PySem.W.lookIn
  rw [hd]
  dsimp only
  split
  · rename_i y q
    rw [q] at e
    exact congrArg some e
  · rename_i q
    rw [q] at e
    have a : es.toList.any (·.refKey) = false := by
      rw [List.any_eq_false]
      intro y hy
      obtain ⟨z, t, hkey⟩ := hk y (Array.mem_toList_iff.mp hy)
      simp [DictEntry.refKey, hkey]
    have a' : ¬ es.toList.any (·.refKey) = true := by rw [a]; exact Bool.false_ne_true
    rw [if_neg a']
    exact congrArg some e
theorem ObjM.look {h : Heap} {x dx C : Addr} {mA : Str → Option Value} (I : ObjM h x dx C mA) : ∃ od, PySem.W.InstAt h x (PySem.W.instObj C dx) C (some od) ∧ ∀ name, PySem.W.lookIn name od = some (mA name) :=
  let ⟨od, ho, hl⟩ := lookIn_ns I.ns
  ⟨od, ⟨I.obj, rfl, rfl, ho⟩, hl⟩
section
variable {prog : Program} {w : World} {A : Around} {E : Value → Shared → Prop} {s : Shared} {K : PySem.W.Frag} {x dx C f : Addr} {mA : Str → Option Value} {name : Str} {v : Value}
theorem get_map {expr : Bool} {Q : Value → Shared → Prop} (X : K.In s.heap) (I : ObjM s.heap x dx C mA) (hg : PySem.W.plainGet K C name = true) (hh : PySem.W.hasDictIn K C = true)
    (ha : PySem.W.findIn K (.ref C) name = some none) (hv : mA name = some v) (hv' : PySem.W.handedIn v = true) (h : Q v { s with toks := s.toks + 1 }) :
    wpAny (model prog w) A (getAttr (.ref x) name expr) Q E s := by
  obtain ⟨od, J, hl⟩ := I.look
  exact PySem.W.get_value X J (PySem.W.plainGet_of hg).1 (PySem.W.findObj_own hh ha rfl (by rw [hl, hv])) hv' h
theorem get_meth {pl : Sem Bool} {Q : Value × List Value → Shared → Prop} (X : K.In s.heap) (I : ObjM s.heap x dx C mA) (hg : PySem.W.plainGet K C name = true)
    (hf : PySem.W.findIn K (.ref C) name = some (some (.ref f))) (ht : PySem.W.isFn K (.ref f) = true) (hv : mA name = none) (h : Q (.ref f, [.ref x]) s) :
    wpAny (model prog w) A (getMethod (.ref x) name pl) Q E s := by
  obtain ⟨od, J, hl⟩ := I.look
  exact PySem.W.method_fn X J (PySem.W.plainGet_of hg).1 (PySem.W.plainGet_of hg).2 hf (beq_iff_eq.mp ht) (by show (PySem.W.lookIn name od).map (·.isSome) = some false; rw [hl, hv]; rfl) h
theorem set_map {ns : List Str} {Q : Unit → Shared → Prop} (X : K.In s.heap) (I : ObjM s.heap x dx C mA)
    (hs : PySem.W.findIn K (.ref C) "__setattr__" = some (some (.builtin "object.__setattr__"))) (hp : PySem.W.plainOver K C = true) (ht : PySem.W.takerIn K C name = some none) (hh : PySem.W.hasDictIn K C = true)
    (hw : PySem.Within mA ns) (hsz : ns.length ≤ sizeLine)
    (h : ∀ h', ObjM h' x dx C (fun y => if y = name then some v else mA y) → Heap.SameBut dx s.heap h' → Q () { s with heap := h', toks := s.toks + 2 }) :
    wpAny (model prog w) A (setAttr (.ref x) name v) Q E s := by
  obtain ⟨od, J, hl⟩ := I.look
  refine PySem.W.set_plain X J hs (PySem.W.osa_open (s := { s with toks := s.toks + 1 }) (r := none) X J hp ht fun b => ?_)
  obtain ⟨cd, hc, hd'⟩ := PySem.W.any_some hh
  have hx : s.heap.get? x = some ⟨.ref C, some dx, .plain, #[]⟩ := I.obj
  refine wpAny_bind (wpAny_pure (wpAny_bind (wpAny_bind (wpAny_loadPart hx (wpAny_bind (PySem.W.Looks.here (s := { s with toks := s.toks + 1 }) (PySem.W.looks_clsIn X hc) ?_))))))
  rw [hd']
  refine wpAny_pure (a := some dx) (wpAny_bind (wpAny_pure (wpAny_bind ?_)))
  refine wpAny_nsSet1 (s := { s with toks := s.toks + 1 }) I.ns fun h' hn2 hs2 => ?_
  obtain ⟨oD, esD, epD, hoD, hdD, hcD⟩ := hn2.count (PySem.Within.cons name v hw)
  refine wpAny_bind (wpAny_lookBehind hoD (by rw [hdD]; exact pastItsLine_dict (Nat.le_trans hcD (by rw [List.length_cons]; omega))) ?_)
  exact wpAny_pure (h _ ⟨(hs2.2 _ (Ne.symm I.ne)).trans I.obj, hn2, I.ne⟩ hs2)
theorem make_map {R : Result → Shared → Prop} {vs : List Value} {kw : List (Str × Value)} (X : K.In s.heap) (hm : PySem.W.makesIn K C = true)
    (hi : PySem.W.findIn K (.ref C) "__init__" = some (some (.ref f))) (hf : PySem.W.typeIn K (.ref f) = some (.type "function"))
    (h : codeAny (model prog w) (A.under (.builtin "type.__call__" ⟨.ref C :: vs, kw⟩)) (.call (.ref f) ⟨.ref (s.heap.objs.size + 1) :: vs, kw⟩) (PySem.W.InitBack (s.heap.objs.size + 1) R)
      { s with heap := (s.heap.push PySem.W.emptyDict).push (PySem.W.instObj C s.heap.objs.size) }) :
    codeAny (model prog w) A (.call (.ref C) ⟨vs, kw⟩) R s := by
  obtain ⟨hh, g, d, t, os⟩ := s
  exact PySem.W.make_core (PySem.W.makes_of X hm) (PySem.W.looks_findIn X hi) (fun self => PySem.W.bind_fn X self hf) (.inl rfl) h
end
def putF (f : Str) (v : V) : List (Str × V) → List (Str × V)
  | [] => [(f, v)]
  | (g, x) :: r => if g = f then (g, v) :: r else (g, x) :: putF f v r
theorem lookup_putF (f g : Str) (v : V) : ∀ fs : List (Str × V), (putF f v fs).lookup g = if g = f then some v else fs.lookup g
  | [] => by
    show List.lookup g [(f, v)] = _
    by_cases h : g = f
    · have hb : (g == f) = true := beq_iff_eq.mpr h
      simp only [List.lookup, hb, if_pos h]
    · have hb : (g == f) = false := beq_eq_false_iff_ne.mpr h
      simp only [List.lookup, hb, if_neg h]
  | (k, x) :: r => by
    have ih := lookup_putF f g v r
    rw [show putF f v ((k, x) :: r) = (if k = f then (k, v) :: r else (k, x) :: putF f v r) from rfl]
    by_cases hk : k = f
    · rw [if_pos hk]
      by_cases h : g = k
      · have hb : (g == k) = true := beq_iff_eq.mpr h
        simp only [List.lookup, hb, if_pos (h.trans hk)]
      · have hb : (g == k) = false := beq_eq_false_iff_ne.mpr h
        simp only [List.lookup, hb, if_neg (fun e : g = f => h (e.trans hk.symm))]
    · rw [if_neg hk]
      by_cases h : g = k
      · have hb : (g == k) = true := beq_iff_eq.mpr h
        simp only [List.lookup, hb, if_neg (fun e : g = f => hk (h.symm.trans e))]
      · have hb : (g == k) = false := beq_eq_false_iff_ne.mpr h
        simp only [List.lookup, hb]
        exact ih
theorem keys_putF (f : Str) (v : V) : ∀ fs : List (Str × V), f ∈ (putF f v fs).map (·.1) ∧ ∀ g, g ∈ fs.map (·.1) → g ∈ (putF f v fs).map (·.1)
  | [] => ⟨by simp [putF], fun g h => by simp at h⟩
  | (k, x) :: r => by
    obtain ⟨i1, i2⟩ := keys_putF f v r
    rw [show putF f v ((k, x) :: r) = (if k = f then (k, v) :: r else (k, x) :: putF f v r) from rfl]
    by_cases hk : k = f
    · rw [if_pos hk]
      subst hk
      exact ⟨by simp, fun g h => by simpa using h⟩
    · rw [if_neg hk]
      refine ⟨?_, fun g h => ?_⟩
      · rw [List.map_cons]
        exact List.mem_cons_of_mem _ i1
      · rw [List.map_cons] at h ⊢
        rcases List.mem_cons.mp h with e | e
        · exact List.mem_cons.mpr (.inl e)
        · exact List.mem_cons_of_mem _ (i2 g e)
theorem length_putF (f : Str) (v : V) : ∀ fs : List (Str × V), (putF f v fs).length ≤ fs.length + 1
  | [] => by simp [putF]
  | (k, x) :: r => by
    have ih := length_putF f v r
    rw [show putF f v ((k, x) :: r) = (if k = f then (k, v) :: r else (k, x) :: putF f v r) from rfl]
    by_cases hk : k = f
    · rw [if_pos hk, List.length_cons, List.length_cons]; omega
    · rw [if_neg hk, List.length_cons, List.length_cons]; omega
theorem RelO.some_of {v : V} {o : Option Value} (r : RelO (some v) o) : ∃ u, o = some u ∧ RelV v u := by
  cases o with
  | none => exact (show False from r).elim
  | some u => exact ⟨u, rfl, r⟩
theorem RelO.none_of {o : Option Value} (r : RelO none o) : o = none := by
  cases o with
  | none => rfl
  | some u => exact (show False from r).elim
theorem handed_of {v : V} {u : Value} (r : RelV v u) : PySem.W.handedIn u = true := by
  cases v with
  | non => cases (show u = Value.none from r); rfl
  | bl b => cases (show u = Value.bool b from r); rfl
  | int i => obtain ⟨t, e⟩ := (show ∃ t, u = Value.int i t from r); cases e; rfl
  | str x => obtain ⟨t, e⟩ := (show ∃ t, u = Value.str x t from r); cases e; rfl
  | byt b => obtain ⟨t, e⟩ := (show ∃ t, u = Value.bytes b t from r); cases e; rfl
  | flt b => obtain ⟨t, e⟩ := (show ∃ t, u = Value.float b t from r); cases e; rfl
  | ref a => cases (show u = Value.ref a from r); rfl
  | ty n => cases (show u = Value.type n from r); rfl
section
variable {P : Program} {w : World} {H H' : Hp} {h h' : Heap} {a C dx : Addr} {fs fs' : List (Str × V)}
theorem ins_get (hok : HOk P w H h) (e : H a = some (.ins C dx fs)) : ∃ mA, ObjM h a dx C mA ∧ (∀ f, RelO (fs.lookup f) (mA f)) ∧ PySem.Within mA (fs.map (·.1)) ∧ fs.length ≤ 1000 ∧ H dx = some (.own a) := by
  obtain ⟨d, z, ne, ob, mA, n, r, q⟩ := (show ObjOk P w H h a (.ins C dx fs) from hok a _ e)
  exact ⟨mA, ⟨ob, n, ne⟩, r, q, z, d⟩
end
structure Cls (K : PySem.W.Frag) (C : Addr) : Prop where
  pg : PySem.W.plainGet K C Str.empty = true
  hd : PySem.W.hasDictIn K C = true
  po : PySem.W.plainOver K C = true
  sa : PySem.W.findIn K (.ref C) "__setattr__" = some (some (.builtin "object.__setattr__"))
theorem Cls.get {K : PySem.W.Frag} {C : Addr} (c : Cls K C) (f : Str) : PySem.W.plainGet K C f = true := c.pg
def NoAttr (K : PySem.W.Frag) (C : Addr) (f : Str) : Prop := PySem.W.findIn K (.ref C) f = some none
theorem NoAttr.taker {K : PySem.W.Frag} {C : Addr} {f : Str} (n : NoAttr K C f) : PySem.W.takerIn K C f = some none := by
  unfold PySem.W.takerIn
  rw [show PySem.W.findIn K (.ref C) f = some none from n]
  rfl
structure Con (K : PySem.W.Frag) (C : Addr) (f : Str) (v : V) (u : Value) : Prop where
  at_ : PySem.W.findIn K (.ref C) f = some (some u)
  rel : RelV v u
  get : PySem.W.specialIn K u "__get__" = some none
  cp : PySem.W.copiedNames.contains f = false
structure Meth (K : PySem.W.Frag) (C : Addr) (m : Str) (f : Addr) : Prop where
  at_ : PySem.W.findIn K (.ref C) m = some (some (.ref f))
  fn : PySem.W.isFn K (.ref f) = true
  kp : PySem.W.keepIn K (.ref f) = true
section
variable {X : Cx} {pins : List (Addr × Obj)} {σ : St} {H : Hp} {s : Shared} {a C dx : Addr} {fs : List (Str × V)} {f : Str} {v : V} {A : Around} {E : Value → Shared → Prop}
theorem getattr_ok {b : Bool} {Q : Value → Shared → Prop} (I : Inv X pins σ H s) (e : H a = some (.ins C dx fs)) (c : Cls X.K C) (n : NoAttr X.K C f) (l : fs.lookup f = some v)
    (h : ∀ u s', Inv X pins σ H s' → RelV v u → Q u s') : wpAny (model X.prog X.w) A (getAttr (.ref a) f b) Q E s := by
  obtain ⟨mA, O, r, _, _, _⟩ := ins_get I.hok e
  obtain ⟨u, hu, ru⟩ := RelO.some_of (v := v) (o := mA f) (by rw [← l]; exact r f)
  exact get_map I.kIn O (c.get f) c.hd n hu (handed_of ru) (h u _ (I.tok _) ru)
theorem getmeth_ok {m : Str} {g : Addr} {pl : Sem Bool} {Q : Value × List Value → Shared → Prop} (I : Inv X pins σ H s) (e : H a = some (.ins C dx fs)) (c : Cls X.K C) (k : Meth X.K C m g) (l : fs.lookup m = none)
    (h : Q (.ref g, [.ref a]) s) : wpAny (model X.prog X.w) A (getMethod (.ref a) m pl) Q E s := by
  obtain ⟨mA, O, r, _, _, _⟩ := ins_get I.hok e
  have hn : mA m = none := RelO.none_of (by rw [← l]; exact r m)
  exact get_meth I.kIn O (c.get m) k.at_ k.fn hn h
theorem setattr_ok {y : V} {u : Value} {Q : Unit → Shared → Prop} (I : Inv X pins σ H s) (e : H a = some (.ins C dx fs)) (c : Cls X.K C) (n : NoAttr X.K C f) (hl : fs.length < 1000) (ry : RelV y u)
    (h : ∀ s', Inv X pins σ (upd H a (.ins C dx (putF f y fs))) s' → Q () s') : wpAny (model X.prog X.w) A (setAttr (.ref a) f u) Q E s := by
  obtain ⟨mA, O, r, wi, _, ho⟩ := ins_get I.hok e
  have hz : (fs.map (·.1)).length ≤ sizeLine := by rw [List.length_map, sizeLine_eq]; omega
  refine set_map I.kIn O c.sa c.po n.taker c.hd wi hz fun h' O' sb => h _ ?_
  have hd : ∃ o, h'.get? dx = some o := let ⟨o, _, _, e', _⟩ := O'.ns; ⟨o, e'⟩
  refine I.write (x := a) (e := dx) (by rw [e]; exact True.intro) (.inr ho) (fun b q hb z => (sb.2 b hb).trans z) hd ?_
  refine ⟨by rw [upd_ne O.ne]; exact ho, ?_, O.ne, O'.obj, _, O'.ns, fun g => ?_, fun g hg => ?_⟩
  · have := length_putF f y fs; omega
  · show RelO ((putF f y fs).lookup g) (if g = f then some u else mA g)
    rw [lookup_putF]
    by_cases q : g = f
    · rw [if_pos q, if_pos q]; exact ry
    · rw [if_neg q, if_neg q]; exact r g
  · by_cases q : g = f
    · rw [q]; exact (keys_putF f y fs).1
    · refine (keys_putF f y fs).2 g (wi g fun z => hg ?_)
      show (if g = f then some u else mA g) = none
      rw [if_neg q]; exact z
theorem Inv.made (I : Inv X pins σ H s) : Inv X pins σ (upd (upd H s.heap.objs.size (.own (s.heap.objs.size + 1))) (s.heap.objs.size + 1) (.ins C s.heap.objs.size []))
    { s with heap := (s.heap.push PySem.W.emptyDict).push (PySem.W.instObj C s.heap.objs.size) } := by
  have e1 : (s.heap.push PySem.W.emptyDict).get? s.heap.objs.size = some PySem.W.emptyDict := Heap.get?_push_size s.heap rfl
  have e2 : ((s.heap.push PySem.W.emptyDict).push (PySem.W.instObj C s.heap.objs.size)).get? (s.heap.objs.size + 1) = some (PySem.W.instObj C s.heap.objs.size) := by
    have := Heap.get?_push_size (s.heap.push PySem.W.emptyDict) (o := PySem.W.instObj C s.heap.objs.size) rfl
    rwa [Heap.size_push] at this
  have e3 : (s.heap.push PySem.W.emptyDict).Ns s.heap.objs.size (fun _ => none) := ⟨PySem.W.emptyDict, #[], _, e1, rfl, (fun e he => absurd he (by simp)), fun _ => rfl⟩
  have I1 := I.laid (a := s.heap.objs.size) (o := .own (s.heap.objs.size + 1)) (h' := s.heap.push PySem.W.emptyDict) (t' := s.toks) (fun b u q => Heap.get?_push_of_some _ q) (Nat.le_refl _) ⟨_, e1⟩
  refine I1.laid (a := s.heap.objs.size + 1) (o := .ins C s.heap.objs.size []) (t' := s.toks) (fun b u q => Heap.get?_push_of_some _ q) (Nat.le_of_eq (Heap.size_push _ _)) ?_
  have ne : s.heap.objs.size ≠ s.heap.objs.size + 1 := Nat.ne_of_lt (Nat.lt_succ_self _)
  refine ⟨by rw [upd_ne ne, upd_same], Nat.zero_le _, ne, e2, fun _ => none, (Heap.Ns1.of_empty e3).at fun o q => Heap.get?_push_of_some _ q, fun _ => True.intro, fun y hy => absurd rfl hy⟩
theorem attr_of {prog : Program} {w : World} {env : Env} {e : Expr} {f : Str} {pos : Pos} {s : Shared} {Q : Value → Shared → Prop} (hb : attributeBase e f env (eval e env) = eval e env)
    (h : wpAny (model prog w) A (eval e env) (fun o s₁ => wpAny (model prog w) A (getAttr o f true) Q E s₁) E s) : wpAny (model prog w) A (eval (.Attribute e f pos) env) Q E s :=
  Attribute_any_ h (by rw [arm_eval_Attribute, hb])
end
def tFld (K : PySem.W.Frag) (ta : TE) (f : Str) : TE := fun σ H Q => ta σ H fun x H1 => ∃ a C dx fs v, x = .ref a ∧ H1 a = some (.ins C dx fs) ∧ Cls K C ∧ NoAttr K C f ∧ fs.lookup f = some v ∧ Q v H1
def sFld (K : PySem.W.Frag) (ta tv : TE) (f : Str) : TS := fun D σ H => tv σ H fun y H1 => ta σ H1 fun x H2 => ∃ a C dx fs, x = .ref a ∧ H2 a = some (.ins C dx fs) ∧ Cls K C ∧ NoAttr K C f ∧ fs.length < 1000 ∧
  D.nx σ (upd H2 a (.ins C dx (putF f y fs)))
section
variable {X : Cx} {o e value : Expr} {f : Str} {pos pos' tpos : Pos} {ta tv : TE}
theorem pe_fld (he : PE X e ta) (hb : attributeBase e f X.env (eval e X.env) = eval e X.env) : PE X (.Attribute e f pos) (tFld X.K ta f) := by
  intro pins s σ H Q I h
  refine attr_of hb (thn (he pins s σ H _ I h) fun u s1 ⟨x, H1, I1, rx, a, C, dx, fs, v, ex, ea, c, n, l, q⟩ => ?_)
  subst ex
  obtain rfl : u = Value.ref a := rx
  exact getattr_ok I1 ea c n l fun u' s2 I2 ru => ⟨v, H1, I2, ru, q⟩
theorem ps_fld (ha : PE X o ta) (hv : PE X value tv) (hs : swapsWith value (some (.Attribute o f pos')) pos.line X.env = pure false) : PS X (.Assign [.Attribute o f pos'] value pos) (sFld X.K ta tv f) := by
  intro pins s σ H D I h
  refine plainObj_wpAny_Assign_Attribute (thn (hv pins s σ H _ I h) fun u s1 ⟨y, H1, I1, ry, q⟩ => thn (ha pins s1 σ H1 _ I1 q) fun ov s2 ⟨x, H2, I2, rx, a, C, dx, fs, ex, ea, c, n, l, q2⟩ => ?_) hs
  subst ex
  obtain rfl : ov = Value.ref a := rx
  exact setattr_ok I2 ea c n l ry fun s3 I3 => ⟨σ, _, I3, q2⟩
end
section
variable {X : Cx} {pins : List (Addr × Obj)} {σ : St} {H : Hp} {s : Shared} {A : Around} {E : Value → Shared → Prop} {Q : Value → Shared → Prop} {c : Value} {b : Bool}
inductive TyOf (K : PySem.W.Frag) (H : Hp) : V → Value → Prop where
  | non : TyOf K H .non (.type "NoneType")
  | bl (x : Bool) : TyOf K H (.bl x) (.type "bool")
  | int (i : Int) : TyOf K H (.int i) (.type "int")
  | str (x : Str) : TyOf K H (.str x) (.type "str")
  | flt (x : UInt64) : TyOf K H (.flt x) (.type "float")
  | lst {a : Addr} {xs : List V} (e : H a = some (.lst xs)) : TyOf K H (.ref a) (.type "list")
  | frz {a : Addr} {o : Obj} {xs : List V} (e : H a = some (.frz o (.lst xs))) : TyOf K H (.ref a) (.type "list")
  | tup {a : Addr} {xs : List V} (e : H a = some (.tup xs)) : TyOf K H (.ref a) (.type "tuple")
  | dK {a : Addr} {kvs : List (Key × V)} (e : H a = some (.dK kvs)) : TyOf K H (.ref a) (.type "dict")
  | dT {a : Addr} {kvs : List (List Key × V)} (e : H a = some (.dT kvs)) : TyOf K H (.ref a) (.type "dict")
  | ins {a C dx : Addr} {fs : List (Str × V)} (e : H a = some (.ins C dx fs)) (cl : Cls K C) (ha : PySem.W.findIn K (.ref C) "__class__" = some (some (.builtin "object.__class__")))
      (hn : PySem.W.specialIn K (.builtin "object.__class__") "__get__" = some (some (.builtin "getset_descriptor.__get__"))) (htk : PySem.W.takesIn K (.builtin "object.__class__") = some true)
      (hm : PySem.W.mroIn K C (.type "object") = some true) : TyOf K H (.ref a) (.ref C)
end
end L2
namespace L2
open PySem PySem.Spec PyProof.Rows
structure Room (k : Nat) (A : Around) : Prop where
  hd : A.handled = none
  dp : A.depth + 3 * k + 5 < recursionLimit
  un : A.units + 16 * k + 200 < cLine
  gd : A.guards = some []
theorem Room.mono {j k : Nat} {A : Around} (r : Room k A) (h : j ≤ k) : Room j A := ⟨r.hd, by have := r.dp; omega, by have := r.un; omega, r.gd⟩
theorem Room.deeper {k : Nat} {A : Around} (r : Room (k + 1) A) (env : Env) : Room k (A.deeper env) :=
  ⟨r.hd, by have := r.dp; show A.depth + 1 + 3 * k + 5 < _; omega, by have := r.un; show A.units + 3 + 16 * k + 200 < _; omega, r.gd⟩
theorem make_depth {A : Around} {C : Addr} {us : List Value} {kw : List (Str × Value)} : (A.under (.builtin "type.__call__" ⟨.ref C :: us, kw⟩)).depth = A.depth + 1 := by
  first | rfl | simp [Around.under, Code.weight, Code.isCreation, Code.isGuard, Code.isCaller, Code.frames, Code.isFrame, guardIds]
theorem make_units {A : Around} {C : Addr} {us : List Value} {kw : List (Str × Value)} : (A.under (.builtin "type.__call__" ⟨.ref C :: us, kw⟩)).units = A.units + 1 := by
  first | rfl | simp [Around.under, Code.cUnits, Code.frames, Code.isFrame]
theorem make_guards {A : Around} {C : Addr} {us : List Value} {kw : List (Str × Value)} (hg : A.guards = some []) : (A.under (.builtin "type.__call__" ⟨.ref C :: us, kw⟩)).guards = some [] := by
  have h : (Code.builtin "type.__call__" ⟨.ref C :: us, kw⟩).isGuard = false := by
    show guardIds.contains "type.__call__" = false
    decide +kernel
  simp [Around.under, Code.guards, h, pushGuards, hg]
theorem Room.make {k : Nat} {A : Around} (r : Room (k + 1) A) (C : Addr) (us : List Value) (kw : List (Str × Value)) : Room k (A.under (.builtin "type.__call__" ⟨.ref C :: us, kw⟩)) :=
  ⟨r.hd, by have := r.dp; rw [make_depth]; omega, by have := r.un; rw [make_units]; omega, make_guards r.gd⟩
theorem Room.depth {k : Nat} {A : Around} (r : Room k A) : A.depth < recursionLimit := by have := r.dp; omega
theorem Room.units {k : Nat} {A : Around} (r : Room k A) : A.units + 64 < cLine := by have := r.un; omega
def tNil : TA := fun _ H Q => Q [] H
def tCons (ta : TE) (tr : TA) : TA := fun σ H Q => ta σ H fun x H1 => tr σ H1 fun xs H2 => Q (x :: xs) H2
section
variable {X : Cx} {e : Expr} {es : List Expr} {te : TE} {t : TA} {pos : Pos}
theorem pa_nil : PA X [] tNil := fun _ _ _ _ H Q I h => Calls.spliced_nil ⟨[], H, I, .nil, h⟩
theorem pa_cons (ha : PE X e te) (hr : PA X es t) (hs : starEach (e :: es) X.env = (false, eval e X.env) :: starEach es X.env := by rfl) : PA X (e :: es) (tCons te t) := by
  intro pos pins s σ H Q I h
  rw [hs]
  show wpAny _ _ (spliced ((false, eval e X.env) :: backTo pos (starEach es X.env))) _ _ s
  refine Calls.spliced_cons (thn (ha pins s σ H _ I h) fun u s1 ⟨x, H1, I1, r1, q1⟩ => ?_)
  exact thn (hr pos pins s1 σ H1 _ I1 q1) fun us s2 ⟨xs, H2, I2, r2, q2⟩ => ⟨x :: xs, H2, I2, .cons r1 r2, q2⟩
def tTup (t : TA) : TE := fun σ H Q => t σ H fun xs H1 => xs.length ≤ sizeLine ∧ ∀ p, H1 p = none → Q (.ref p) (upd H1 p (.tup xs))
def tLst (t : TA) : TE := fun σ H Q => t σ H fun xs H1 => xs.length ≤ sizeLine ∧ ∀ p, H1 p = none → Q (.ref p) (upd H1 p (.lst xs))
theorem pe_tup {x1} (h : PA X es t) : PE X (.Tuple es x1 pos) (tTup t) := by
  intro pins s σ H Q I hq
  refine wpAny_Tuple_spliced (thn (h pos pins s σ H _ I hq) fun us s1 ⟨xs, H1, I1, r, z, q⟩ => ⟨by rw [← r.length]; exact z, ?_⟩)
  have hf : H1 s1.heap.objs.size = none := I1.hok.fresh (Nat.le_refl _)
  refine ⟨.ref s1.heap.objs.size, upd H1 s1.heap.objs.size (.tup xs), I1.laid (t' := s1.toks) (fun b u e => Heap.get?_push_of_some _ e) (Nat.le_refl _) ?_, rfl, q _ hf⟩
  exact ⟨z, us, r, ⟨_, Heap.get?_push_size _ rfl, rfl, _, rfl⟩⟩
theorem pe_lst (h : PA X es t) : PE X (.List es pos) (tLst t) := by
  intro pins s σ H Q I hq
  refine wpAny_List_spliced (thn (h pos pins s σ H _ I hq) fun us s1 ⟨xs, H1, I1, r, z, q⟩ => ⟨by rw [← r.length]; exact z, ?_⟩)
  have hf : H1 s1.heap.objs.size = none := I1.hok.fresh (Nat.le_refl _)
  refine ⟨.ref s1.heap.objs.size, upd H1 s1.heap.objs.size (.lst xs), I1.laid (t' := s1.toks) (fun b u e => Heap.get?_push_of_some _ e) (Nat.le_refl _) ?_, rfl, q _ hf⟩
  exact ⟨z, us, 0, r, Heap.get?_push_size _ rfl⟩
end
abbrev Sp := List V → Hp → VK → XK → Prop
abbrev CXT := List Env → Hp → Shared → XK → Value → Shared → Prop
structure Env0 (P : Program) (w : World) (K : PySem.W.Frag) (mg : Str → Option Value) (base : Heap) (A : Around) (outer : List Env) (s : Shared) (H : Hp) : Prop where
  frames : A.frames = some outer
  mod : Mod K mg base
  bs : ∀ b o, base.get? b = some o → s.heap.get? b = some o ∧ H b = none
  bsz : base.objs.size ≤ s.heap.objs.size
  funs : s.heap.FunFrames base outer
  frf : ∀ b ∈ frs outer, H b = none
  hok : HOk P w H s.heap
  bare : AllBare s.gens
def CE (outer : List Env) (P : Program) (w : World) (H : Hp) (s : Shared) (Q : VK) (u : Value) (s' : Shared) : Prop :=
  ∃ v H', s'.os = s.os ∧ AllBare s'.gens ∧ Un (frs outer) [] H H' s.heap s'.heap ∧ HOk P w H' s'.heap ∧ RelV v u ∧ Q v H'
def CR (CX : CXT) (outer : List Env) (P : Program) (w : World) (H : Hp) (s : Shared) (Q : VK) (E : XK) (r : Result) (s' : Shared) : Prop :=
  match r with
  | .ok (.ret u) => CE outer P w H s Q u s'
  | .ok _ => False
  | .error e => CX outer H s E e s'
structure FnOk (P : Program) (w : World) (K : PySem.W.Frag) (mg : Str → Option Value) (base : Heap) (CX : CXT) (k : Nat) (f : Addr) (fd : FuncData) (ps : List Str) (sp : Sp) : Prop where
  len : ∀ vs H Q E, sp vs H Q E → vs.length = ps.length
  run : ∀ (A : Around) (outer : List Env) (s : Shared) (H : Hp) (args : Args) (us : List Value) (vs : List V) (Q : VK) (E : XK), Room k A → Env0 P w K mg base A outer s H → BindsTo s fd args (ps.zip us) → Vals vs us → sp vs H Q E →
    codeAny (model P w) A (.call (.ref f) args) (CR CX outer P w H s Q E) s
theorem Env0.make {P : Program} {w : World} {K : PySem.W.Frag} {mg : Str → Option Value} {base : Heap} {A : Around} {outer : List Env} {s : Shared} {H : Hp} (e : Env0 P w K mg base A outer s H) (C : Addr) (us : List Value) (kw : List (Str × Value)) :
    Env0 P w K mg base (A.under (.builtin "type.__call__" ⟨.ref C :: us, kw⟩)) outer s H := ⟨by first | exact e.frames | (simpa [Around.under, Code.envs, Code.isFrame, pushEnvs] using e.frames), e.mod, e.bs, e.bsz, e.funs, e.frf, e.hok, e.bare⟩
section
variable {X : Cx} {pins : List (Addr × Obj)} {σ : St} {H : Hp} {s s' : Shared}
theorem Inv.env0 (I : Inv X pins σ H s) : Env0 X.prog X.w X.K X.mg X.base X.A X.stack s H :=
  ⟨I.ok.frames, I.ok.mod, I.bs, Nat.le_trans I.ok.bsz I.sz, I.stack, I.stkFree, I.hok, I.bare⟩
theorem Inv.after {Q : VK} {u : Value} (I : Inv X pins σ H s) (h : CE X.stack X.prog X.w H s Q u s') : EP X pins σ Q u s' := by
  obtain ⟨v, H', os, bare, un, hok, r, q⟩ := h
  obtain ⟨hh, g, d, t, os'⟩ := s'
  obtain rfl : os' = s.os := os
  exact ⟨v, H', I.call (h' := hh) (g' := g) (d' := d) (t' := t) (ch := []) un hok bare (fun b z => absurd z (by simp)), r, q⟩
end
def tCall (sp : Sp) (dvs : List V) (E : XK) (t : TA) : TE := fun σ H Q => t σ H fun vs H1 => sp (vs ++ dvs) H1 Q E
def tMeth (C : Addr) (m : Str) (sp : Sp) (dvs : List V) (E : XK) (ta : TE) (t : TA) : TE := fun σ H Q => ta σ H fun x H1 => ∃ a dx fs, x = .ref a ∧ H1 a = some (.ins C dx fs) ∧ fs.lookup m = none ∧
  t σ H1 fun vs H2 => sp (x :: (vs ++ dvs)) H2 Q E
def tMake (C : Addr) (sp : Sp) (dvs : List V) (E : XK) (t : TA) : TE := fun σ H Q => t σ H fun vs H1 => ∀ x dx, H1 x = none → H1 dx = none → dx ≠ x →
  sp (.ref x :: (vs ++ dvs)) (upd (upd H1 dx (.own x)) x (.ins C dx [])) (fun v H2 => v = .non ∧ Q (.ref x) H2) E
def Binds (K : PySem.W.Frag) (fd : FuncData) (ps : List Str) (ds : List Value) : Prop :=
  ∀ (s : Shared) (us : List Value), K.In s.heap → (us ++ ds).length = ps.length → BindsTo s fd ⟨us, []⟩ (ps.zip (us ++ ds))
theorem Binds.all {K : PySem.W.Frag} {fd : FuncData} {ps : List Str} (h : ∀ us : List Value, us.length = ps.length → bindArgs fd ⟨us, []⟩ = pure (ps.zip us)) : Binds K fd ps [] := fun s us _ hl => by
  rw [List.append_nil] at hl ⊢
  exact .of_eq (h us hl)
def Passes (CX : CXT) (X : Cx) (E : XK) : Prop := ∀ (pins : List (Addr × Obj)) (σ : St) (H : Hp) (s : Shared) (e : Value) (s' : Shared), Inv X pins σ H s → CX X.stack H s E e s' → X.xe e s'
section
variable {X : Cx} {CX : CXT} {k : Nat} {f C : Addr} {fd : FuncData} {ps : List Str} {sp : Sp} {dvs : List V} {ds : List Value} {E : XK} {x m : Str} {p pos apos : Pos} {e o : Expr} {es : List Expr} {ta : TE} {t : TA}
theorem run_fn {pins : List (Addr × Obj)} {σ : St} {H : Hp} {s : Shared} {Q : VK} {us : List Value} {vs : List V} (F : FnOk X.prog X.w X.K X.mg X.base CX k f fd ps sp) (hr : Room k X.A) (hb : Binds X.K fd ps ds) (hd : Vals dvs ds) (hx : Passes CX X E)
    (I : Inv X pins σ H s) (r : Vals vs us) (h : sp (vs ++ dvs) H Q E) : wpAny (model X.prog X.w) X.A (call (.ref f) us) (EP X pins σ Q) X.xe s := by
  have r2 : Vals (vs ++ dvs) (us ++ ds) := r.append hd
  have hl : (us ++ ds).length = ps.length := by rw [← r2.length]; exact F.len _ _ _ _ h
  refine wpAny_call (codeAny_mono (F.run X.A X.stack s H ⟨us, []⟩ (us ++ ds) (vs ++ dvs) Q E hr I.env0 (hb s us I.kIn hl) r2 h) fun r s' hq => ?_)
  cases r with
  | error e => exact hx pins σ H s e s' I hq
  | ok fl =>
    cases fl with
    | ret u => exact I.after hq
    | next => exact False.elim hq
    | brk => exact False.elim hq
    | cont => exact False.elim hq
theorem pe_call (F : FnOk X.prog X.w X.K X.mg X.base CX k f fd ps sp) (hr : Room k X.A) (hg : Gl X x) (hm : X.mg x = some (.ref f)) (hk : PySem.W.keepIn X.K (.ref f) = true) (hb : Binds X.K fd ps ds) (hd : Vals dvs ds) (hx : Passes CX X E)
    (ha : PA X (e :: es) t) (hdb : (x == ("__debug__" : Str)) = false := by decide) (he : starEach (e :: es) X.env = (false, eval e X.env) :: starEach es X.env := by rfl) (hpl : (backTo pos (starEach es X.env)).any (·.1) = false := by rfl) :
    PE X (.Call (.Name x p) (e :: es) [] pos) (tCall sp dvs E t) := by
  intro pins s σ H Q I h
  refine wpAny_Call_Name_kw (ld_glob I hg hm ?_ hdb)
  refine PySem.W.callWith_K (h₀ := X.base) I.ok.mod.kin hk (thn (ha pos pins s σ H _ I h) fun us s1 ⟨vs, H1, I1, r, q⟩ => ⟨I1.kIn, ?_⟩) he hpl
  exact run_fn F hr hb hd hx I1 r q
theorem pe_meth {pl : Sem Bool} (he : PE X o ta) (c : Cls X.K C) (hm : Meth X.K C m f) (F : FnOk X.prog X.w X.K X.mg X.base CX k f fd ps sp) (hr : Room k X.A) (hb : Binds X.K fd ps ds) (hd : Vals dvs ds) (hx : Passes CX X E) (ha : PA X (e :: es) t)
    (hst : starEach (e :: es) X.env = (false, eval e X.env) :: starEach es X.env := by rfl) (hpl : (backTo pos (starEach es X.env)).any (·.1) = false := by rfl)
    (ht : eval (.Call (.Attribute o m apos) (e :: es) [] pos) X.env = (do
      let ov ← eval o X.env
      standAt apos.atName
      let (f, first) ← holding [ov] (getMethod ov m pl)
      callWith pos f first (backTo pos (starEach (e :: es) X.env)) (backToKw pos (keywordEach [] X.env))) := by rfl) :
    PE X (.Call (.Attribute o m apos) (e :: es) [] pos) (tMeth C m sp dvs E ta t) := by
  intro pins s σ H Q I h
  refine PySem.W.methodCall_KW (pl := pl) (thn (he pins s σ H _ I h) fun u s1 ⟨x, H1, I1, rx, a, dx, fs, ex, ea, l, q⟩ => ?_) ht
  subst ex
  obtain rfl : u = Value.ref a := rx
  refine getmeth_ok I1 ea c hm l ?_
  refine PySem.W.callWith_K (first := [.ref a]) (h₀ := X.base) I.ok.mod.kin hm.kp (thn (ha pos pins s1 σ H1 _ I1 q) fun us s2 ⟨vs, H2, I2, r, q2⟩ => ⟨I2.kIn, ?_⟩) hst hpl
  exact run_fn (us := .ref a :: us) (vs := .ref a :: vs) F hr hb hd hx I2 (.cons rfl r) q2
theorem pe_meth0 {pl : Sem Bool} (he : PE X o ta) (c : Cls X.K C) (hm : Meth X.K C m f) (F : FnOk X.prog X.w X.K X.mg X.base CX k f fd ps sp) (hr : Room k X.A) (hb : Binds X.K fd ps ds) (hd : Vals dvs ds) (hx : Passes CX X E)
    (ht : eval (.Call (.Attribute o m apos) [] [] pos) X.env = (do
      let ov ← eval o X.env
      standAt apos.atName
      let (f, first) ← holding [ov] (getMethod ov m pl)
      callWith pos f first (backTo pos (starEach [] X.env)) (backToKw pos (keywordEach [] X.env))) := by rfl) :
    PE X (.Call (.Attribute o m apos) [] [] pos) (tMeth C m sp dvs E ta tNil) := by
  intro pins s σ H Q I h
  refine PySem.W.methodCall_KW (pl := pl) (thn (he pins s σ H _ I h) fun u s1 ⟨x, H1, I1, rx, a, dx, fs, ex, ea, l, q⟩ => ?_) ht
  subst ex
  obtain rfl : u = Value.ref a := rx
  refine getmeth_ok I1 ea c hm l ?_
  exact PySem.W.callWith_K0 (first := [.ref a]) I1.kIn hm.kp (run_fn (us := [.ref a]) (vs := [.ref a]) F hr hb hd hx I1 (.cons rfl .nil) q)
structure Mk (K : PySem.W.Frag) (C f : Addr) : Prop where
  makes : PySem.W.makesIn K C = true
  init : PySem.W.findIn K (.ref C) "__init__" = some (some (.ref f))
  fn : PySem.W.isFn K (.ref f) = true
  kp : PySem.W.keepIn K (.ref C) = true
theorem run_make {pins : List (Addr × Obj)} {σ : St} {H : Hp} {s : Shared} {Q : VK} {us : List Value} {vs : List V} (M : Mk X.K C f) (F : FnOk X.prog X.w X.K X.mg X.base CX k f fd ps sp) (hr : Room (k + 1) X.A) (hb : Binds X.K fd ps ds) (hd : Vals dvs ds)
    (hx : Passes CX X E) (I : Inv X pins σ H s) (r : Vals vs us)
    (h : ∀ x dx, H x = none → H dx = none → dx ≠ x → sp (.ref x :: (vs ++ dvs)) (upd (upd H dx (.own x)) x (.ins C dx [])) (fun v H2 => v = .non ∧ Q (.ref x) H2) E) :
    wpAny (model X.prog X.w) X.A (call (.ref C) us) (EP X pins σ Q) X.xe s := by
  have hq := h (s.heap.objs.size + 1) s.heap.objs.size (I.hok.fresh (Nat.le_succ _)) (I.hok.fresh (Nat.le_refl _)) (Nat.ne_of_lt (Nat.lt_succ_self _))
  have I2 := Inv.made (C := C) I
  have r2 : Vals (V.ref (s.heap.objs.size + 1) :: (vs ++ dvs)) (Value.ref (s.heap.objs.size + 1) :: (us ++ ds)) := .cons rfl (r.append hd)
  have hl : (Value.ref (s.heap.objs.size + 1) :: us ++ ds).length = ps.length := by
    have e := r2.length
    rw [F.len _ _ _ _ hq] at e
    exact e.symm
  refine wpAny_call (make_map (f := f) I.kIn M.makes M.init (beq_iff_eq.mp M.fn) (codeAny_mono (F.run _ X.stack _ _ ⟨Value.ref (s.heap.objs.size + 1) :: us, []⟩ (Value.ref (s.heap.objs.size + 1) :: (us ++ ds)) _ _ E (hr.make C us [])
    (I2.env0.make C us []) (hb _ (Value.ref (s.heap.objs.size + 1) :: us) I2.kIn hl) r2 hq) fun r s' hq' => ?_))
  cases r with
  | error e => exact hx pins σ _ _ e s' I2 hq'
  | ok fl =>
    cases fl with
    | ret u =>
      obtain ⟨v, H', I3, rv, ev, q3⟩ := I2.after hq'
      subst ev
      exact ⟨rv, ⟨V.ref (s.heap.objs.size + 1), H', I3, rfl, q3⟩⟩
    | next => exact False.elim hq'
    | brk => exact False.elim hq'
    | cont => exact False.elim hq'
theorem pe_make (M : Mk X.K C f) (F : FnOk X.prog X.w X.K X.mg X.base CX k f fd ps sp) (hr : Room (k + 1) X.A) (hg : Gl X x) (hm : X.mg x = some (.ref C)) (hb : Binds X.K fd ps ds) (hd : Vals dvs ds) (hx : Passes CX X E)
    (ha : PA X (e :: es) t) (hdb : (x == ("__debug__" : Str)) = false := by decide) (he : starEach (e :: es) X.env = (false, eval e X.env) :: starEach es X.env := by rfl) (hpl : (backTo pos (starEach es X.env)).any (·.1) = false := by rfl) :
    PE X (.Call (.Name x p) (e :: es) [] pos) (tMake C sp dvs E t) := by
  intro pins s σ H Q I h
  refine wpAny_Call_Name_kw (ld_glob I hg hm ?_ hdb)
  refine PySem.W.callWith_K (h₀ := X.base) I.ok.mod.kin M.kp (thn (ha pos pins s σ H _ I h) fun us s1 ⟨vs, H1, I1, r, q⟩ => ⟨I1.kIn, ?_⟩) he hpl
  exact run_make M F hr hb hd hx I1 r q
theorem pe_make0 (M : Mk X.K C f) (F : FnOk X.prog X.w X.K X.mg X.base CX k f fd ps sp) (hr : Room (k + 1) X.A) (hg : Gl X x) (hm : X.mg x = some (.ref C)) (hb : Binds X.K fd ps ds) (hd : Vals dvs ds) (hx : Passes CX X E)
    (hdb : (x == ("__debug__" : Str)) = false := by decide) : PE X (.Call (.Name x p) [] [] pos) (tMake C sp dvs E tNil) := by
  intro pins s σ H Q I h
  refine wpAny_Call_Name_kw (ld_glob I hg hm ?_ hdb)
  exact PySem.W.callWith_K0 I.kIn M.kp (run_make (us := []) M F hr hb hd hx I .nil h)
end
section
variable {X : Cx} {CX : CXT} {k : Nat} {f C : Addr} {fd : FuncData} {ps ks : List Str} {sp : Sp} {E : XK} {x m : Str} {p pos apos kpos : Pos} {e o : Expr} {es : List Expr} {kws : List Keyword} {te ta : TE} {t tk : TA} {nm : Option Str}
structure KBinds (K : PySem.W.Frag) (fd : FuncData) (ps ks : List Str) (g : List Value → List Value → List Value) (gV : List V → List V → List V) : Prop where
  to : ∀ (s : Shared) (us ws : List Value), K.In s.heap → (g us ws).length = ps.length → BindsTo s fd ⟨us, ks.zip ws⟩ (ps.zip (g us ws))
  rel : ∀ {vs : List V} {us : List Value} {zs : List V} {ws : List Value}, Vals vs us → Vals zs ws → Vals (gV vs zs) (g us ws)
variable {g : List Value → List Value → List Value} {gV : List V → List V → List V}
end
structure FnScope (N P : List Str) (sc : Scope) : Prop where
  kind : sc.kind = .function
  co : sc.isCoroutine = false
  gen : sc.isGenerator = false
  nd : N.Nodup
  pre : N.take P.length = P
  par : ∀ x ∈ P, sc.names.lookup x = some .local ∨ sc.names.lookup x = some .cell
  nofree : ∀ y ∈ sc.names, y.2 ≠ .free
theorem bindL_out {kindOf : Str → Option NameKind} {x : Str} : ∀ {binds : List (Str × Value)} {m : Str → Option Value}, (∀ v, (x, v) ∉ binds) → bindL kindOf binds m x = m x
  | [], _, _ => rfl
  | (n, v) :: r, m, h => by
    unfold bindL
    rw [bindL_out fun w hw => h w (List.mem_cons_of_mem _ hw)]
    split
    · have : x ≠ n := by rintro rfl; exact h v List.mem_cons_self
      simp [this]
    · rfl
theorem bindC_out {kindOf : Str → Option NameKind} {x : Str} : ∀ {binds : List (Str × Value)} {m : Str → Option Value}, (∀ v, (x, v) ∉ binds) → bindC kindOf binds m x = m x
  | [], _, _ => rfl
  | (n, v) :: r, m, h => by
    unfold bindC
    rw [bindC_out fun w hw => h w (List.mem_cons_of_mem _ hw)]
    split
    · rfl
    · have : x ≠ n := by rintro rfl; exact h v List.mem_cons_self
      simp [this]
theorem bindL_get {kindOf : Str → Option NameKind} {x : Str} {v : Value} : ∀ {P : List Str} {vs : List Value} {i : Nat} {m : Str → Option Value}, P.Nodup → P[i]? = some x → vs[i]? = some v → kindOf x = some .local →
    bindL kindOf (P.zip vs) m x = some v
  | [], _, _, _, _, h, _, _ => by simp at h
  | _ :: _, [], _, _, _, _, h, _ => by simp at h
  | p :: P, w :: vs, 0, m, nd, h1, h2, hk => by
    simp at h1 h2; subst h1; subst h2
    show bindL kindOf ((p, w) :: P.zip vs) m p = _
    unfold bindL
    rw [bindL_out fun v hv => (List.nodup_cons.mp nd).1 (List.of_mem_zip hv).1, if_pos hk]
    simp
  | p :: P, w :: vs, i + 1, m, nd, h1, h2, hk => by
    show bindL kindOf ((p, w) :: P.zip vs) m x = _
    unfold bindL
    exact bindL_get (i := i) (List.nodup_cons.mp nd).2 (by simpa using h1) (by simpa using h2) hk
theorem bindC_get {kindOf : Str → Option NameKind} {x : Str} {v : Value} : ∀ {P : List Str} {vs : List Value} {i : Nat} {m : Str → Option Value}, P.Nodup → P[i]? = some x → vs[i]? = some v → kindOf x ≠ some .local →
    bindC kindOf (P.zip vs) m x = some v
  | [], _, _, _, _, h, _, _ => by simp at h
  | _ :: _, [], _, _, _, _, h, _ => by simp at h
  | p :: P, w :: vs, 0, m, nd, h1, h2, hk => by
    simp at h1 h2; subst h1; subst h2
    show bindC kindOf ((p, w) :: P.zip vs) m p = _
    unfold bindC
    rw [bindC_out fun v hv => (List.nodup_cons.mp nd).1 (List.of_mem_zip hv).1, if_neg hk]
    simp
  | p :: P, w :: vs, i + 1, m, nd, h1, h2, hk => by
    show bindC kindOf ((p, w) :: P.zip vs) m x = _
    unfold bindC
    exact bindC_get (i := i) (List.nodup_cons.mp nd).2 (by simpa using h1) (by simpa using h2) hk
def start (N : List Str) (vs : List V) : St := vs.map some ++ List.replicate (N.length - vs.length) none
def cxOf (CX : CXT) (P : Program) (w : World) (K : PySem.W.Frag) (mg : Str → Option Value) (base : Heap) (N : List Str) (qual : Str) (scope : Scope) (f : Addr) (cd : Value) (A : Around) (outer : List Env) (s : Shared) (H : Hp) (E : XK) : Cx where
  prog := P
  w := w
  K := K
  mg := mg
  base := base
  A := A.deeper (envOfC qual scope s.heap.objs.size f cd)
  N := N
  s₀ := s
  H₀ := H
  env := envOfC qual scope s.heap.objs.size f cd
  outer := outer
  stack := envOfC qual scope s.heap.objs.size f cd :: outer
  ex := []
  calm := true
  fn := fun _ => true
  pn := []
  xe := fun e s' => wpAny (model P w) (A.deeper (envOfC qual scope s.heap.objs.size f cd)) (leaving (envOfC qual scope s.heap.objs.size f cd) e) (fun _ s'' => CX outer H s E e s'') (fun e' s'' => CX outer H s E e' s'') s'
theorem cell_has {sc : Scope} {n : Nat} {x : Str} (h : sc.names.lookup x = some .cell) : ∃ c, (cellsFrom n sc.names []).lookup x = some c := by
  have q := PySem.W.cellsFrom_some sc.names n [] (.inl h)
  exact Option.isSome_iff_exists.mp q
theorem inv_start {CX : CXT} {P : Program} {w : World} {K : PySem.W.Frag} {mg : Str → Option Value} {base : Heap} {N ps : List Str} {qual : Str} {scope : Scope} {f : Addr} {cd : Value} {A : Around} {outer : List Env} {s s1 : Shared} {H : Hp} {E : XK} {us : List Value} {vs : List V}
    (S : FnScope N ps scope) (hd : A.handled = none) (e0 : Env0 P w K mg base A outer s H) (hl : vs.length = ps.length) (r : Vals vs us)
    (x : InCallC s s.heap.objs.size (bindL (envOfC qual scope s.heap.objs.size f cd).kindOf (ps.zip us) fun _ => none) (cellsFrom (s.heap.objs.size + 1) scope.names []) (bindC (envOfC qual scope s.heap.objs.size f cd).kindOf (ps.zip us) fun _ => none) s1) :
    Inv (cxOf CX P w K mg base N qual scope f cd A outer s H E) [] (start N vs) H s1 := by
  have hpl : ps.length ≤ N.length := by have := congrArg List.length S.pre; rw [List.length_take] at this; omega
  obtain ⟨h1, tk, rfl, hk⟩ := x.done
  have noA : ∀ b : Addr, b ∉ (cxOf CX P w K mg base N qual scope f cd A outer s H E).ex := fun b z => absurd (show b ∈ ([] : List Addr) from z) (by simp)
  refine ⟨⟨e0.mod, S.kind, rfl, rfl, Nat.le_refl _, fun y z c h1 h2 => ?_, fun y hy => ?_, fun y c _ h => ?_, fun _ => hd, Around.frames_deeper e0.frames, .inr ⟨rfl, rfl⟩, fun b z => absurd z (noA b), e0.bs, e0.bsz, fun b _ _ => noA b, fun b z => absurd z (noA b), e0.funs, e0.frf⟩,
    rfl, e0.bare, Un.kept hk, ⟨_, x.toInCall.ns, fun i y v h1 h2 h3 => ?_⟩, fun y c h => ⟨_, x.cell y c h⟩, e0.hok.fresh (Nat.le_refl _), fun y c h => ?_, fun p hp => absurd (show p ∈ ([] : List (Addr × Obj)) from hp) (by simp), e0.hok.kept hk, ?_⟩
  · exact name_of_addr x.apart (PySem.mem_of_lookup h1) (PySem.mem_of_lookup h2)
  · have hy : scope.names.lookup y = some .cell ∨ scope.names.lookup y = some .free := hy
    rcases hy with hy | hy
    · exact cell_has hy
    · exact absurd rfl (S.nofree _ (PySem.mem_of_lookup hy))
  · exact Nat.le_of_lt (x.above y c (PySem.mem_of_lookup h))
  · have hi : i < vs.length := by
      unfold start at h2
      by_cases hi : i < vs.length
      · exact hi
      · rw [List.getElem?_append_right (by simpa using hi)] at h2
        rw [List.getElem?_replicate] at h2
        split at h2 <;> cases h2
    have ha : vs[i]? = some v := by
      unfold start at h2
      rw [List.getElem?_append_left (by simpa using hi), List.getElem?_map] at h2
      cases e : vs[i]? with
      | none => rw [e] at h2; cases h2
      | some a => rw [e] at h2; cases h2; rfl
    obtain ⟨u, hu, rv⟩ := r.get ha
    have hp : ps[i]? = some y := by
      rw [← S.pre, List.getElem?_take_of_lt (by omega)]; exact h1
    have ndP : ps.Nodup := by rw [← S.pre]; exact S.nd.sublist (List.take_sublist _ _)
    refine ⟨u, rv, ?_⟩
    rcases S.par y (List.mem_of_getElem? hp) with k | k
    · exact .inl ⟨k, bindL_get ndP hp hu k⟩
    · obtain ⟨c, e⟩ := cell_has (n := s.heap.objs.size + 1) k
      refine .inr ⟨.inl k, c, e, ?_⟩
      have q := x.cell y c e
      rw [bindC_get ndP hp hu (by show scope.names.lookup y ≠ _; rw [k]; decide)] at q
      exact q
  · exact e0.hok.fresh (Nat.le_of_lt (x.above y c (PySem.mem_of_lookup h)))
  · unfold start
    show _ = N.length
    rw [List.length_append, List.length_map, List.length_replicate]
    omega
theorem fn_of {CX : CXT} {P : Program} {w : World} {K : PySem.W.Frag} {mg : Str → Option Value} {base : Heap} {k : Nat} {f : Addr} {name qual : Str} {params : Arguments} {body : List Stmt} {scope : Scope} {dV kV doc pm cdv ct oc : Value} {an od : Option Addr}
    {osl : Array (Option Value)} {N ps : List Str} {sp : Sp} (lk : K.lookup f = some ⟨oc, od, .func (PySem.W.fnOf name qual params body scope dV kV doc pm an cdv ct), osl⟩) (hcd : PySem.W.codeIn K cdv qual = true) (S : FnScope N ps scope)
    (len : ∀ vs H Q E, sp vs H Q E → vs.length = ps.length)
    (hbody : ∀ (A : Around) (outer : List Env) (s : Shared) (H : Hp) (vs : List V) (Q : VK) (E : XK), Room k (A.deeper (envOfC qual scope s.heap.objs.size f cdv)) → sp vs H Q E →
      ∃ t, PSs (cxOf CX P w K mg base N qual scope f cdv A outer s H E) body t ∧ t { nx := fun _ H' => Q .non H', rt := Q } (start N vs) H) :
    FnOk P w K mg base CX (k + 1) f (PySem.W.fnOf name qual params body scope dV kV doc pm an cdv ct) ps sp := by
  refine ⟨len, fun A outer s H args us vs Q E hr e0 hb r hsp => ?_⟩
  have hl := len _ _ _ _ hsp
  have KX : K.In s.heap := e0.mod.kin.keeps fun b o e => (e0.bs b o e).1
  have lim : s.heap.NoLimit := e0.mod.nolimit.keeps fun b o e => (e0.bs b o e).1
  have hkind : ∀ y ∈ ps.zip us, scope.names.lookup y.1 = some .local ∨ (scope.names.lookup y.1 = some .cell ∧ ((cellsFrom (s.heap.objs.size + 1) scope.names []).lookup y.1).isSome = true) := fun ⟨n, v⟩ hy => by
    rcases S.par n (List.of_mem_zip hy).1 with q | q
    · exact .inl q
    · exact .inr ⟨q, PySem.W.cellsFrom_some _ _ _ (.inl q)⟩
  refine codeAny_call_function hr.depth (KX _ _ lk) rfl S.co S.gen rfl (PySem.W.codeRec_of KX hcd) (hb _ _ _ _ ?_)
  refine wpAny_newFunctionEnv_cells S.kind hkind fun env he s1 x => ?_
  subst he
  refine ⟨lim.keeps x.toInCall.keep, codeAny_func ?_⟩
  obtain ⟨t, ht, hq⟩ := hbody A outer s H vs Q E (hr.deeper _) hsp
  have I : Inv (cxOf CX P w K mg base N qual scope f cdv A outer s H E) [] (start N vs) H s1 := inv_start S hr.hd e0 hl r x
  refine wpAny_mono (ht [] s1 (start N vs) H _ I hq) (fun fl s' hs => ?_) fun e s' hs => hs
  have fin : ∀ {σ' : St} {H' : Hp} {v : V} {u : Value}, Inv (cxOf CX P w K mg base N qual scope f cdv A outer s H E) [] σ' H' s' → RelV v u → Q v H' → CE outer P w H s Q u s' :=
    fun {σ' H' v u} J rv q => ⟨v, H', J.os, J.bare, J.base, J.hok, rv, q⟩
  cases fl with
  | ret u =>
    obtain ⟨v, σ', H', J, rv, q⟩ := hs
    exact fin J rv q
  | next =>
    obtain ⟨σ', H', J, q⟩ := hs
    exact fin (v := V.non) (u := Value.none) J rfl q
  | brk =>
    obtain ⟨_, _, _, q⟩ := hs
    exact False.elim q
  | cont =>
    obtain ⟨_, _, _, q⟩ := hs
    exact False.elim q
end L2
namespace L2
open PySem PySem.Spec PyProof.Rows
section
variable {X : Cx} {x : Str} {p pos : Pos} {e : Expr} {es : List Expr} {t : TA} {id T : String} {r : List V → Hp → VK → Prop}
def tCB (r : List V → Hp → VK → Prop) (t : TA) : TE := fun σ H Q => t σ H fun vs H1 => r vs H1 Q
theorem pe_callB (hc : CallR X (.builtin id) r) (hg : Gl X x) (hm : X.mg x = none) (hv : bootBuiltins x = some (.builtin id)) (ha : PA X (e :: es) t) (hn : x ≠ "__name__" := by decide) (hdb : (x == ("__debug__" : Str)) = false := by decide)
    (he : starEach (e :: es) X.env = (false, eval e X.env) :: starEach es X.env := by rfl) (hpl : (backTo pos (starEach es X.env)).any (·.1) = false := by rfl) : PE X (.Call (.Name x p) (e :: es) [] pos) (tCB r t) := by
  intro pins s σ H Q I h
  refine wpAny_Call_Name_kw (ld_blt I hg hm hv ?_ hn hdb)
  exact PyProof.Rows.callWith_builtin1 (thn (ha pos pins s σ H _ I h) fun us s1 ⟨vs, H1, I1, r1, q1⟩ => hc pins s1 σ H1 vs us Q I1 r1 q1) he hpl
theorem pe_callTy (hc : CallR X (.type T) r) (hg : Gl X x) (hm : X.mg x = none) (hv : bootBuiltins x = some (.type T)) (ha : PA X (e :: es) t) (hn : x ≠ "__name__" := by decide) (hdb : (x == ("__debug__" : Str)) = false := by decide)
    (he : starEach (e :: es) X.env = (false, eval e X.env) :: starEach es X.env := by rfl) (hpl : (backTo pos (starEach es X.env)).any (·.1) = false := by rfl) : PE X (.Call (.Name x p) (e :: es) [] pos) (tCB r t) := by
  intro pins s σ H Q I h
  refine wpAny_Call_Name_kw (ld_blt I hg hm hv ?_ hn hdb)
  exact PyProof.Rows.callWith_type1 (thn (ha pos pins s σ H _ I h) fun us s1 ⟨vs, H1, I1, r1, q1⟩ => hc pins s1 σ H1 vs us Q I1 r1 q1) he hpl
end
end L2
namespace HT
open PySem PyProof.Rows
section
open PySem.SeqAt
open PySem.AutoSeq1 (wpAny_loadPart')
open PySem.MeetsSeq PySem.MeetsSeq2 PySem.MeetsSeq3
end
section
variable {prog : Program} {w : World} {A : Around} {E : Value → Shared → Prop} {s : Shared}
def sIx (n d : Nat) : Option Int → Nat
  | none => d
  | some v => if v < 0 then (v + (n : Int)).toNat else min v.toNat n
end
end HT
namespace L2
open PySem PySem.Spec PyProof.Rows
abbrev TO := St → Hp → (Option Int → Hp → Prop) → Prop
def PO (X : Cx) (e : Option Expr) (t : TO) : Prop :=
  ∀ (pins : List (Addr × Obj)) (s : Shared) (σ : St) (H : Hp) (Q : Option Int → Hp → Prop), Inv X pins σ H s → t σ H Q →
    wpAny (model X.prog X.w) X.A (evalPart e X.env) (fun u s' => ∃ o H', Inv X pins σ H' s' ∧ IsPart u o ∧ Q o H') X.xe s
def tPart (t : TE) : TO := fun σ H Q => t σ H fun x H1 => ∃ i, x = .int i ∧ Q (some i) H1
theorem intsAre_of {ns : List Int} : ∀ {us : List Value}, Vals (ns.map V.int) us → IntsAre us ns := by
  induction ns with
  | nil => intro us r; rw [List.map_nil] at r; cases r; exact .nil
  | cons n ns ih =>
    intro us r
    rw [List.map_cons] at r
    cases r with
    | cons r1 r2 =>
      obtain ⟨t, e⟩ := r1
      subst e
      exact .cons n t (ih r2)
section
variable {X : Cx} {e : Expr} {te : TE} {lo hi : Option Expr} {tl th : TO} {pos p2 : Pos}
theorem po_some (h : PE X e te) : PO X (some e) (tPart te) := by
  intro pins s σ H Q I hw
  rw [evalPart_some]
  refine thn (h pins s σ H _ I hw) fun u s1 ⟨x, H1, I1, r1, q1⟩ => ?_
  obtain ⟨i, rfl, q⟩ := q1
  obtain ⟨t, rfl⟩ := r1
  exact ⟨some i, H1, I1, .int i t, q⟩
def SlR (X : Cx) (r : V → Option Int → Option Int → Hp → VK → Prop) : Prop :=
  ∀ (pins : List (Addr × Obj)) (s : Shared) (σ : St) (H : Hp) (x : V) (v vl vu : Value) (lo hi : Option Int) (sl : Addr) (Q : VK), Inv X pins σ H s → RelV x v → s.heap.IsSliceOf sl vl vu .none → IsPart vl lo → IsPart vu hi → r x lo hi H Q →
    ∃ T id, typeLookup (.type T) "__getitem__" = pure (some (.builtin id)) ∧ s.TypeIs v T ∧ wpAny (model X.prog X.w) X.A (getItem v (.ref sl)) (EP X pins σ Q) X.xe s
def tSl (r : V → Option Int → Option Int → Hp → VK → Prop) (te : TE) (tl th : TO) : TE := fun σ H Q => te σ H fun x H1 => tl σ H1 fun l H2 => th σ H2 fun u H3 => r x l u H3 Q
theorem pe_slice {r : V → Option Int → Option Int → Hp → VK → Prop} (hr : SlR X r) (he : PE X e te) (hl : PO X lo tl) (hu : PO X hi th) : PE X (.Subscript e (.Slice lo hi none p2) pos) (tSl r te tl th) := by
  intro pins s σ H Q I h
  refine Subscript_ (thn (he pins s σ H _ I h) fun v s1 ⟨x, H1, I1, r1, q1⟩ => ?_)
  refine wpAny_Slice (thn (hl pins s1 σ H1 _ I1 q1) fun vl s2 ⟨l, H2, I2, pl, q2⟩ => thn (hu pins s2 σ H2 _ I2 q2) fun vu s3 ⟨u, H3, I3, pu, q3⟩ => ?_)
  rw [evalPart_none]
  refine wpAny_pure ?_
  have I4 : Inv X pins σ H3 { s3 with heap := s3.heap.push { cls := .type "slice", data := .fields #[vl, vu, .none] } } := I3.kept (t' := s3.toks) fun b ob q => Heap.get?_push_of_some _ q
  obtain ⟨T, id, hT, ht, hg⟩ := hr pins { s3 with heap := s3.heap.push { cls := .type "slice", data := .fields #[vl, vu, .none] } } σ H3 x v vl vu l u s3.heap.objs.size Q I4 r1 (Heap.IsSliceOf.new ..) pl pu q3
  show wpAny (model X.prog X.w) X.A (subscriptTail e (.Slice lo hi none p2) v (.ref s3.heap.objs.size)) (EP X pins σ Q) X.xe { s3 with heap := s3.heap.push { cls := .type "slice", data := .fields #[vl, vu, .none] } }
  exact tail_any (ops := [.ref s3.heap.objs.size, v]) ht hT hg (by with_unfolding_all rfl)
def cutV (xs : List V) (lo hi : Option Int) : List V := (xs.drop (HT.sIx xs.length 0 lo)).take (HT.sIx xs.length xs.length hi - HT.sIx xs.length 0 lo)
theorem cutV_length (xs : List V) (lo hi : Option Int) : (cutV xs lo hi).length ≤ xs.length := by
  unfold cutV
  rw [List.length_take, List.length_drop]
  omega
end
end L2
namespace L2
open PySem PySem.Spec PyProof.Rows
def ixN (n : Nat) (i : Int) : Option Nat := if 0 ≤ i then (if i < n then some i.toNat else none) else if -(n : Int) ≤ i then some (i + n).toNat else none
def atI {α : Type} (xs : List α) (i : Int) : Option α := (ixN xs.length i).bind fun j => xs[j]?
theorem ixN_seq {n : Nat} {i : Int} {j : Nat} (h : ixN n i = some j) : seqIndex? i n = some j ∧ j < n ∧ -(n : Int) ≤ i ∧ i < n := by
  unfold ixN at h
  by_cases h0 : 0 ≤ i
  · rw [if_pos h0] at h
    by_cases h1 : i < n
    · rw [if_pos h1] at h
      have e : i.toNat = j := Option.some.inj h
      exact ⟨by rw [seqIndex_of h0 h1, e], by omega, by omega, h1⟩
    · rw [if_neg h1] at h; cases h
  · rw [if_neg h0] at h
    by_cases h1 : -(n : Int) ≤ i
    · rw [if_pos h1] at h
      have e : (i + n).toNat = j := Option.some.inj h
      exact ⟨by rw [seqIndex_neg (by omega) h1, e], by omega, h1, by omega⟩
    · rw [if_neg h1] at h; cases h
theorem atI_get {α : Type} {xs : List α} {i : Int} {v : α} (h : atI xs i = some v) : ∃ j, seqIndex? i xs.length = some j ∧ xs[j]? = some v ∧ j < xs.length ∧ -(xs.length : Int) ≤ i ∧ i < xs.length := by
  unfold atI at h
  cases e : ixN xs.length i with
  | none => rw [e] at h; cases h
  | some j =>
    rw [e] at h
    obtain ⟨h1, h2, h3, h4⟩ := ixN_seq e
    exact ⟨j, h1, h, h2, h3, h4⟩
theorem atI_nat {α : Type} {xs : List α} {j : Nat} {v : α} (h : xs[j]? = some v) : atI xs (j : Int) = some v := by
  have hj : j < xs.length := (List.getElem?_eq_some_iff.mp h).1
  have e : ixN xs.length (j : Int) = some j := by
    unfold ixN
    rw [if_pos (by omega), if_pos (by omega)]; simp
  unfold atI; rw [e]; exact h
def PlainIx (b : Expr) : Prop := ∀ o i, subscripted b false o i = operate [o, i] (getItem o i)
def IxR (X : Cx) (r : R2) : Prop :=
  ∀ (value slice : Expr) (pins : List (Addr × Obj)) (s : Shared) (σ : St) (H : Hp) (x y : V) (v u : Value) (Q : VK), Inv X pins σ H s → RelV x v → RelV y u → r x y H Q →
    subscripted slice false v u = operate [v, u] (getItem v u) → wpAny (model X.prog X.w) X.A (subscriptTail value slice v u) (EP X pins σ Q) X.xe s
def MtR (X : Cx) (id : String) (r : V → List V → Hp → VK → Prop) : Prop :=
  ∀ (pins : List (Addr × Obj)) (s : Shared) (σ : St) (H : Hp) (x : V) (xs : List V) (v : Value) (us : List Value) (Q : VK), Inv X pins σ H s → RelV x v → Vals xs us → r x xs H Q →
    wpAny (model X.prog X.w) X.A (call (.builtin id) (v :: us)) (EP X pins σ Q) X.xe s
section
variable {X : Cx} {a b : Expr} {ta tb : TE} {pos : Pos}
theorem pe_ix {r : R2} (hr : IxR X r) (ha : PE X a ta) (hb : PE X b tb) (hs : PlainIx b) : PE X (.Subscript a b pos) (tOp r ta tb) := by
  intro pins s σ H Q I h
  exact Subscript_ (binT ha hb I h fun v u s2 x y H2 I2 rx ry q => hr a b pins s2 σ H2 x y v u Q I2 rx ry q (hs _ _))
def rIxL (K : PySem.W.Frag) : R2 := fun x y H Q => ∃ p xs i v, x = .ref p ∧ y = .int i ∧ SqL K H p xs ∧ atI xs i = some v ∧ Q v H
def rIxT (K : PySem.W.Frag) : R2 := fun x y H Q => ∃ p xs i v, x = .ref p ∧ y = .int i ∧ SqT K H p xs ∧ atI xs i = some v ∧ Q v H
theorem ix_list : IxR X (rIxL X.K) := by
  intro value slice pins s σ H x y v u Q I rx ry h hs
  obtain ⟨p, xs, i, z, rfl, rfl, hq, he, q⟩ := h
  cases rx
  obtain ⟨t, rfl⟩ := ry
  obtain ⟨its, r, pl, hz⟩ := I.list hq
  obtain ⟨j, h1, h2, h3, h4, h5⟩ := atI_get he
  obtain ⟨w, ew, rw'⟩ := r.get h2
  have hl := r.length
  have hn := line63
  have fin : EP X pins σ Q w s := ⟨z, H, I, rw', q⟩
  by_cases h0 : 0 ≤ i
  · have hj : i.toNat = j := by
      rw [seqIndex_of h0 h5] at h1
      exact Option.some.inj h1
    exact item_listR pl.isList h0 (by omega) (by rw [hj]; simpa using ew) fin hs
  · have hj : (i + (its.toArray.size : Int)).toNat = j := by
      rw [seqIndex_neg (by omega) h4] at h1
      rw [List.size_toArray, ← hl]
      exact Option.some.inj h1
    exact subscriptTail_builtinR (x := w) pl.isList.typeIs slot_list_getitem.lookup
      (wpAny_getItem_list_neg (Q := fun r s' => r = w ∧ EP X pins σ Q r s') pl.isList (by omega) (by rw [List.size_toArray] <;> omega) (by omega) (by rw [hj]; simpa using ew) ⟨rfl, fin⟩) hs
theorem ix_tup : IxR X (rIxT X.K) := by
  intro value slice pins s σ H x y v u Q I rx ry h hs
  obtain ⟨p, xs, i, z, rfl, rfl, hq, he, q⟩ := h
  cases rx
  obtain ⟨t, rfl⟩ := ry
  obtain ⟨its, r, pl, hz⟩ := I.tuple hq
  obtain ⟨j, h1, h2, h3, h4, h5⟩ := atI_get he
  obtain ⟨w, ew, rw'⟩ := r.get h2
  have hl := r.length
  have hn := line63
  have fin : EP X pins σ Q w s := ⟨z, H, I, rw', q⟩
  exact subscriptTail_builtinR (x := w) pl.typeIs slot_tuple_getitem.lookup
    (getItem_tuple (j := j) (Q := fun r s' => r = w ∧ EP X pins σ Q r s') pl (by omega) (by omega) (by rw [List.size_toArray, ← hl]; exact h1) (by simpa using ew) ⟨rfl, fin⟩) hs
theorem slice_bounds (lo hi : Option Int) (n : Nat) : (sliceBounds lo hi none n).1 = ((HT.sIx n 0 lo : Nat) : Int) ∧ (sliceBounds lo hi none n).2.1 = ((HT.sIx n n hi : Nat) : Int) ∧ (sliceBounds lo hi none n).2.2 = 1 := by
  refine ⟨?_, ?_, rfl⟩
  · cases lo with
    | none => simp [sliceBounds, HT.sIx]
    | some i =>
      simp only [sliceBounds, HT.sIx, Option.getD_none, show (1 : Int) > 0 by decide, if_true]
      by_cases h : i < 0
      · simp only [h, if_true] <;> omega
      · simp only [h, if_false] <;> omega
  · cases hi with
    | none => simp [sliceBounds, HT.sIx]
    | some i =>
      simp only [sliceBounds, HT.sIx, Option.getD_none, show (1 : Int) > 0 by decide, if_true]
      by_cases h : i < 0
      · simp only [h, if_true] <;> omega
      · simp only [h, if_false] <;> omega
theorem slicePick_cut (its : List Value) (lo hi : Option Int) : slicePick its.toArray lo hi none = ((its.drop (HT.sIx its.length 0 lo)).take (HT.sIx its.length its.length hi - HT.sIx its.length 0 lo)).toArray := by
  obtain ⟨h1, h2, h3⟩ := slice_bounds lo hi its.toArray.size
  unfold slicePick
  rw [h1, h2, h3]
  simp only [sliceRange_one, pick_run, List.size_toArray] <;> rfl
def rSlL (K : PySem.W.Frag) : V → Option Int → Option Int → Hp → VK → Prop := fun x lo hi H Q => ∃ a xs, x = .ref a ∧ SqL K H a xs ∧ ∀ p, H p = none → Q (.ref p) (upd H p (.lst (cutV xs lo hi)))
theorem sl_list : SlR X (rSlL X.K) := by
  intro pins s σ H x v vl vu lo hi sl Q I rx hs pl pu h
  obtain ⟨a, xs, rfl, hx, q⟩ := h
  cases rx
  obtain ⟨its, r, ht, hz⟩ := I.list hx
  have hlen := r.length
  refine ⟨"list", _, slot_list_getitem.lookup, ht.isList.typeIs, ?_⟩
  refine wpAny_getItem_list_slice ht.isList hs pl pu .none (by simp) ?_ (by rw [List.size_toArray] <;> omega)
  rw [slicePick_cut, ← hlen]
  refine ⟨.ref s.heap.objs.size, _, I.laid (t' := s.toks) (o := .lst (cutV xs lo hi)) (fun b ob q => Heap.get?_push_of_some _ q) (Nat.le_refl _) ?_, rfl, q _ (I.hok.fresh (Nat.le_refl _))⟩
  exact ⟨Nat.le_trans (cutV_length xs lo hi) hz, _, 0, (r.drop (HT.sIx xs.length 0 lo)).take (HT.sIx xs.length xs.length hi - HT.sIx xs.length 0 lo), Heap.get?_push_size _ rfl⟩
def flatV : V → Bool
  | .non => true
  | .bl _ => true
  | .int _ => true
  | .str _ => true
  | _ => false
def eqV : V → V → Bool
  | .non, .non => true
  | .bl a, .bl b => a == b
  | .bl a, .int b => (if a then 1 else 0) == b
  | .int a, .bl b => a == (if b then 1 else 0)
  | .int a, .int b => a == b
  | .str a, .str b => a == b
  | _, _ => false
theorem eqAt_V {A : Around} {s : Shared} {y x : V} {u v : Value} (ry : RelV y u) (rx : RelV x v) (fy : flatV y = true) (fx : flatV x = true) : SeqAt.EqAt A s u v (eqV y x) := by
  cases y with
  | non =>
    cases ry
    cases x with
    | non => cases rx; exact SeqAt.EqAt.same _
    | bl b => cases rx; exact SeqAt.EqAt.none_bool b
    | int b => obtain ⟨t, rfl⟩ := rx; exact SeqAt.EqAt.none_int b t
    | str b => obtain ⟨t, rfl⟩ := rx; exact SeqAt.EqAt.none_str b t
    | _ => exact absurd (show false = true from fx) Bool.false_ne_true
  | bl a =>
    cases ry
    cases x with
    | non => cases rx; exact SeqAt.EqAt.bool_none a
    | bl b => cases rx; exact SeqAt.EqAt.bool_bool a b
    | int b => obtain ⟨t, rfl⟩ := rx; exact SeqAt.EqAt.bool_int a b t
    | str b => obtain ⟨t, rfl⟩ := rx; exact SeqAt.EqAt.bool_str a b t
    | _ => exact absurd (show false = true from fx) Bool.false_ne_true
  | int a =>
    obtain ⟨t', rfl⟩ := ry
    cases x with
    | non => cases rx; exact SeqAt.EqAt.int_none a t'
    | bl b => cases rx; exact SeqAt.EqAt.int_bool a t' b
    | int b => obtain ⟨t, rfl⟩ := rx; exact SeqAt.EqAt.int_int a t' b t
    | str b => obtain ⟨t, rfl⟩ := rx; exact SeqAt.EqAt.int_str a t' b t
    | _ => exact absurd (show false = true from fx) Bool.false_ne_true
  | str a =>
    obtain ⟨t', rfl⟩ := ry
    cases x with
    | non => cases rx; exact SeqAt.EqAt.str_none a t'
    | bl b => cases rx; exact SeqAt.EqAt.str_bool a t' b
    | int b => obtain ⟨t, rfl⟩ := rx; exact SeqAt.EqAt.str_int a t' b t
    | str b => obtain ⟨t, rfl⟩ := rx; exact SeqAt.EqAt.str_str a t' b t
    | _ => exact absurd (show false = true from fx) Bool.false_ne_true
  | _ => exact absurd (show false = true from fy) Bool.false_ne_true
def eqU (x : V) (u : Value) : Bool := match u with
  | .none => eqV .non x
  | .bool b => eqV (.bl b) x
  | .int i _ => eqV (.int i) x
  | .str z _ => eqV (.str z) x
  | _ => false
theorem eqU_of {x y : V} {u : Value} (r : RelV y u) (f : flatV y = true) : eqU x u = eqV y x := by
  cases y with
  | non => cases r; rfl
  | bl b => cases r; rfl
  | int i => obtain ⟨t, rfl⟩ := r; rfl
  | str z => obtain ⟨t, rfl⟩ := r; rfl
  | _ => exact absurd (show false = true from f) Bool.false_ne_true
theorem any_eqU {x : V} : ∀ {xs : List V} {us : List Value}, Vals xs us → xs.all flatV = true → us.any (eqU x) = xs.any fun y => eqV y x
  | _, _, .nil, _ => rfl
  | y :: xs, u :: us, .cons r t, f => by
    rw [List.all_cons, Bool.and_eq_true] at f
    rw [List.any_cons, List.any_cons, eqU_of r f.1, any_eqU t f.2]
theorem mem_eqAt {A : Around} {s : Shared} {x : V} {v : Value} (rx : RelV x v) (fx : flatV x = true) : ∀ {xs : List V} {us : List Value}, Vals xs us → xs.all flatV = true → ∀ u ∈ us, SeqAt.EqAt A s u v (eqU x u)
  | _, _, .nil, _ => fun u hu => by cases hu
  | y :: xs, u :: us, .cons r t, f => fun u' hu => by
    rw [List.all_cons, Bool.and_eq_true] at f
    rcases List.mem_cons.mp hu with rfl | hu
    · rw [eqU_of r f.1]; exact eqAt_V r rx f.1 fx
    · exact mem_eqAt rx fx t f.2 u' hu
def inV (x : V) (xs : List V) : Bool := xs.any fun y => eqV y x
def rIn (K : PySem.W.Frag) (neg : Bool) : R2 := fun x y H Q => ∃ p xs, y = .ref p ∧ (SqL K H p xs ∨ SqT K H p xs) ∧ flatV x = true ∧ xs.all flatV = true ∧ Q (.bl (if neg then !inV x xs else inV x xs)) H
theorem op_in_seq : OpR X (compareOp .In) (rIn X.K false) := by
  intro pins s σ H x y v u Q I rx ry h
  obtain ⟨p, xs, rfl, hq, fx, fs, q⟩ := h
  cases ry
  rcases hq with hq | hq
  · obtain ⟨its, r, pl, hz⟩ := I.list hq
    refine SeqAt.in_listAt (eqU x) pl.isList (fun w hw => mem_eqAt rx fx r fs w (by simpa using hw)) ⟨.bl _, H, I, rfl, ?_⟩
    rw [show its.toArray.any (eqU x) = its.any (eqU x) by simp, any_eqU r fs]
    exact q
  · obtain ⟨its, r, pl, hz⟩ := I.tuple hq
    refine SeqAt.in_tupleAt (eqU x) pl (fun w hw => mem_eqAt rx fx r fs w (by simpa using hw)) ⟨.bl _, H, I, rfl, ?_⟩
    rw [show its.toArray.any (eqU x) = its.any (eqU x) by simp, any_eqU r fs]
    exact q
theorem call_len_seq : CallR X (.builtin "len") (fun xs H Q => ∃ p ys, xs = [.ref p] ∧ (SqL X.K H p ys ∨ SqT X.K H p ys) ∧ Q (.int ys.length) H) := by
  intro pins s σ H xs us Q I r h
  obtain ⟨p, ys, rfl, hq, q⟩ := h
  obtain ⟨u, rfl, rx⟩ := vals1 r
  cases rx
  have hn := line63
  rcases hq with hq | hq
  · obtain ⟨its, r', pl, hz⟩ := I.list hq
    have hlen := r'.length
    exact Calls.call_len_list pl.isList (by simp only [List.size_toArray] <;> omega) ⟨.int ys.length, H, I.tok _, ⟨s.toks + 1, by rw [List.size_toArray, hlen]⟩, q⟩
  · obtain ⟨its, r', pl, hz⟩ := I.tuple hq
    have hlen := r'.length
    exact len_tuple pl (by simp only [List.size_toArray] <;> omega) ⟨.int ys.length, H, I.tok _, ⟨s.toks + 1, by rw [List.size_toArray, hlen]⟩, q⟩
theorem call_list_of : CallR X (.type "list") (fun xs H Q => ∃ p ys, xs = [.ref p] ∧ (SqL X.K H p ys ∨ SqT X.K H p ys) ∧ ∀ l, H l = none → Q (.ref l) (upd H l (.lst ys))) := by
  intro pins s σ H xs us Q I r h
  obtain ⟨p, ys, rfl, hq, q⟩ := h
  obtain ⟨u, rfl, rx⟩ := vals1 r
  cases rx
  have fin : ∀ (its : List Value), Vals ys its → ys.length ≤ sizeLine → ∀ (h' : Heap) (c' : Nat), (∀ b o', s.heap.get? b = some o' → h'.get? b = some o') →
      h'.get? s.heap.objs.size = some { cls := .type "list", dict := none, data := .seq its.toArray c', slots := #[] } → EP X pins σ Q (.ref s.heap.objs.size) { s with heap := h' } := fun its r' hz h' c' kp e =>
    ⟨.ref s.heap.objs.size, _, I.laid (t' := s.toks) kp (Nat.le_refl _) (show ObjOk X.prog X.w _ h' _ (.lst ys) from ⟨hz, its, c', r', e⟩), rfl, q _ (I.hok.fresh (Nat.le_refl _))⟩
  rcases hq with hq | hq
  · obtain ⟨its, r', pl, hz⟩ := I.list hq
    have hlen := r'.length
    obtain ⟨o, ho, hc, n, hd⟩ := pl.isList
    exact call_list_seq p (.inl rfl) ho hc hd (fun h' c' kp e => fin its r' hz h' c' kp e) (by simp only [List.size_toArray] <;> omega)
  · obtain ⟨its, r', pl, hz⟩ := I.tuple hq
    have hlen := r'.length
    obtain ⟨o, ho, hc, n, hd⟩ := pl
    exact call_list_seq p (.inr rfl) ho hc hd (fun h' c' kp e => fin its r' hz h' c' kp e) (by simp only [List.size_toArray] <;> omega)
theorem call_tuple_of : CallR X (.type "tuple") (fun xs H Q => ∃ p ys, xs = [.ref p] ∧ ((SqL X.K H p ys ∧ ∀ l, H l = none → Q (.ref l) (upd H l (.tup ys))) ∨ (SqT X.K H p ys ∧ Q (.ref p) H))) := by
  intro pins s σ H xs us Q I r h
  obtain ⟨p, ys, rfl, h⟩ := h
  obtain ⟨u, rfl, rx⟩ := vals1 r
  cases rx
  rcases h with ⟨hq, q⟩ | ⟨hq, q⟩
  · obtain ⟨its, r', pl, hz⟩ := I.list hq
    have hlen := r'.length
    refine call_tuple_list pl.isList (fun h' kp => ?_) (by simp only [List.size_toArray] <;> omega)
    have I1 : Inv X pins σ H { s with heap := h' } := I.kept (t' := s.toks) kp
    have I2 : Inv X pins σ (upd H h'.objs.size (.tup ys)) { s with heap := h'.push { cls := .type "tuple", data := .seq its.toArray } } :=
      I1.laid (t' := s.toks) (fun b o e => Heap.get?_push_of_some _ e) (Nat.le_refl _) (show ObjOk X.prog X.w _ _ _ (.tup ys) from ⟨hz, its, r', IsTup.new _ _⟩)
    exact ⟨.ref h'.objs.size, _, I2, rfl, q _ (I1.hok.fresh (Nat.le_refl _))⟩
  · obtain ⟨its, r', pl, hz⟩ := I.tuple hq
    exact call_tuple_same pl ⟨.ref p, H, I, rfl, q⟩
def tyV (K : PySem.W.Frag) (T : String) (x : V) (H : Hp) : Prop := match x with
  | .str _ => T = "str"
  | .int _ => T = "int"
  | .ref p => (T = "list" ∧ ∃ xs, SqL K H p xs) ∨ (T = "tuple" ∧ ∃ o, K.lookup p = some o ∧ o.cls = .type "tuple" ∧ o.dict = none) ∨
      (T = "dict" ∧ ((∃ kvs, H p = some (.dK kvs)) ∨ ∃ kvs, H p = some (.dT kvs))) ∨ (T = "set" ∧ ∃ S n, H p = some (.set S n))
  | _ => False
theorem tyV_is {pins : List (Addr × Obj)} {σ : St} {H : Hp} {s : Shared} {T : String} {x : V} {v : Value} (I : Inv X pins σ H s) (r : RelV x v) (ty : tyV X.K T x H) :
    s.TypeIs v T ∧ ∀ a, v = .ref a → ∃ ob, s.heap.get? a = some ob ∧ ob.dict = none := by
  cases x with
  | str z =>
    obtain ⟨t, rfl⟩ := r
    cases (show T = "str" from ty)
    exact ⟨typeIs_str s z t, fun _ e => nomatch e⟩
  | int i =>
    obtain ⟨t, rfl⟩ := r
    cases (show T = "int" from ty)
    exact ⟨typeIs_int s i t, fun _ e => nomatch e⟩
  | ref p =>
    cases r
    rcases ty with ⟨rfl, xs, hq⟩ | ⟨rfl, o, hk, hc, hd⟩ | ⟨rfl, hk⟩ | ⟨rfl, S, n, hk⟩
    · obtain ⟨its, _, pl, _⟩ := I.list hq
      refine ⟨pl.isList.typeIs, fun a e => ?_⟩
      cases e
      obtain ⟨o, n, e, c, hd, _⟩ := pl
      exact ⟨o, e, hd⟩
    · refine ⟨⟨o, I.kIn p o hk, hc⟩, fun a e => ?_⟩
      cases e
      exact ⟨o, I.kIn _ o hk, hd⟩
    · have z : ∃ o, s.heap.get? p = some o ∧ o.ExactDict := by
        rcases hk with ⟨kvs, hk⟩ | ⟨kvs, hk⟩
        · obtain ⟨_, _, _, _, o, _, _, e, ex, _⟩ := I.hok p _ hk
          exact ⟨o, e, ex⟩
        · obtain ⟨_, _, _, _, o, _, _, e, ex, _⟩ := I.hok p _ hk
          exact ⟨o, e, ex⟩
      obtain ⟨o, e, ex⟩ := z
      refine ⟨⟨o, e, ex.1⟩, fun a e2 => ?_⟩
      cases e2
      exact ⟨o, e, ex.2.1⟩
    · obtain ⟨o, _, _, _, e, ex, _⟩ := I.hok p _ hk
      refine ⟨⟨o, e, ex.1⟩, fun a e2 => ?_⟩
      cases e2
      exact ⟨o, e, ex.2.1⟩
  | _ => exact False.elim ty
def tBM (K : PySem.W.Frag) (T : String) (r : V → List V → Hp → VK → Prop) (to : TE) (t : TA) : TE := fun σ H Q => to σ H fun x H1 => tyV K T x H1 ∧ t σ H1 fun xs H2 => r x xs H2 Q
variable {o e : Expr} {es : List Expr} {to : TE} {t : TA} {name : Str} {apos cpos : Pos} {T id : String} {r : V → List V → Hp → VK → Prop}
theorem pe_bm (pa : PlainAttrs T) (slot : Slot T name id) (hty : typeOf (.builtin id) = pure (.type "method_descriptor")) (hm : MtR X id r) (ho : PE X o to) (ha : PA X (e :: es) t)
    (hbase : attributeBase o name X.env (eval o X.env) = eval o X.env := by rfl)
    (hfew : ((backTo cpos (starEach (e :: es) X.env)).all (fun x => !x.1) && (backToKw cpos (keywordEach [] X.env)).all (fun x => x.1.isSome)
      && decide ((e :: es).length + ([] : List Keyword).length + (if ([] : List Keyword).isEmpty then 0 else 1) < 30)) = true := by rfl)
    (hline : (apos.endLine == cpos.line) = true := by rfl) (hs : starEach (e :: es) X.env = (false, eval e X.env) :: starEach es X.env := by rfl) (hplain : (backTo cpos (starEach es X.env)).any (·.1) = false := by rfl) :
    PE X (.Call (.Attribute o name apos) (e :: es) [] cpos) (tBM X.K T r to t) := by
  intro pins s σ H Q I h
  refine wpAny_Call_method_late hbase hfew hline rfl (thn (ho pins s σ H _ I h) fun v s1 ⟨x, H1, I1, r1, ty, q1⟩ => ?_)
  obtain ⟨h1, h2⟩ := tyV_is I1 r1 ty
  refine ⟨T, id, pa, slot, hty, h1, h2, ?_⟩
  have hA := ha cpos pins s1 σ H1 _ I1 q1
  rw [hs] at hA ⊢
  refine Calls.callWith_builtin (by show (false || (backTo cpos (starEach es X.env)).any (·.1)) = false; rw [hplain] <;> rfl) (Calls.evalArgs_plain ?_)
  exact thn hA fun us s2 ⟨vs, H2, I2, r2, q2⟩ => hm pins s2 σ H2 x vs v us Q I2 r1 r2 q2
end
end L2
namespace L2
open PySem PySem.Spec PyProof.Rows
def MtM (X : Cx) (id : String) (r : V → List V → Hp → VK → Prop) : Prop :=
  ∀ (pins : List (Addr × Obj)) (s : Shared) (σ : St) (H : Hp) (x : V) (xs : List V) (v : Value) (us : List Value) (Q : VK), Inv X pins σ H s → RelV x v → Vals xs us → r x xs H Q →
    wpAny (model X.prog X.w) X.A (call (.builtin id) (v :: us)) (EP X pins σ Q) X.xe s
theorem Vals.one : ∀ {x : V} {us : List Value}, Vals [x] us → ∃ u, us = [u] ∧ RelV x u
  | _, _, .cons r .nil => ⟨_, rfl, r⟩
theorem Vals.two : ∀ {x y : V} {us : List Value}, Vals [x, y] us → ∃ u v, us = [u, v] ∧ RelV x u ∧ RelV y v
  | _, _, _, .cons r (.cons q .nil) => ⟨_, _, rfl, r, q⟩
theorem Vals.rep {xs : List V} {us : List Value} (h : Vals xs us) : ∀ k : Nat, Vals (List.replicate k xs).flatten (List.replicate k us).flatten
  | 0 => .nil
  | k + 1 => by
    rw [List.replicate_succ, List.replicate_succ, List.flatten_cons, List.flatten_cons]
    exact Vals.append h (Vals.rep h k)
theorem foldl_rep (its : List Value) : ∀ (k : Nat) (acc : List Value),
    List.foldl (fun x1 x2 => x1 ++ x2) acc.toArray (List.replicate k its.toArray) = (acc ++ (List.replicate k its).flatten).toArray
  | 0, acc => by simp
  | k + 1, acc => by
    have e : acc.toArray ++ its.toArray = (acc ++ its).toArray := by simp
    have e2 : (acc ++ its) ++ (List.replicate k its).flatten = acc ++ (List.replicate (k + 1) its).flatten := by
      rw [List.replicate_succ, List.flatten_cons, List.append_assoc]
    rw [← e2, ← foldl_rep its k (acc ++ its), ← e, List.replicate_succ, List.foldl_cons]
section
variable {X : Cx} {pins : List (Addr × Obj)} {σ : St} {H : Hp} {s : Shared} {l b : Addr} {xs ys zs : List V}
theorem Inv.lset {its its' : List Value} {n : Nat} {f : Array Value → Array Value} {t' : Nat} (I : Inv X pins σ H s) (hH : H l = some (.lst xs))
    (e : s.heap.get? l = some { cls := .type "list", data := .seq its.toArray n }) (hf : f its.toArray = its'.toArray) (hv : Vals ys its') (hz : ys.length ≤ sizeLine) :
    Inv X pins σ (upd H l (.lst ys)) { s with heap := s.heap.update l (Obj.mapSeq f), toks := t' } := by
  have q := PySem.IsL.update e f
  rw [hf] at q
  refine I.write (x := l) (e := l) (by rw [hH]; exact trivial) (.inl rfl) (fun b' u hb hu => (Heap.get?_update_other s.heap (Obj.mapSeq f) (Ne.symm hb)).trans hu) ⟨_, q⟩ ?_
  exact ⟨hz, its', _, hv, q⟩
theorem Inv.lnew {its : List Value} {t' : Nat} (I : Inv X pins σ H s) (hv : Vals ys its) (hz : ys.length ≤ sizeLine) :
    Inv X pins σ (upd H s.heap.objs.size (.lst ys)) { s with heap := s.heap.push { cls := .type "list", data := .seq its.toArray }, toks := t' } :=
  I.laid (fun _ _ q => Heap.get?_push_of_some _ q) (Nat.le_refl _) ⟨hz, its, 0, hv, Heap.get?_push_size _ rfl⟩
theorem Inv.fresh (I : Inv X pins σ H s) : H s.heap.objs.size = none := I.hok.fresh (Nat.le_refl _)
theorem Inv.lstM (I : Inv X pins σ H s) (hH : H l = some (.lst xs)) : xs.length ≤ sizeLine ∧ ∃ (its : List Value) (n : Nat), Vals xs its ∧ xs.length = its.length ∧ s.heap.get? l = some { cls := .type "list", data := .seq its.toArray n } := by
  obtain ⟨z, its, n, r, e⟩ := I.hok l _ hH
  exact ⟨z, its, n, r, r.length, e⟩
theorem notLongL {n : Nat} (h : n ≤ sizeLine) : Builtin.List.listTooLong n = false := by
  unfold Builtin.List.listTooLong
  exact decide_eq_false (by omega)
end
section
variable {X : Cx}
def rAppend : V → List V → Hp → VK → Prop := fun x vs H Q => ∃ l xs y, x = .ref l ∧ vs = [y] ∧ H l = some (.lst xs) ∧ xs.length < sizeLine ∧ Q .non (upd H l (.lst (xs ++ [y])))
theorem mt_append : MtM X "list.append" rAppend := by
  intro pins s σ H x vs v us Q I rx rv h
  obtain ⟨l, xs, y, rfl, rfl, hH, hz, q⟩ := h
  cases rx
  obtain ⟨u, rfl, ru⟩ := rv.one
  obtain ⟨z, its, n, r, hl, e⟩ := I.lstM hH
  refine call_meets F.slot_list_append ⟨_, e, rfl⟩ F.entry_list_append (F.args_list_append_2 _ _) (PySem.list_append l its.toArray n u (by rw [List.size_toArray]; omega)) ⟨e, ?_⟩
  refine ⟨.non, _, I.lset (its' := its ++ [u]) hH e (by simp) (r.append (.cons ru .nil)) ?_, rfl, q⟩
  rw [List.length_append, List.length_singleton]
  omega
def rCat : R2 := fun x y H Q => ∃ l b xs zs, x = .ref l ∧ y = .ref b ∧ H l = some (.lst xs) ∧ H b = some (.lst zs) ∧ xs.length + zs.length ≤ sizeLine ∧ ∀ p, H p = none → Q (.ref p) (upd H p (.lst (xs ++ zs)))
theorem op_cat : OpR X (binaryOp .Add) rCat := by
  intro pins s σ H x y v u Q I rx ry h
  obtain ⟨l, b, xs, zs, rfl, rfl, hH, hB, hz, q⟩ := h
  cases rx
  cases ry
  obtain ⟨z, its, n, r, hl, e⟩ := I.lstM hH
  obtain ⟨z2, its2, n2, r2, hl2, e2⟩ := I.lstM hB
  refine PySem.P.add_list e e2 ?_ (by rw [List.size_toArray, List.size_toArray]; omega)
  have ea : its.toArray ++ its2.toArray = (its ++ its2).toArray := by simp
  rw [ea]
  exact ⟨.ref _, _, I.lnew (t' := s.toks) (r.append r2) (by rw [List.length_append]; omega), rfl, q _ I.fresh⟩
def rRep : R2 := fun x y H Q => ∃ l k xs, x = .ref l ∧ y = .int k ∧ H l = some (.lst xs) ∧ -(2 ^ 63) ≤ k ∧ k < 2 ^ 63 ∧ xs.length * k.toNat ≤ sizeLine ∧
  ∀ p, H p = none → Q (.ref p) (upd H p (.lst (List.replicate k.toNat xs).flatten))
theorem len_rep {α : Type} (xs : List α) (k : Nat) : (List.replicate k xs).flatten.length = k * xs.length := by
  induction k with
  | zero => simp
  | succ k ih => rw [List.replicate_succ, List.flatten_cons, List.length_append, ih, Nat.succ_mul, Nat.add_comm]
theorem op_rep : OpR X (binaryOp .Mult) rRep := by
  intro pins s σ H x y v u Q I rx ry h
  obtain ⟨l, k, xs, rfl, rfl, hH, h1, h2, hz, q⟩ := h
  cases rx
  obtain ⟨t, rfl⟩ := ry
  obtain ⟨z, its, n, r, hl, e⟩ := I.lstM hH
  have hlen : its.toArray.size * k.toNat ≤ sizeLine := by rw [List.size_toArray, ← hl]; exact hz
  have hcap : ¬ its.toArray.size * k.toNat > (2 ^ 63 - 1) / 8 := by
    have : (sizeLine : Nat) ≤ (2 ^ 63 - 1) / 8 := by decide
    omega
  have hfit : ¬ (!Builtin.List.listFitsIndex k) = true := by
    rw [fitsIndex_both h1 h2]
    exact Bool.false_ne_true
  have hlong : ¬ Builtin.List.listTooLong (its.toArray.size * k.toNat) = true := by
    rw [notLongL hlen]
    exact Bool.false_ne_true
  have hnew : List.foldl (fun x1 x2 => x1 ++ x2) #[] (List.replicate (if its.toArray.isEmpty = true then 0 else k.toNat) its.toArray) = (List.replicate k.toNat its).flatten.toArray := by
    have f0 : ∀ m : Nat, List.foldl (fun x1 x2 => x1 ++ x2) #[] (List.replicate m its.toArray) = (List.replicate m its).flatten.toArray := fun m => by
      have := foldl_rep its m []
      rw [List.nil_append] at this
      exact this
    rw [f0]
    cases its with
    | nil => simp
    | cons a r' => rw [if_neg (by simp)]
  refine wpAny_binaryOp_repeat_ref (T := "list") (U := "int") (by decide) ⟨_, e, rfl⟩ (fun s' => typeIs_int s' k t) noFill_list_mul F.fills_int_mul F.slot_int_rmul repeat_list F.slot_int_index.lookup
    (call_meets F.slot_int_rmul (typeIs_int s k t) F.entry_int_rmul (F.args_int_rmul_2 _ _) (int___rmul___int_list k t l its.toArray n)
      ⟨e, rfl, ⟨_, e, rfl⟩, call_meets F.slot_list_mul ⟨_, e, rfl⟩ F.entry_list_mul (F.args_list_mul_2 _ _) (AutoListH.list___mul___list_int_3 l its.toArray n k t hfit hcap hlong) ⟨e, ?_⟩⟩)
  rw [hnew]
  exact ⟨.ref _, _, I.lnew (t' := s.toks) (r.rep k.toNat) (by rw [len_rep, Nat.mul_comm]; exact hz), rfl, q _ I.fresh⟩
end
section
variable {prog : Program} {w : World} {A : Around} {E : Value → Shared → Prop} {s : Shared}
end
section
variable {X : Cx}
end
end L2
namespace Att
open PySem PySem.W PySem.Calls PyProof.Rows
theorem ints_of_wellAll {P : Params} {h : Heap} : ∀ (ns : List Int) (vs : List Value), WellAll P h vs (ns.map WData.int) → IntsAre vs ns := by
  intro ns
  induction ns with
  | nil =>
    intro vs w
    rw [List.map_nil] at w
    cases w
    exact .nil
  | cons n ns ih =>
    intro vs w
    rw [List.map_cons] at w
    cases w with
    | cons a b =>
      cases a
      exact .cons _ _ (ih _ b)
theorem script_of {l : OpenLaw} {n : Nat} (hn : l.most = some n) {P : Params} {h : Heap} {args : List WData} {vals : List Value}
    (hpre : l.row.toRowW.claim.pre args = true) (hwl : WellAll P h vals args) :
    ∃ a vs ns, vals = [Value.ref a] ∧ args = [WData.list (ns.map WData.int)] ∧ h.get? a = some { cls := .type "list", data := .seq vs.toArray } ∧ IntsAre vs ns ∧ ns.length ≤ n := by
  have hsh : WShape.hasAll [] args [.list .int] = true := (pre_splitW hpre).1
  have hc : l.pre.holds [] { args := args } = true := (pre_splitW hpre).2
  obtain ⟨d, r, rfl, h1, h2⟩ := hasAllW_cons hsh
  obtain rfl := hasAllW_nil h2
  obtain ⟨xs, rfl, h3⟩ := hasW_list h1
  obtain ⟨ns, rfl⟩ := items_int h3
  have hlen : ns.length ≤ n := by
    unfold OpenLaw.pre at hc
    have h4 : (WTm.not (.lt (.lit (.int (n : Int))) (.len (.arg 0)))).holds [] { args := [.list (ns.map .int)] } = true := by
      have h4 := (holds_andW hc).1
      rw [hn] at h4
      exact h4
    have h5 := condW_of h4 (w_not (w_lt w_lit (w_len_list (w_arg rfl))))
    rw [List.length_map] at h5
    refine Nat.le_of_not_lt fun q => ?_
    have q' : (n : Int) < ((ns.length : Nat) : Int) := by omega
    first
      | (rw [decide_eq_true q'] at h5; exact absurd h5 (by decide))
      | (simp at h5; omega)
  cases hwl with
  | cons w1 w2 =>
    cases w2
    cases w1 with
    | list ho hall => exact ⟨_, _, ns, rfl, rfl, ho, ints_of_wellAll ns _ hall, hlen⟩
theorem post_true (l : OpenLaw) (args : List WData) : l.row.toRowW.claim.post args (.bool true) args = true :=
  postW_of (r := l.row.toRowW) (X := (true == true))
    (show WShape.has [] (.bool true) .bool = true by first | rfl | decide | simp [WShape.has, WShape.arms, WShape.armsAll])
    (show (WTm.eq .res (.lit (.bool true))).value [] { args := args, res := some (.bool true), after := args } = some (.bool (true == true)) from w_eq_bool (w_res rfl) w_lit) rfl
theorem attach_call {l : OpenLaw} {n : Nat} {q : Program} {loose : List Str} {XP : (Str → Option Value) → Heap → Prop} {YP : World → Heap → Prop} {d : DefRec}
    (hn : l.most = some n) (hdf : d.params.defaults = [])
    (call : ∀ (w : World) (s₀ s₁ : Shared) (mg mb : Str → Option Value) (fa : Addr) (o : Obj) (pm cd doc : Value) (a : Addr) (vs : List Value) (ns : List Int),
      Ground q loose [] XP w s₀ mg mb s₁.heap → YP w s₁.heap →
      s₁.heap.get? fa = some o → o.data = .func (docDef d.name d.params d.body d.scope pm cd doc) → s₁.heap.CodeRec cd d.name → mg d.name = some (.ref fa) →
      s₁.heap.get? a = some { cls := .type "list", data := .seq vs.toArray } → IntsAre vs ns → ns.length ≤ n → s₁.gens = #[] →
      codeAny (model l.prog w) callerA (.call (.ref fa) ⟨[.ref a], []⟩) (fun r s' => r = .ok (.ret (.bool true)) ∧ OldK s₁.heap s'.heap ∧ s'.os = s₁.os ∧ AllBare s'.gens) s₁) :
    WalkO q loose XP YP l.row.toRowW d [] (fun f vs => PySem.call f vs) := by
  intro w s₀ s₁ mg mb G Y fa o pm cd doc dV kV ho hd hcd hD hmg hg args vals as hpre hlay hrd hwl hlo
  obtain rfl : dV = .none := Dflts.none hD hdf
  obtain rfl : kV = .none := Dflts.noKw hD
  obtain ⟨a, vs, ns, rfl, rfl, hobj, hints, hlen⟩ := script_of hn hpre hwl
  refine enter_call (codeAny_mono (call w s₀ s₁ mg mb fa o pm cd doc a vs ns G Y ho (fd_plain hd) hcd hmg hobj hints hlen hg) fun r s' hq => ?_)
  obtain ⟨rfl, h2, h3, h4⟩ := hq
  exact ⟨.inl ⟨.bool true, .bool true, [], rfl, fun _ => rfl, .bool true, post_true l _, fun _ => ⟨List.Pairwise.nil, fun _ hm => (nomatch hm)⟩⟩, h2, h3, h4⟩
section
variable {prog : Program} {w : World} {A : Around} {E : Value → Shared → Prop} {s : Shared} {K : Frag}
end
end Att
namespace L2
open PySem PySem.Spec PyProof.Rows
theorem vals_ints : ∀ {vs : List Value} {ns : List Int}, IntsAre vs ns → Vals (ns.map V.int) vs
  | _, _, .nil => .nil
  | _, _, .cons n t h => .cons ⟨t, rfl⟩ (vals_ints h)
def Only (H : Hp) : Prop := ∀ b, H b = none ∨ ∃ o xs, H b = some (.frz o (.lst xs))
theorem law_call {P : Program} {w : World} {K : PySem.W.Frag} {mg mb : Str → Option Value} {CX : CXT} {k : Nat} {fa a : Addr} {fd : FuncData} {x : Str} {sp : Sp} {s₁ : Shared} {vs : List Value} {ns : List Int}
    (KX : K.In s₁.heap) (hns : s₁.heap.Ns mainGlobals mg) (hb : s₁.heap.Ns builtinsNs mb) (hbb : ∀ x : Str, x ≠ "__name__" → mb x = bootBuiltins x) (hlim : s₁.heap.NoLimit) (hg : s₁.gens = #[])
    (ha : s₁.heap.get? a = some { cls := .type "list", data := .seq vs.toArray }) (hi : IntsAre vs ns) (hl : ns.length ≤ sizeLine) (hr : Room k callerA)
    (F : ∀ base : Heap, K.In base → base.Ns mainGlobals mg → FnOk P w K mg base CX k fa fd [x] sp) (hbind : ∀ (s : Shared) (u : Value), BindsTo s fd ⟨[u], []⟩ [(x, u)])
    (hsp : ∀ H : Hp, Only H → SqL K H a (ns.map V.int) → sp [.ref a] H (fun v _ => v = .bl true) fun _ _ _ => False)
    (hCX : ∀ H e s', CX [] H s₁ (fun _ _ _ => False) e s' → False) :
    codeAny (model P w) callerA (.call (.ref fa) ⟨[.ref a], []⟩) (fun r s' => r = .ok (.ret (.bool true)) ∧ OldK s₁.heap s'.heap ∧ s'.os = s₁.os ∧ AllBare s'.gens) s₁ := by
  have rv := vals_ints hi
  have lenV := hi.length
  have core : ∀ H : Hp, Only H → SqL K H a (ns.map V.int) → HOk P w H s₁.heap → (∀ b, H b ≠ none → b = a) → (H a ≠ none → K.lookup a = none) →
      codeAny (model P w) callerA (.call (.ref fa) ⟨[.ref a], []⟩) (fun r s' => r = .ok (.ret (.bool true)) ∧ OldK s₁.heap s'.heap ∧ s'.os = s₁.os ∧ AllBare s'.gens) s₁ := by
    intro H hO hS hok hA hK
    have base_of : ∀ {b : Addr} {o : Obj}, s₁.heap.get? b = some o → H b = none → (hidT s₁.heap H).get? b = some o := fun e n => hidT_get e n
    have noA : ∀ {b : Addr} {o : Obj} {es : Array DictEntry} {ep : Nat}, s₁.heap.get? b = some o → o.data = .dict es ep → H b = none := fun {b o es ep} e d => by
      cases q : H b with
      | none => rfl
      | some u =>
        have e' : b = a := hA b (by rw [q]; simp)
        subst e'
        rw [ha] at e; cases e
        have d' : Data.seq vs.toArray _ = Data.dict es ep := d
        cases d'
    have nsK : ∀ {b : Addr} {m : Str → Option Value}, s₁.heap.Ns b m → (hidT s₁.heap H).Ns b m := fun {b m} ⟨o, es, ep, e, d, r⟩ => ⟨o, es, ep, base_of e (noA e d), d, r⟩
    have hKb : K.In (hidT s₁.heap H) := fun b o e => base_of (KX b o e) (by
      cases q : H b with
      | none => rfl
      | some u =>
        have e' : b = a := hA b (by rw [q]; simp)
        subst e'
        rw [hK (by rw [q]; simp)] at e; cases e)
    have hM : Mod K mg (hidT s₁.heap H) := ⟨hKb, nsK hns, ⟨mb, nsK hb, hbb⟩, let ⟨mc, h1, h2⟩ := hlim; ⟨mc, nsK h1, h2⟩⟩
    have e0 : Env0 P w K mg (hidT s₁.heap H) callerA [] s₁ H := ⟨rfl, hM, fun b o e => of_hidT e, Nat.le_of_eq (hidT_size _ _), trivial, fun b hb => absurd (show b ∈ ([] : List Addr) from hb) (by simp), hok, .of_eq hg⟩
    refine codeAny_mono ((F _ hKb (nsK hns)).run callerA [] s₁ H ⟨[.ref a], []⟩ [.ref a] [.ref a] _ _ hr e0 (hbind s₁ (.ref a)) (.cons rfl .nil) (hsp H hO hS)) fun r s' h => ?_
    cases r with
    | error e => exact (hCX H e s' h).elim
    | ok fl =>
      cases fl with
      | next => exact False.elim h
      | brk => exact False.elim h
      | cont => exact False.elim h
      | ret u =>
        obtain ⟨v, H', os, bare, un, hok', r', q⟩ := h
        have q' : v = .bl true := q
        subst q'
        obtain rfl : u = Value.bool true := r'
        refine ⟨rfl, OldK.of_keep fun b o e => ?_, os, bare⟩
        cases q : H b with
        | none => exact un.keep b o e q (by intro z; exact absurd (show b ∈ ([] : List Addr) from z) (by simp)) (by simp)
        | some u =>
          rcases hO b with z | ⟨ob, xs, z⟩
          · rw [q] at z; cases z
          · have z2 := un.frzs b ob _ z
            obtain ⟨e1, _⟩ := hok b _ z
            obtain ⟨e2, _⟩ := hok' b _ z2
            rw [e] at e1; cases e1
            exact e2
  cases hk : K.lookup a with
  | some o =>
    have e := KX a o hk
    rw [ha] at e
    cases e
    refine core (fun _ => none) (fun _ => .inl rfl) (.inr ⟨_, vs.toArray, _, hk, rfl, rfl, rfl, by rw [List.size_toArray, lenV]; exact hl, by simpa using rv⟩) (fun b u z => by have z' : (none : Option HO) = some u := z; cases z') (fun b z => absurd rfl z) fun z => absurd rfl z
  | none =>
    refine core (fun b => if b = a then some (.frz { cls := .type "list", data := .seq vs.toArray } (.lst (ns.map V.int))) else none) (fun b => ?_) (.inl (.inr ⟨{ cls := .type "list", data := .seq vs.toArray }, if_pos rfl⟩)) (fun b u z => ?_) (fun b z => ?_) fun _ => hk
    · by_cases hb : b = a
      · exact .inr ⟨_, _, if_pos hb⟩
      · exact .inl (if_neg hb)
    · by_cases hb : b = a
      · have z' := (if_pos hb).symm.trans z
        cases z'
        subst hb
        exact ⟨ha, by rw [List.length_map]; exact hl, vs, _, rv, ha⟩
      · have z' := (if_neg hb).symm.trans z
        cases z'
    · by_cases hb : b = a
      · exact hb
      · exact absurd (if_neg hb) z
end L2
namespace L2
open PySem PySem.Spec PyProof.Rows
theorem walk_of {l : PySem.W.OpenLaw} {n k : Nat} {q : Program} {loose : List Str} {XP : (Str → Option Value) → Heap → Prop} {YP : World → Heap → Prop} {d : DefRec} {K : Params → PySem.W.Frag} {CX : World → CXT} {sp : World → Sp} {x : Str}
    (hn : l.most = some n) (hn2 : n ≤ sizeLine) (hdf : d.params.defaults = []) (hr : Room k callerA)
    (hY : ∀ (w : World) (h : Heap), YP w h → (K w.params).In h)
    (F : ∀ (w : World) (mg : Str → Option Value) (fa : Addr) (h : Heap), (K w.params).In h → h.Ns mainGlobals mg → mg d.name = some (.ref fa) →
      ∃ fd : FuncData, (∀ (s : Shared) (u : Value), BindsTo s fd ⟨[u], []⟩ [(x, u)]) ∧
        ∀ base : Heap, (K w.params).In base → base.Ns mainGlobals mg → FnOk l.prog w (K w.params) mg base (CX w) k fa fd [x] (sp w))
    (hsp : ∀ (w : World) (H : Hp) (a : Addr) (ns : List Int), ns.length ≤ n → Only H → SqL (K w.params) H a (ns.map V.int) → sp w [.ref a] H (fun v _ => v = .bl true) fun _ _ _ => False)
    (hCX : ∀ (w : World) (H : Hp) (s : Shared) (e : Value) (s' : Shared), CX w [] H s (fun _ _ _ => False) e s' → False) :
    PySem.W.WalkO q loose XP YP l.row.toRowW d [] (fun f vs => PySem.call f vs) := by
  refine Att.attach_call hn hdf fun w s₀ s₁ mg mb fa o pm cd doc a vs ns G Y ho hd hcd hmg hobj hints hlen hg => ?_
  have KX := hY w _ Y
  obtain ⟨fd, hb, hF⟩ := F w mg fa _ KX G.T.g hmg
  exact law_call KX G.T.g G.T.b G.T.builtins G.T.nolimit hg hobj hints (Nat.le_trans hlen hn2) hr hF hb (fun H hO hS => hsp w H a ns hlen hO hS) fun H e s' => hCX w H s₁ e s'
end L2
namespace L2
open PySem PySem.Spec PyProof.Rows
def inClass (s : Stmt) (j : Nat) : Stmt := match s with
  | .ClassDef _ _ _ body _ _ _ _ _ _ _ => body.getD j (.Pass ⟨0, 0, 0, 0⟩)
  | _ => .Pass ⟨0, 0, 0, 0⟩
def defArgs (s : Stmt) : Arguments := match s with
  | .FunctionDef _ a _ _ _ _ _ _ _ _ => a
  | _ => { posonlyargs := [], args := [], vararg := none, kwonlyargs := [], kw_defaults := [], kwarg := none, defaults := [] }
def defBody (s : Stmt) : List Stmt := match s with
  | .FunctionDef _ _ b _ _ _ _ _ _ _ => b
  | _ => []
def defScope (s : Stmt) : Scope := match s with
  | .FunctionDef _ _ _ _ _ _ sc _ _ _ => sc
  | _ => { kind := .function, names := [], isGenerator := false, isCoroutine := false }
abbrev CX0 : CXT := fun _ _ _ _ _ _ => False
abbrev E0 : XK := fun _ _ _ => False
theorem pass0 {X : Cx} : Passes CX0 X E0 := fun _ _ _ _ _ _ _ h => h.elim
structure Fun (K : PySem.W.Frag) (x qual : Str) (st : Stmt) (f : Addr) (fd : FuncData) : Prop where
  ex : ∃ (oc : Value) (od : Option Addr) (kV doc pm : Value) (an : Option Addr) (cdv ct : Value) (osl : Array (Option Value)),
    fd = PySem.W.fnOf x qual (defArgs st) (defBody st) (defScope st) .none kV doc pm an cdv ct ∧ K.lookup f = some ⟨oc, od, .func fd, osl⟩ ∧ PySem.W.codeIn K cdv qual = true
  kp : PySem.W.keepIn K (.ref f) = true
section
variable {P : Program} {w : World} {K : PySem.W.Frag} {mg : Str → Option Value} {base : Heap}
theorem Fun.ok {x qual : Str} {st : Stmt} {f : Addr} {fd : FuncData} {N ps : List Str} {k : Nat} {sp : Sp} (F : Fun K x qual st f fd) (S : FnScope N ps (defScope st)) (len : ∀ vs H Q E, sp vs H Q E → vs.length = ps.length)
    (hbody : ∀ (cdv : Value) (A : Around) (outer : List Env) (s : Shared) (H : Hp) (vs : List V) (Q : VK) (E : XK), Room k (A.deeper (envOfC qual (defScope st) s.heap.objs.size f cdv)) → sp vs H Q E →
      ∃ t, PSs (cxOf CX0 P w K mg base N qual (defScope st) f cdv A outer s H E).nox (defBody st) t ∧ t { nx := fun _ H' => Q .non H', rt := Q } (start N vs) H) : FnOk P w K mg base CX0 (k + 1) f fd ps sp := by
  obtain ⟨oc, od, kV, doc, pm, an, cdv, ct, osl, rfl, lk, hcd⟩ := F.ex
  refine fn_of lk hcd S len fun A outer s H vs Q E hr hsp => ?_
  obtain ⟨t, h, q⟩ := hbody cdv A outer s H vs Q E hr hsp
  exact ⟨t, h.nox, q⟩
theorem Fun.binds {x qual : Str} {st : Stmt} {f : Addr} {fd : FuncData} {ps : List Str} (F : Fun K x qual st f fd)
    (h : ∀ (kV doc pm : Value) (an : Option Addr) (cdv ct : Value) (us : List Value), us.length = ps.length → bindArgs (PySem.W.fnOf x qual (defArgs st) (defBody st) (defScope st) .none kV doc pm an cdv ct) ⟨us, []⟩ = pure (ps.zip us)) : Binds K fd ps [] := by
  obtain ⟨oc, od, kV, doc, pm, an, cdv, ct, osl, rfl, lk, hcd⟩ := F.ex
  exact .all (h kV doc pm an cdv ct)
theorem fun_mk {x qual : Str} {st : Stmt} {f : Addr} {oc : Value} {od an : Option Addr} {osl : Array (Option Value)} {kV doc pm cdv ct : Value} (l : K.lookup f = some ⟨oc, od, .func (PySem.W.fnOf x qual (defArgs st) (defBody st) (defScope st) .none kV doc pm an cdv ct), osl⟩)
    (c : PySem.W.codeIn K cdv qual = true) (k : PySem.W.keepIn K (.ref f) = true) : Fun K x qual st f (PySem.W.fnOf x qual (defArgs st) (defBody st) (defScope st) .none kV doc pm an cdv ct) := ⟨⟨oc, od, kV, doc, pm, an, cdv, ct, osl, rfl, l, c⟩, k⟩
end
theorem small1000 {n : Nat} (h : n ≤ 1000) : n < sizeLine := Nat.lt_of_le_of_lt h (by decide)
section
variable {X : Cx}
theorem pv (i : Nat) {x : Str} {pos : Pos} (hN : X.N[i]? = some x := by rfl) (hv : Vis X.env.scope x := by first | exact Or.inl rfl | exact Or.inr (Or.inl rfl) | exact Or.inr (Or.inr rfl)) (hd : (x == ("__debug__" : Str)) = false := by decide)
    (hcd : (x == ("__classdict__" : Str)) = false := by decide) : PE X (.Name x pos) (tVar i) := pe_var hN hv hd hcd
end
theorem iteF {A B : Prop} (h : B) : if false = true then A else B := by
  rw [if_neg Bool.false_ne_true]
  exact h
theorem iteT {A B : Prop} (h : A) : if true = true then A else B := by
  rw [if_pos rfl]
  exact h
theorem ite2 {c A B : Prop} [Decidable c] (h1 : c → A) (h2 : ¬ c → B) : if c then A else B := by
  by_cases h : c
  · rw [if_pos h]
    exact h1 h
  · rw [if_neg h]
    exact h2 h
def Same (H H' : Hp) : Prop := ∀ b o, H b = some o → H' b = some o
theorem Same.refl (H : Hp) : Same H H := fun _ _ h => h
theorem Same.trans {H H1 H2 : Hp} (a : Same H H1) (b : Same H1 H2) : Same H H2 := fun c o h => b c o (a c o h)
theorem Same.seq {K : PySem.W.Frag} {H H' : Hp} {a : Addr} {xs : List V} (e : Same H H') (h : SqL K H a xs) : SqL K H' a xs := by
  rcases h with (h | ⟨o, h⟩) | h
  · exact .inl (.inl (e _ _ h))
  · exact .inl (.inr ⟨o, e _ _ h⟩)
  · exact .inr h
end L2
section
namespace L2
open PySem PySem.Spec PyProof.Rows
def cloOf (cells : List (Str × Addr)) : List (Str × NameKind) → List (Str × Addr) → List (Str × Addr)
  | [], cs => cs
  | (n, k) :: r, cs => cloOf cells r (if k == .free then match cells.lookup n with | some c => (n, c) :: cs | none => cs else cs)
theorem cloOf_sub {cells : List (Str × Addr)} : ∀ {names : List (Str × NameKind)} {cs : List (Str × Addr)}, (∀ x c, cs.lookup x = some c → cells.lookup x = some c) → ∀ x c, (cloOf cells names cs).lookup x = some c → cells.lookup x = some c
  | [], _, h => h
  | (n, k) :: r, cs, h => by
    unfold cloOf
    refine cloOf_sub (names := r) ?_
    intro x c e
    by_cases hk : (k == NameKind.free) = true
    · rw [if_pos hk] at e
      cases q : cells.lookup n with
      | none => rw [q] at e; exact h x c e
      | some d =>
        rw [q] at e
        rw [List.lookup_cons] at e
        cases hx : x == n with
        | true =>
          rw [hx] at e
          have hxn : x = n := eq_of_beq hx
          subst hxn
          rw [q]; exact e
        | false => rw [hx] at e; exact h x c e
    · rw [if_neg hk] at e; exact h x c e
theorem cloOf_mono {cells : List (Str × Addr)} {x : Str} : ∀ {names : List (Str × NameKind)} {cs : List (Str × Addr)}, (cs.lookup x).isSome = true → ((cloOf cells names cs).lookup x).isSome = true
  | [], _, h => h
  | (n, k) :: r, cs, h => by
    unfold cloOf
    refine cloOf_mono (names := r) ?_
    by_cases hk : (k == NameKind.free) = true
    · rw [if_pos hk]
      cases q : cells.lookup n with
      | none => exact h
      | some d =>
        show (List.lookup x ((n, d) :: cs)).isSome = true
        rw [List.lookup_cons]
        cases hx : x == n with
        | true => rfl
        | false => exact h
    · rw [if_neg hk]; exact h
theorem cloOf_has {cells : List (Str × Addr)} {x : Str} (hc : (cells.lookup x).isSome = true) : ∀ {names : List (Str × NameKind)} {cs : List (Str × Addr)}, (x, NameKind.free) ∈ names → ((cloOf cells names cs).lookup x).isSome = true
  | [], _, h => by cases h
  | (n, k) :: r, cs, h => by
    unfold cloOf
    rcases List.mem_cons.mp h with e | h
    · cases e
      refine cloOf_mono ?_
      rw [if_pos (show (NameKind.free == NameKind.free) = true from rfl)]
      obtain ⟨d, q⟩ := Option.isSome_iff_exists.mp hc
      rw [q]
      show (List.lookup x ((x, d) :: cs)).isSome = true
      rw [List.lookup_cons, beq_self_eq_true]
      rfl
    · exact cloOf_has hc h
theorem clo_go {env : Env} : ∀ (names : List (Str × NameKind)) (cs : List (Str × Addr)), (∀ y ∈ names, y.2 = .free → (env.cells.lookup y.1).isSome = true) →
    (forIn names cs fun (x : Str × NameKind) (r : List (Str × Addr)) => match x with
      | (name, kind) => if (kind == .free) = true then do let c ← cellOf env name; pure (ForInStep.yield ((name, c) :: r)) else pure (ForInStep.yield r) : Sem (List (Str × Addr))) = pure (cloOf env.cells names cs)
  | [], cs, _ => rfl
  | (n, k) :: r, cs, h => by
    have hr : ∀ y ∈ r, y.2 = .free → (env.cells.lookup y.1).isSome = true := fun y hy => h y (List.mem_cons_of_mem _ hy)
    rw [List.forIn_cons]
    unfold cloOf
    by_cases hk : (k == NameKind.free) = true
    · have hf : k = .free := by simpa using hk
      obtain ⟨d, q⟩ := Option.isSome_iff_exists.mp (h (n, k) List.mem_cons_self hf)
      have q' : env.cells.lookup n = some d := q
      have hcell : cellOf env n = pure d := by unfold cellOf; rw [q']
      simp only [hk, if_true, hcell, pure_bind, q']
      exact clo_go r _ hr
    · simp only [hk, if_false, pure_bind, Bool.false_eq_true]
      exact clo_go r _ hr
theorem clo_of {scope : Scope} {env : Env} (h : ∀ y ∈ scope.names, y.2 = .free → (env.cells.lookup y.1).isSome = true) : closureFor scope env = pure (cloOf env.cells scope.names []) := by
  unfold closureFor
  have e := clo_go (env := env) scope.names [] h
  simp only [bind_pure]
  exact e
theorem lookup_relabel_free {env : Env} : ∀ {names : List (Str × NameKind)} {x : Str}, names.lookup x = some .free →
    (names.map fun (n, k) => if (k == NameKind.free && env.scope.kind == .function && env.kindOf n == some .cell) then (n, NameKind.cell) else (n, k)).lookup x = some .cell ∨
    (names.map fun (n, k) => if (k == NameKind.free && env.scope.kind == .function && env.kindOf n == some .cell) then (n, NameKind.cell) else (n, k)).lookup x = some .free
  | [], _, h => by simp at h
  | (n, k) :: r, x, h => by
    have ih := @lookup_relabel_free env r x
    rw [List.map_cons]
    show List.lookup x ((if (k == NameKind.free && env.scope.kind == .function && env.kindOf n == some .cell) = true then (n, NameKind.cell) else (n, k)) :: _) = _ ∨ List.lookup x ((if (k == NameKind.free && env.scope.kind == .function && env.kindOf n == some .cell) = true then (n, NameKind.cell) else (n, k)) :: _) = _
    cases hx : x == n with
    | true =>
      rw [List.lookup_cons, hx] at h
      have hk : k = .free := by simpa using h
      by_cases hc : (k == NameKind.free && env.scope.kind == .function && env.kindOf n == some .cell) = true
      · rw [if_pos hc]; left; rw [List.lookup_cons, hx]
      · rw [if_neg hc]; right; rw [List.lookup_cons, hx, hk]
    | false =>
      rw [List.lookup_cons, hx] at h
      by_cases hc : (k == NameKind.free && env.scope.kind == .function && env.kindOf n == some .cell) = true
      · rw [if_pos hc]; rw [List.lookup_cons, hx]; exact ih h
      · rw [if_neg hc]; rw [List.lookup_cons, hx]; exact ih h
theorem relabel_mem {env : Env} {x : Str} : ∀ {names : List (Str × NameKind)}, (∀ y ∈ names, y.2 ≠ .cell) →
    ((names.map fun (n, k) => if (k == NameKind.free && env.scope.kind == .function && env.kindOf n == some .cell) then (n, NameKind.cell) else (n, k)).lookup x = some .cell ∨
     (names.map fun (n, k) => if (k == NameKind.free && env.scope.kind == .function && env.kindOf n == some .cell) then (n, NameKind.cell) else (n, k)).lookup x = some .free) → (x, NameKind.free) ∈ names
  | [], _, h => by simp at h
  | (n, k) :: r, hc, h => by
    have ih := @relabel_mem env x r fun y hy => hc y (List.mem_cons_of_mem _ hy)
    rw [List.map_cons] at h
    have h' : List.lookup x ((if (k == NameKind.free && env.scope.kind == .function && env.kindOf n == some .cell) = true then (n, NameKind.cell) else (n, k)) :: _) = _ ∨ List.lookup x ((if (k == NameKind.free && env.scope.kind == .function && env.kindOf n == some .cell) = true then (n, NameKind.cell) else (n, k)) :: _) = _ := h
    by_cases hb : (k == NameKind.free && env.scope.kind == .function && env.kindOf n == some .cell) = true
    · rw [if_pos hb] at h'
      have hk : k = .free := by simp at hb; exact hb.1.1
      rw [List.lookup_cons] at h'
      cases hx : x == n with
      | true =>
        have : x = n := eq_of_beq hx
        subst this; subst hk
        exact List.mem_cons_self
      | false => rw [hx] at h'; exact List.mem_cons_of_mem _ (ih h')
    · rw [if_neg hb] at h'
      rw [List.lookup_cons] at h'
      cases hx : x == n with
      | true =>
        rw [hx] at h'
        have : x = n := eq_of_beq hx
        subst this
        rcases h' with h' | h'
        · exact absurd (Option.some.inj h') (hc (x, k) List.mem_cons_self)
        · have hk : k = .free := Option.some.inj h'
          subst hk
          exact List.mem_cons_self
      | false => rw [hx] at h'; exact List.mem_cons_of_mem _ (ih h')
def compOk (osc sc : Scope) : Bool :=
  (decide (sc.kind = .function)) && sc.names.all (fun y => decide (y.2 ≠ .cell)) && sc.names.all (fun y => decide (y.2 = .local → sc.names.lookup y.1 = some .local)) &&
    sc.names.all (fun y => decide (y.2 = .free → osc.names.lookup y.1 = some .cell ∨ osc.names.lookup y.1 = some .free))
structure CompOk (osc sc : Scope) : Prop where
  kind : sc.kind = .function
  nocell : ∀ y ∈ sc.names, y.2 ≠ .cell
  loc : ∀ y ∈ sc.names, y.2 = .local → sc.names.lookup y.1 = some .local
  free : ∀ y ∈ sc.names, y.2 = .free → osc.names.lookup y.1 = some .cell ∨ osc.names.lookup y.1 = some .free
theorem CompOk.of {osc sc : Scope} (h : compOk osc sc = true) : CompOk osc sc := by
  unfold compOk at h
  rw [Bool.and_eq_true, Bool.and_eq_true, Bool.and_eq_true] at h
  obtain ⟨⟨⟨h1, h2⟩, h3⟩, h4⟩ := h
  exact ⟨of_decide_eq_true h1, fun y hy => of_decide_eq_true (List.all_eq_true.mp h2 y hy), fun y hy => of_decide_eq_true (List.all_eq_true.mp h3 y hy), fun y hy => of_decide_eq_true (List.all_eq_true.mp h4 y hy)⟩
abbrev cloX (X : Cx) (scope : Scope) : List (Str × Addr) := cloOf X.env.cells scope.names []
def cxComp (X : Cx) (N' : List Str) (scope : Scope) (fp : List Addr) (s : Shared) (H : Hp) : Cx where
  prog := X.prog
  w := X.w
  K := X.K
  mg := X.mg
  base := X.base
  A := X.A
  N := N'
  s₀ := s
  H₀ := H
  env := compEnvC scope (cloX X scope) s.heap.objs.size X.env
  outer := X.stack
  stack := X.stack
  ex := fp
  fn := fun _ => false
  calm := X.calm
  pn := []
  xe := fun _ _ => False
def FreeAt (X : Cx) (sc : Scope) : List Str → List Nat → Prop
  | [], [] => True
  | x :: fr, j :: ix => (X.N[j]? = some x ∧ sc.names.lookup x = some .free) ∧ FreeAt X sc fr ix
  | _, _ => False
def start2 (σ : St) (own : List Str) (ix : List Nat) : St := List.replicate own.length none ++ ix.map fun j => (σ[j]?).join
theorem start2_len {X : Cx} {sc : Scope} {σ : St} {own : List Str} : ∀ {fr : List Str} {ix : List Nat}, FreeAt X sc fr ix → (start2 σ own ix).length = (own ++ fr).length := by
  intro fr ix h
  have : fr.length = ix.length := by
    induction fr generalizing ix with
    | nil => cases ix with
      | nil => rfl
      | cons _ _ => exact h.elim
    | cons x fr ihf => cases ix with
      | nil => exact h.elim
      | cons j ix => simp [ihf h.2]
  simp [start2, this]
theorem freeAt_get {X : Cx} {sc : Scope} {σ : St} {x : Str} {v : V} : ∀ {fr : List Str} {ix : List Nat} {i : Nat}, FreeAt X sc fr ix → fr[i]? = some x → (ix.map fun j => (σ[j]?).join)[i]? = some (some v) →
    ∃ j : Nat, X.N[j]? = some x ∧ σ[j]? = some (some v) ∧ sc.names.lookup x = some .free
  | [], _, _, _, h, _ => by simp at h
  | _ :: _, [], _, h, _, _ => h.elim
  | y :: fr, j :: ix, 0, h, h1, h2 => by
    have e1 : y = x := by simpa using h1
    subst e1
    have e2 : (σ[j]?).join = some v := by simpa using h2
    refine ⟨j, h.1.1, ?_, h.1.2⟩
    cases q : σ[j]? with
    | none => rw [q] at e2; cases e2
    | some o => rw [q] at e2; cases o with
      | none => cases e2
      | some z => have : z = v := by simpa using e2
                  rw [this]
  | y :: fr, j :: ix, i + 1, h, h1, h2 => freeAt_get (fr := fr) (ix := ix) (i := i) h.2 (by simpa using h1) (by simpa using h2)
theorem start2_get {X : Cx} {sc : Scope} {σ : St} {own fr : List Str} {ix : List Nat} {i : Nat} {x : Str} {v : V} (h : FreeAt X sc fr ix) (h1 : (own ++ fr)[i]? = some x) (h2 : (start2 σ own ix)[i]? = some (some v)) :
    ∃ j : Nat, X.N[j]? = some x ∧ σ[j]? = some (some v) ∧ sc.names.lookup x = some .free := by
  by_cases hi : i < own.length
  · unfold start2 at h2
    rw [List.getElem?_append_left (by simpa using hi), List.getElem?_replicate, if_pos hi] at h2
    cases h2
  · unfold start2 at h2
    rw [List.getElem?_append_right (by simpa using hi)] at h2
    rw [List.getElem?_append_right (by simpa using hi)] at h1
    exact freeAt_get h h1 (by simpa using h2)
def PIfs (X : Cx) (ifs : List Expr) (t : TT) : Prop :=
  ∀ (pins : List (Addr × Obj)) (s : Shared) (σ : St) (H : Hp) (Q : Bool → Hp → Prop), Inv X pins σ H s → t σ H Q →
    wpAny (model X.prog X.w) X.A (forIn ifs true fun c r => if r = true then do let ok ← isTrue c X.env (eval c X.env); pure (ForInStep.yield ok) else pure (ForInStep.yield r)) (TP X pins σ Q) X.xe s
def tYes : TT := fun _ H Q => Q true H
theorem pifs_nil {X : Cx} : PIfs X [] tYes := fun _ _ _ H _ I h => wpAny_tests_nil ⟨H, I, h⟩
theorem pifs_one {X : Cx} {c : Expr} {t : TT} (h : PT X c t) : PIfs X [c] t := fun pins s σ H Q I hw => wpAny_tests_one (h pins s σ H Q I hw)
theorem codeAny_compLoop_any {prog : Program} {w : World} {A : Around} {R : Result → Shared → Prop} {s : Shared} {elt target iter : Expr} {ifs : List Expr} {scope : Scope} {pos : Pos} {it acc : Value} {env : Env} (I : Nat → Shared → Prop)
    (turn : ∀ n s, I n s → wpAny (model prog w) A (pyNext it) (fun r s₁ => match r with
      | none => R (.ok .next) s₁
      | some v => wpAny (model prog w) A (letOwnedTupleGo target it v) (fun _ s₁' => wpAny (model prog w) A (assign target env v) (fun _ s₂ =>
          wpAny (model prog w) A (forIn ifs true fun c r => if r = true then do let ok ← isTrue c env (eval c env); pure (ForInStep.yield ok) else pure (ForInStep.yield r)) (fun ok s₃ =>
            if ok = true then wpAny (model prog w) A (eval elt env) (fun x s₄ =>
              wpAny (model prog w) A (call (.builtin "list.append") [acc, x]) (fun _ s₅ => ∃ m, m < n ∧ I m s₅) (fun _ _ => False) s₄) (fun _ _ => False) s₃
            else ∃ m, m < n ∧ I m s₃) (fun _ _ => False) s₂) (fun _ _ => False) s₁') (fun _ _ => False) s₁) (fun _ _ => False) s)
    (n : Nat) (h : I n s) :
    codeAny (model prog w) A (.compLoop (.ListComp elt [⟨target, iter, ifs, 0⟩] scope pos) 0 it acc env) R s := by
  refine codeAny_loop rfl I (fun n s hI => ?_) n h
  show wpAny _ A ((compTurn (.ListComp elt [⟨target, iter, ifs, 0⟩] scope pos) 0 it acc env).onRaise (fun x => do noteFrame x env; theTreesLotGoes x)) _ _ s
  refine wpAny_noted ?_
  rw [compTurn_list]
  refine wpAny_bind (wpAny_standAt (wpAny_bind (wpAny_mono (turn n s hI) (fun r s₁ h₁ => ?_) fun _ _ h' => h'.elim)))
  cases r with
  | none => exact wpAny_pure h₁
  | some v =>
    refine wpAny_bind (wpAny_mono h₁ (fun _ s₁' h₁' => ?_) fun _ _ h' => h'.elim)
    refine wpAny_bind (wpAny_mono h₁' (fun _ s₂ h₂ => wpAny_bind (wpAny_mono h₂ (fun ok s₃ h₃ => ?_) fun _ _ h' => h'.elim)) fun _ _ h' => h'.elim)
    cases ok with
    | false => exact wpAny_pure ⟨rfl, h₃⟩
    | true =>
      exact wpAny_bind (wpAny_bind (wpAny_mono h₃ (fun x s₄ h₄ => wpAny_bind (wpAny_mono h₄ (fun _ s₅ h₅ => wpAny_pure (wpAny_pure ⟨rfl, h₅⟩)) fun _ _ h' => h'.elim)) fun _ _ h' => h'.elim))
def Behind (X : Cx) (pins : List (Addr × Obj)) (σ : St) (R : Hp → Prop) (C : Addr) (s' : Shared) : Prop :=
  ∃ (H' : Hp) (m : Str → Option Value), Inv X pins σ H' s' ∧ s'.heap.Ns C m ∧ FpOk X pins H' C ∧ R H'
theorem Inv.sameBut {X : Cx} {pins : List (Addr × Obj)} {σ : St} {H : Hp} {s : Shared} {h' : Heap} {C : Addr} (I : Inv X pins σ H s) (f : FpOk X pins H C) (sb : Heap.SameBut C s.heap h') : Inv X pins σ H { s with heap := h' } := by
  obtain ⟨f0, f1, f2, f3, f4, f5⟩ := f
  exact I.turned (t' := s.toks) (fun b o hb e => (sb.2 b hb).trans e) f0 f1 f3 f4 f5
def tTurns (J : It) (D : Addr) (g : TG) (tc : TT) (te : TE) (R : Hp → Prop) (τ : St) (H : Hp) : Prop :=
  ∃ W : Nat → Nat → St → Hp → Prop, (∃ m, W 0 m τ H) ∧ ∀ i m τ H, W i m τ H →
    (J.stop i H ∧ R H) ∨ (J.go i H ∧ ∃ N : St → Hp → Prop, (∀ τ' H', N τ' H' → ∃ m', m' < m ∧ W (i + 1) m' τ' H') ∧ ∀ x H', J.yld i H x H' → g x τ H' fun τ2 H2 => tc τ2 H2 fun b H3 =>
      if b = true then te τ2 H3 fun v H4 => ∃ ys, H4 D = some (.lst ys) ∧ ys.length < sizeLine ∧ N τ2 (upd H4 D (.lst (ys ++ [v]))) else N τ2 H3)
section
variable {X : Cx} {pins : List (Addr × Obj)} {σ : St} {H : Hp} {s : Shared} {tg elt iter : Expr} {ifs : List Expr} {scope : Scope} {pos : Pos} {own fr : List Str} {ix : List Nat} {g : TG} {tc : TT} {te : TE} {it : Addr} {fp : List Addr}
  {tn : Nat → Heap → Prop} {J : It}
theorem comp_inner {R : Hp → Prop} {D : Addr} {h₁ : Heap} {ob : Obj} {m0 : Str → Option Value} {tk : Nat} (hc : X.calm = true) (ok : CompOk X.env.scope scope) (hfr : FreeAt X scope fr ix)
    (hg : PG (cxComp X (own ++ fr) scope fp s H) tg g) (hi : PIfs (cxComp X (own ++ fr) scope fp s H) ifs tc) (he : PE (cxComp X (own ++ fr) scope fp s H) elt te)
    (I3 : Inv X pins σ H s) (T : Turn X.prog X.w X.K tg J fp it tn) (st3 : tn 0 s.heap) (f3 : ∀ b ∈ fp, FpOk X pins H b)
    (hns : h₁.Ns s.heap.objs.size m0) (hsb : Heap.SameBut s.heap.objs.size (s.heap.push ob) h₁) (hq : tTurns J D g tc te R (start2 σ own ix) H) :
    codeAny (model X.prog X.w) X.A (.compStart (.ListComp elt [⟨tg, iter, ifs, 0⟩] scope pos) 0 (.ref it) (.ref D) (compEnvC scope (cloX X scope) s.heap.objs.size X.env))
      (fun r s' => r = .ok .next ∧ Behind X pins σ R s.heap.objs.size s') { s with heap := h₁, toks := tk } := by
  have old : ∀ b o, s.heap.get? b = some o → h₁.get? b = some o := fun b o e => hsb.extBut b o (Nat.ne_of_lt (Heap.lt_size e)) (Heap.get?_push_of_some _ e)
  have sub : ∀ x c, (cloX X scope).lookup x = some c → X.env.cells.lookup x = some c := cloOf_sub (fun x c e => by simp at e)
  have outerK : ∀ x, (x, NameKind.free) ∈ scope.names → X.env.kindOf x = some .cell ∨ X.env.kindOf x = some .free := fun x hx => ok.free (x, .free) hx rfl
  have has : ∀ x, (x, NameKind.free) ∈ scope.names → ∃ c, (cloX X scope).lookup x = some c := fun x hx => by
    obtain ⟨c, hcl⟩ := I3.ok.has x (outerK x hx)
    exact Option.isSome_iff_exists.mp (cloOf_has (by rw [hcl]; rfl) hx)
  have lt3 : ∀ b ∈ fp, b < s.heap.objs.size := fun b hb => by
    obtain ⟨o, ho, _⟩ := T.obj 0 _ st3 b hb
    exact Heap.lt_size ho
  have nostk : ∀ b ∈ fp, b ∉ frs X.stack := fun b hb hs => by
    rcases List.mem_cons.mp (I3.stkSub b hs) with z | z
    · exact (f3 b hb).2.1 z
    · exact (f3 b hb).2.2.1 z
  have ncell : ∀ b ∈ fp, ∀ x c, (cloX X scope).lookup x = some c → c ≠ b := fun b hb x c h => (f3 b hb).2.2.2.2.1 x c (sub x c h)
  have I4 : Inv (cxComp X (own ++ fr) scope fp s H) [] (start2 σ own ix) H { s with heap := h₁, toks := tk } := by
    refine ⟨⟨I3.ok.mod, ok.kind, I3.ok.glob, I3.ok.blt, Nat.le_refl _, ?inj, ?has, ?cab, I3.ok.hd, I3.ok.frames, .inl rfl, ?exf, I3.bs, Nat.le_trans I3.ok.bsz I3.sz, ?noex, nostk, I3.stack, I3.stkFree⟩,
      rfl, I3.bare, Un.kept old, ⟨m0, hns, ?loc⟩, ?cell, I3.hok.fresh (Nat.le_refl _), ?freeC, ?pin, I3.hok.kept old, ?len⟩
    case inj => exact fun x y c h1 h2 => I3.ok.inj x y c (sub x c h1) (sub y c h2)
    case has => exact fun x hx => has x (relabel_mem ok.nocell hx)
    case cab => exact fun x c h => by cases h
    case exf => exact fun b hb => ⟨Nat.ne_of_lt (lt3 b hb), ncell b hb⟩
    case noex =>
      intro b o e hb
      rcases (f3 b hb).2.2.2.1 with z | z
      · exact I3.ok.noex b o e z
      · exact absurd (Nat.lt_of_lt_of_le (Nat.lt_of_lt_of_le (Heap.lt_size e) I3.ok.bsz) z) (Nat.lt_irrefl _)
    case loc =>
      intro i x v e1 e2 e3
      obtain ⟨j, a1, a2, a3⟩ := start2_get hfr e1 e2
      have mem : (x, NameKind.free) ∈ scope.names := PySem.mem_of_lookup a3
      obtain ⟨m, hn, hl⟩ := I3.loc
      have ok1 := outerK x mem
      obtain ⟨u, r, l⟩ := hl j x v a1 a2 (ok1.elim (fun z => .inr (.inl z)) fun z => .inr (.inr z))
      rcases l with ⟨k, _⟩ | ⟨k, c, hcl, o, ho, hd⟩
      · rcases ok1 with z | z
        · rw [k] at z; cases z
        · rw [k] at z; cases z
      · obtain ⟨c', hc'⟩ := has x mem
        have e := sub x c' hc'
        rw [hcl] at e
        cases e
        exact ⟨u, r, .inr ⟨lookup_relabel_free a3, c, hc', o, old _ _ ho, hd⟩⟩
    case cell =>
      intro x c h
      obtain ⟨v, o, ho, hd⟩ := I3.cell x c (sub x c h)
      exact ⟨v, o, old _ _ ho, hd⟩
    case freeC => exact fun x c h => I3.freeC x c (sub x c h)
    case pin => exact fun p hp => absurd (show p ∈ ([] : List (Addr × Obj)) from hp) (by simp)
    case len => exact start2_len hfr
  have st4 : tn 0 h₁ := T.keep 0 _ _ st3 fun b _ o e => old b o e
  have stat : ∀ {H' : Hp}, (∀ b ∈ fp, H' b = none) → ∀ b ∈ fp, FpOk (cxComp X (own ++ fr) scope fp s H) [] H' b := fun {H'} hn b hb =>
    ⟨hn b hb, Nat.ne_of_lt (lt3 b hb), nostk b hb, .inl hb, ncell b hb, fun p hp => absurd (show p ∈ ([] : List (Addr × Obj)) from hp) (by simp)⟩
  obtain ⟨W, ⟨m1, w0⟩, turn⟩ := hq
  have loop : codeAny (model X.prog X.w) X.A (.compLoop (.ListComp elt [⟨tg, iter, ifs, 0⟩] scope pos) 0 (.ref it) (.ref D) (compEnvC scope (cloX X scope) s.heap.objs.size X.env))
      (fun r s' => r = .ok .next ∧ Behind X pins σ R s.heap.objs.size s') { s with heap := h₁, toks := tk } := by
    refine codeAny_compLoop_any (fun n s' => ∃ i τ H', Inv (cxComp X (own ++ fr) scope fp s H) [] τ H' s' ∧ tn i s'.heap ∧ (∀ b ∈ fp, H' b = none) ∧ W i n τ H') ?_ m1 ⟨0, _, H, I4, st4, fun b hb => (f3 b hb).1, w0⟩
    rintro n s5 ⟨i, τ5, H5, I5, st5, fr5, w5⟩
    rcases turn i n τ5 H5 w5 with ⟨stop, qn⟩ | ⟨go, N, hN, step⟩
    · refine thn (T.done (cxComp X (own ++ fr) scope fp s H) rfl rfl rfl hc i [] s5 τ5 H5 _ I5 (stat fr5) st5 stop) fun r s6 ⟨hr, I6⟩ => ?_
      subst hr
      obtain ⟨m6, hn6, _⟩ := I6.loc
      exact ⟨rfl, H5, m6, I3.call' (ch := fp) I6.os I6.base I6.hok I6.bare (fun b hb => ⟨(f3 b hb).2.2.2.1, (f3 b hb).2.1, (f3 b hb).2.2.2.2.1, (f3 b hb).2.2.2.2.2⟩), hn6, I3.fpOk (Nat.le_refl _) I6.free, qn⟩
    · refine thn (T.item (cxComp X (own ++ fr) scope fp s H) rfl rfl rfl hc i [] s5 τ5 H5 _ I5 (stat fr5) st5 go) fun r s6 ⟨u, hr, h6⟩ => ?_
      subst hr
      refine thn h6 fun _ s7 ⟨x, H7, I7, r7, y7, st7, fr7⟩ => ?_
      have I7' := I7.pinned (stat fr7) (T.obj _ _ st7)
      have again : ∀ {τ8 : St} {H8 : Hp} {s8 : Shared}, Inv (cxComp X (own ++ fr) scope fp s H) ([] ++ pinsAt fp s7.heap) τ8 H8 s8 → N τ8 H8 →
          ∃ m, m < n ∧ ∃ i τ H', Inv (cxComp X (own ++ fr) scope fp s H) [] τ H' s8 ∧ tn i s8.heap ∧ (∀ b ∈ fp, H' b = none) ∧ W i m τ H' := fun {τ8 H8 s8} I8 n8 => by
        obtain ⟨m', hm, w8⟩ := hN τ8 H8 n8
        refine ⟨m', hm, i + 1, τ8, H8, I8.unpinned, T.keep _ _ _ st7 fun b hb o e => (I8.pin (b, o) (List.mem_append_right _ (List.mem_append_right _ (mem_pinsAt hb e)))).1, fun b hb => ?_, w8⟩
        obtain ⟨o, e, d⟩ := T.obj _ _ st7 b hb
        exact (I8.pin (b, o) (List.mem_append_right _ (List.mem_append_right _ (mem_pinsAt hb e)))).2.1
      refine thn (hg _ s7 τ5 H7 x u _ I7' r7 (step x H7 y7)) fun _ s8 ⟨τ8, H8, I8, q8⟩ => ?_
      refine thn (hi _ s8 τ8 H8 _ I8 q8) fun b s9 ⟨H9, I9, q9⟩ => ?_
      cases b with
      | false => exact again I9 q9
      | true =>
        refine thn (he _ s9 τ8 H9 _ I9 q9) fun uv s10 ⟨v, H10, I10, r10, ys, hD, hz, q10⟩ => ?_
        refine thn (mt_append (X := cxComp X (own ++ fr) scope fp s H) _ s10 τ8 H10 (.ref D) [v] (.ref D) [uv] (fun _ H' => N τ8 H') I10 rfl (.cons r10 .nil) ⟨D, ys, v, rfl, rfl, hD, hz, q10⟩) fun _ s11 ⟨_, H11, I11, _, q11⟩ => ?_
        exact again I11 q11
  exact codeAny_compStart_list loop (T.self X.A 0 _ _ _ st4 loop)
theorem comp_run {R : V → Hp → Prop} (hc : X.calm = true) (ok : CompOk X.env.scope scope) (hfr : FreeAt X scope fr ix)
    (hg : ∀ fp s H, PG (cxComp X (own ++ fr) scope fp s H) tg g) (hi : ∀ fp s H, PIfs (cxComp X (own ++ fr) scope fp s H) ifs tc) (he : ∀ fp s H, PE (cxComp X (own ++ fr) scope fp s H) elt te)
    (I2 : Inv X pins σ H s) (T : Turn X.prog X.w X.K tg J fp it tn) (st2 : tn 0 s.heap) (f2 : ∀ b ∈ fp, FpOk X pins H b)
    (hq : ∀ D, H D = none → tTurns J D g tc te (R (.ref D)) (start2 σ own ix) (upd H D (.lst []))) {E : Value → Shared → Prop} :
    wpAny (model X.prog X.w) X.A (newList []) (fun acc s₃ => wpAny (model X.prog X.w) X.A (newFunctionEnv scope X.env.globals (cloX X scope) [] X.env.qual none .none (some X.env)) (fun cenv s₄ =>
      codeAny (model X.prog X.w) X.A (.compStart (.ListComp elt [⟨tg, iter, ifs, 0⟩] scope pos) 0 (.ref it) acc { cenv with scope := relabel scope X.env })
        (fun r s' => r = .ok .next ∧ ∃ v, RelV v acc ∧ Behind X pins σ (R v) cenv.locals s') s₄) E s₃) E s := by
  refine wpAny_newObj_type (wpAny_newFunctionEnv ok.nocell (by intro y hy; simp at hy) (fun h₁ hns₁ hsb₁ => ?_) ok.kind)
  have hD : H s.heap.objs.size = none := I2.hok.fresh (Nat.le_refl _)
  have I3 : Inv X pins σ (upd H s.heap.objs.size (.lst [])) { s with heap := s.heap.push { cls := .type "list", dict := none, data := .seq ([] : List Value).toArray } } :=
    I2.laid (t' := s.toks) (fun b u e => Heap.get?_push_of_some _ e) (Nat.le_refl _) ⟨Nat.zero_le _, [], 0, .nil, Heap.get?_push_size _ rfl⟩
  have st3 : tn 0 (s.heap.push { cls := .type "list", dict := none, data := .seq ([] : List Value).toArray }) := T.keep 0 _ _ st2 fun b _ o e => Heap.get?_push_of_some _ e
  have f3 : ∀ b ∈ fp, FpOk X pins (upd H s.heap.objs.size (.lst [])) b := fun b hb => by
    obtain ⟨f0, fr⟩ := f2 b hb
    obtain ⟨o, ho, _⟩ := T.obj 0 _ st2 b hb
    exact ⟨by rw [upd_ne (Nat.ne_of_lt (Heap.lt_size ho))]; exact f0, fr⟩
  refine codeAny_mono (comp_inner (R := R (.ref s.heap.objs.size)) (D := s.heap.objs.size) hc ok hfr (hg _ _ _) (hi _ _ _) (he _ _ _) I3 T st3 f3 hns₁ hsb₁ (hq _ hD)) fun r s' ⟨e, b⟩ => ⟨e, V.ref s.heap.objs.size, rfl, b⟩
def tComp (own : List Str) (ix : List Nat) (wi : TI) (g : TG) (tc : TT) (te : TE) : TE := fun σ H Q => wi σ H fun J H1 => ∀ D, H1 D = none → tTurns J D g tc te (Q (.ref D)) (start2 σ own ix) (upd H1 D (.lst []))
end
section
variable {X : Cx} {tg elt iter : Expr} {ifs : List Expr} {scope : Scope} {pos : Pos} {g : TG} {tc : TT} {te : TE} {wi : TI}
theorem has_cells {pins : List (Addr × Obj)} {σ : St} {H : Hp} {s : Shared} (I : Inv X pins σ H s) (ok : CompOk X.env.scope scope) : ∀ y ∈ scope.names, y.2 = .free → (X.env.cells.lookup y.1).isSome = true := fun y hy hf => by
  obtain ⟨c, h⟩ := I.ok.has y.1 (ok.free y hy hf)
  rw [h]; rfl
theorem pe_comp (osc : Scope) (own fr : List Str) (ix : List Nat) (hc : X.calm = true) (ho : X.env.scope = osc) (hok : compOk osc scope = true) (hfr : FreeAt X scope fr ix) (hit : PI X tg iter wi)
    (hg : ∀ fp s H, PG (cxComp X (own ++ fr) scope fp s H) tg g) (hi : ∀ fp s H, PIfs (cxComp X (own ++ fr) scope fp s H) ifs tc) (he : ∀ fp s H, PE (cxComp X (own ++ fr) scope fp s H) elt te)
    (hs : ∀ x, foldedSetIterable iter X.env x = pure x := by intro _; rfl) : PE X (.ListComp elt [⟨tg, iter, ifs, 0⟩] scope pos) (tComp own ix wi g tc te) := by
  intro pins s σ H Q I h
  have ok := CompOk.of (ho ▸ hok)
  rw [eval_ListComp]
  refine wpAny_comprehension_free (use := none) rfl hs (clo_of (has_cells I ok)) ok.kind ok.loc (thn (hit pins s σ H _ I h) fun xv s₁ h₁ => thn h₁ fun itv s₂ h₂ => ?_)
  obtain ⟨it, fp, tn, J, H2, rfl, I2, T, st2, f2, hq⟩ := h₂
  refine thn (comp_run (R := Q) hc ok hfr hg hi he I2 T st2 f2 hq) fun acc s₃ h₃ => thn h₃ fun cenv s₄ h₄ => codeAny_mono h₄ fun r s' ⟨hr, v, rv, H', m, I', hn, fpo, q⟩ => ?_
  subst hr
  exact ⟨m, hn, fun h' sb => ⟨v, H', I'.sameBut fpo sb, rv, q⟩⟩
end
end L2
end
section
namespace L2
open PySem PySem.Spec PyProof.Rows
section
variable {prog : Program} {w : World} {A : Around} {E : Value → Shared → Prop} {s : Shared}
theorem nextOf_tuple_item {it l : Addr} {i : Nat} {items} {x : Value} {Q : Value → Shared → Prop} (hit : s.heap.IsTupleIter it l i)
    (hl : s.heap.IsTuple l items) (hx : items[i]? = some x)
    (hQ : ∀ h', h'.IsTupleIter it l (i + 1) → Heap.SameBut it s.heap h' → Q x { s with heap := h' }) :
    wpAny (model prog w) A (Builtin.SmallTypes.nextOf (.ref it)) Q E s := by
  obtain ⟨o, ho, hc, hd⟩ := id hit
  obtain ⟨ol, hol, _, nl, hdl⟩ := hl
  unfold Builtin.SmallTypes.nextOf
  refine wpAny_bind (wpAny_callSpecial?_slot (name := Str.ofString "__next__") hit.typeIs F.slot_tuple_iterator_next
    (wpAny_call_entry F.slot_tuple_iterator_next hit.typeIs F.entry_tuple_iterator_next ?_ (F.args_tuple_iterator_next_1 _)))
  show wpAny _ _ (field (.ref it) 0 >>= _) _ _ s
  refine wpAny_bind (wpAny_field ho hd (x := .ref l) rfl ?_)
  show wpAny _ _ (if (Value.ref l == Value.none) = true then _ else _) _ _ s
  rw [if_neg (show ¬ ((Value.ref l == Value.none) = true) from Bool.false_ne_true)]
  show wpAny _ _ (field (.ref it) 1 >>= _) _ _ s
  refine wpAny_bind (wpAny_field ho hd (x := .int i 0) rfl ?_)
  show wpAny _ _ (seqItems? (.ref l) >>= _) _ _ s
  refine wpAny_bind (wpAny_seqItems hol hdl ?_)
  simp only [Int.toNat_natCast, hx]
  refine wpAny_bind (wpAny_setField ho hd (by simp) (wpAny_pure ⟨x, rfl, wpAny_pure (hQ _ ?_ (Heap.SameBut.update ..))⟩))
  exact ⟨_, Heap.get?_update_self _ ho (Obj.isFreed_of_fields (Obj.data_mapFields hd _)), (Obj.cls_mapFields ..).trans hc, by
    rw [Obj.data_mapFields hd]; simp [rawInt]⟩
theorem nextOf_tuple_end {it l : Addr} {i : Nat} {items} {Q : Value → Shared → Prop} (hh : A.handled = none)
    (hit : s.heap.IsTupleIter it l i) (hl : s.heap.IsTuple l items) (hx : items[i]? = none)
    (hE : ∀ h' e, Heap.ExtBut it s.heap h' → (∃ o, h'.get? e = some o ∧ o.cls = .type "StopIteration") → E (.ref e) { s with heap := h' }) :
    wpAny (model prog w) A (Builtin.SmallTypes.nextOf (.ref it)) Q E s := by
  obtain ⟨o, ho, hc, hd⟩ := id hit
  obtain ⟨ol, hol, _, nl, hdl⟩ := hl
  unfold Builtin.SmallTypes.nextOf
  refine wpAny_bind (wpAny_callSpecial?_slot (name := Str.ofString "__next__") hit.typeIs F.slot_tuple_iterator_next
    (wpAny_call_entry F.slot_tuple_iterator_next hit.typeIs F.entry_tuple_iterator_next ?_ (F.args_tuple_iterator_next_1 _)))
  show wpAny _ _ (field (.ref it) 0 >>= _) _ _ s
  refine wpAny_bind (wpAny_field ho hd (x := .ref l) rfl ?_)
  show wpAny _ _ (if (Value.ref l == Value.none) = true then _ else _) _ _ s
  rw [if_neg (show ¬ ((Value.ref l == Value.none) = true) from Bool.false_ne_true)]
  show wpAny _ _ (field (.ref it) 1 >>= _) _ _ s
  refine wpAny_bind (wpAny_field ho hd (x := .int i 0) rfl ?_)
  show wpAny _ _ (seqItems? (.ref l) >>= _) _ _ s
  refine wpAny_bind (wpAny_seqItems hol hdl ?_)
  simp only [Int.toNat_natCast, hx]
  refine wpAny_bind (wpAny_rule (wpAny_bind (wpAny_setField ho hd (by simp) ?_)))
  show wpAny _ _ (newExc (.type "StopIteration") [] >>= _) _ _ _
  refine wpAny_bind ?_
  simp only [newExc, newTuple]
  refine wpAny_bind (wpAny_newObj_type ?_ (by size_fits))
  refine wpAny_bind (m := firstArgMember _ _) (wpAny_of_eq (a := Value.none) (by first | rfl | (simp only [firstArgMember]; rfl)) ?_)
  refine wpAny_newObj_type ?_ (by size_fits)
  simp only [raiseNew]
  refine wpAny_bind (wpAny_handled ?_)
  first | rw [show A.in1.handled = none from hh] | rw [hh]
  refine wpAny_bind (wpAny_pure (wpAny_throw ?_))
  exact hE _ _ (((Heap.SameBut.update ..).extBut.push _).push _) ⟨_, Heap.get?_push_size _ rfl, rfl⟩
end
theorem draws_tuple {prog : Program} {w : World} {A : Around} (hh : A.handled = none) (it l : Addr) (hne : l ≠ it) (items : Array Value) :
    Draws prog w A it [it, l] items.size (fun i v => items[i]? = some v) (fun i h => h.IsTupleIter it l i ∧ h.IsTuple l items) where
  live := fun _ _ st => let ⟨o, ho, _⟩ := st.1; ⟨o, ho⟩
  frame := fun _ _ _ st hk => ⟨st.1.at fun o e => hk it (by simp) o e, st.2.at fun o e => hk l (by simp) o e⟩
  item := fun i s Q E hi st hQ => by
    refine nextOf_tuple_item st.1 st.2 (x := items[i]) (by simp [hi]) fun h' hit' hs' => ?_
    exact hQ _ h' s.toks (by simp [hi]) ⟨hit', st.2.extBut hs'.extBut hne⟩ hs'
  done := fun s Q E st hE => nextOf_tuple_end hh st.1 st.2 (by simp) hE
section
open AutoSeq1 (wpAny_loadPart')
theorem meets_enumerate_newT (l : Addr) (items : Array Value) (n : Nat) (dct : Option Addr) (sl : Array (Option Value)) :
    Meets (Builtin.«enumerate.__new__» ⟨[.type "enumerate", .ref l], []⟩) (fun _ R s => s.heap.get? l = some { cls := .type "tuple", dict := dct, data := .seq items n, slots := sl } ∧
      R (.ok (.ret (.ref (s.heap.push { cls := .type "tuple_iterator", data := .fields #[.ref l, .int 0 0] }).objs.size)))
        { s with heap := (s.heap.push { cls := .type "tuple_iterator", data := .fields #[.ref l, .int 0 0] }).push { cls := .type "enumerate", data := .fields #[.none, .bool false, .ref s.heap.objs.size, rawInt 0, .none, .none] } }) :=
  .of_wp fun prog w A R s h => by
    obtain ⟨hp, g, d, tk, os⟩ := s; obtain ⟨hl, h⟩ := h
    have hsub := sub_enumerate
    have hL : Heap.IsTuple (Shared.heap ⟨hp, g, d, tk, os⟩) l items := ⟨_, hl, rfl, n, rfl⟩
    wp_walk using wpAny_loadPart' hl
    refine wpAny_stack_any fun st => wpAny_pure ?_
    split
    · rename_i c _ _ _ _ _
      cases (c == Value.type "enumerate")
      · wp_walk using wpAny_loadPart' hl, wpAny_pyIter_tuple hL
        exact ⟨_, rfl, h⟩
      · wp_walk using wpAny_loadPart' hl, wpAny_pyIter_tuple hL
        exact ⟨_, rfl, h⟩
    · wp_walk using wpAny_loadPart' hl, wpAny_pyIter_tuple hL
      exact ⟨_, rfl, h⟩
end
theorem call_enumerate_tuple {prog : Program} {w : World} {A : Around} {E : Value → Shared → Prop} {s : Shared} {l : Addr} {items : Array Value} {Q : Value → Shared → Prop} (hL : s.heap.IsTuple l items)
    (h : ∀ h', IsEnum h' (s.heap.objs.size + 1) s.heap.objs.size 0 .none → h'.IsTupleIter s.heap.objs.size l 0 → h'.objs.size = s.heap.objs.size + 2 →
      (∀ b o, s.heap.get? b = some o → h'.get? b = some o) → Q (.ref (s.heap.objs.size + 1)) { s with heap := h' }) :
    wpAny (model prog w) A (call (.type "enumerate") [.ref l]) Q E s := by
  obtain ⟨⟨c, dct, dt, sl⟩, hl, hc, n, hd⟩ := hL
  replace hc : c = .type "tuple" := hc
  replace hd : dt = .seq items n := hd
  subst hc hd
  refine callType_new F.called_enumerate (by decide) (F.typeCall_enumerate_1 _) (F.newCall_enumerate_1 _) (fun obj => F.args_object_init_2 obj _) F.entry_enumerate_new
    (meets_enumerate_newT l items n dct sl) ⟨hl, ?_⟩
  have hz : (s.heap.push { cls := .type "tuple_iterator", data := .fields #[.ref l, .int 0 0] }).objs.size = s.heap.objs.size + 1 := Heap.size_push ..
  show _ ∧ _
  rw [hz]
  have he : IsEnum ((s.heap.push { cls := .type "tuple_iterator", data := .fields #[.ref l, .int 0 0] }).push
      { cls := .type "enumerate", data := .fields #[.none, .bool false, .ref s.heap.objs.size, rawInt 0, .none, .none] }) (s.heap.objs.size + 1) s.heap.objs.size 0 .none := by
    have := Heap.get?_push_size (s.heap.push { cls := .type "tuple_iterator", data := .fields #[.ref l, .int 0 0] })
      (o := { cls := .type "enumerate", data := .fields #[.none, .bool false, .ref s.heap.objs.size, rawInt 0, .none, .none] }) rfl
    rw [hz] at this; exact this
  refine ⟨⟨_, he, rfl⟩, h _ he ⟨_, Heap.get?_push_of_some _ (Heap.get?_push_size _ rfl), rfl, rfl⟩ (by rw [Heap.size_push, hz]) fun b o x => Heap.get?_push_of_some _ (Heap.get?_push_of_some _ x)⟩
section
variable {X : Cx} {pins : List (Addr × Obj)} {σ : St} {H : Hp} {s : Shared} {h' : Heap}
theorem Inv.walked {t' : Nat} {wr : List Addr} (I : Inv X pins σ H s) (k : ∀ b o, b ∉ wr → s.heap.get? b = some o → h'.get? b = some o) (hf : ∀ b ∈ wr, FpOk X pins H b) : Inv X pins σ H { s with heap := h', toks := t' } := by
  have nit : ∀ b u, H b = some u → b ∉ wr := fun b u e z => by rw [(hf b z).1] at e; cases e
  refine I.step (g' := s.gens) (d' := s.drawn) (ch := wr) (fun b hb => ?_) (fun b o _ _ hc e _ => k b o hc e) (fun b o _ _ hc e _ => ⟨o.slots, k b o hc e⟩) (fun _ _ _ _ n => n)
    (fun b o hc e => ⟨o, k b o hc e⟩) (fun _ _ e => e) (fun _ _ _ e => e) (fun b ps e => ⟨#[], by rw [e]; simp⟩) (fun m hm => ?_) (fun b u e => ?_) I.bare
  · obtain ⟨f0, f1, f2, f3, f4, f5⟩ := hf b hb
    exact ⟨f3, f1, f4, f5⟩
  · obtain ⟨o, es, ep, ho, r⟩ := hm
    exact ⟨o, es, ep, k _ o (fun z => (hf _ z).2.1 rfl) ho, r⟩
  · refine (I.hok b u e).stay (fun c v hc q => k c v ?_ q) (fun _ q => q) fun _ _ q => q
    rcases hc with z | z
    · rw [z]; exact nit b u e
    · exact nit c _ z
theorem Inv.track {a : Addr} {o : HO} (I : Inv X pins σ H s) (f : FpOk X pins H a) (new : ObjOk X.prog X.w (upd H a o) s.heap a o) : Inv X pins σ (upd H a o) s := by
  obtain ⟨f0, f1, f2, f3, f4, f5⟩ := f
  have ne : ∀ b u, H b = some u → b ≠ a := fun b u e z => by rw [z, f0] at e; cases e
  obtain ⟨hh, g, d, t, os⟩ := s
  refine I.step (h' := hh) (g' := g) (d' := d) (t' := t) (ch := [a]) (fun b hb => ?_) (fun b o _ _ _ e _ => e) (fun b o _ _ _ e _ => ⟨o.slots, e⟩) (fun b o hc _ n => ?_) (fun b o _ e => ⟨o, e⟩)
    (fun b xs e => ?_) (fun b u xs e => ?_) (fun b ps e => ⟨#[], ?_⟩) (fun m hm => hm) (fun b u e => ?_) I.bare
  · have e : b = a := by simpa using hb
    subst e
    exact ⟨f3, f1, f4, f5⟩
  · rw [upd_ne (fun z => hc (by simp [z]))]; exact n
  · rw [upd_ne (ne b _ e)]; exact e
  · rw [upd_ne (ne b _ e)]; exact e
  · rw [upd_ne (ne b _ e), e]; simp
  · by_cases hb : b = a
    · subst hb; rw [upd_same] at e; cases e; exact new
    · rw [upd_ne hb] at e
      exact (I.hok b u e).stay (fun _ _ _ q => q) (fun c q => by rw [upd_ne (ne c _ q)]; exact q) fun c xs q => by rw [upd_ne (ne c _ q)]; exact q
end
def Ien (S : Hp → List V → Prop) : It :=
  ⟨fun i H => ∃ xs x, S H xs ∧ xs[i]? = some x, fun i H v H' => ∃ T x, v = .ref T ∧ H T = none ∧ H' = upd H T (.tup [.int i, x]) ∧ ∀ xs, S H xs → xs[i]? = some x, fun i H => ∃ xs, S H xs ∧ xs.length = i⟩
theorem enum_turn {P : Program} {w : World} {K : PySem.W.Frag} {elts : List Expr} {k : Nat} {tp : Pos} {S : Hp → List V → Prop} {e it l : Addr} {St0 : Nat → Heap → Prop}
    (hei : e ≠ it)
    (obj : ∀ i h, St0 i h → ∃ o, h.get? it = some o ∧ ∀ v, o.data ≠ .cell v)
    (keep : ∀ i h h', St0 i h → (∀ o, h.get? it = some o → h'.get? it = some o) → St0 i h')
    (drw : ∀ (X : Cx), X.prog = P → X.w = w → X.K = K → X.calm = true → ∀ (i : Nat) (pins : List (Addr × Obj)) (s : Shared) (σ : St) (H : Hp) (xs : List V), Inv X pins σ H s → St0 i s.heap → (∃ old, IsEnum s.heap e it i old) → S H xs →
      ∃ (its : List Value) (fp : List Addr) (St : Nat → Heap → Prop), Vals xs its ∧ Draws P w X.A.in1 it fp its.toArray.size (fun i v => its.toArray[i]? = some v) St ∧ St i s.heap ∧ e ∉ fp ∧ it ∈ fp ∧ (∀ j h, St j h → St0 j h))
    (inj : ∀ (X : Cx), X.K = K → ∀ (pins : List (Addr × Obj)) (s : Shared) (σ : St) (H : Hp) (xs ys : List V), Inv X pins σ H s → S H xs → S H ys → xs = ys) :
    Turn P w K (.Tuple elts k tp) (Ien S) [e, it] e (fun i h => (∃ old, IsEnum h e it i old) ∧ St0 i h) where
  mem := by simp
  obj := fun i h st b hb => by
    obtain ⟨⟨old, he⟩, hs⟩ := st
    rcases List.mem_cons.mp hb with rfl | hb
    · exact ⟨_, he, fun v z => by
        have z' : Data.fields _ = Data.cell v := z
        cases z'⟩
    · have e1 : b = it := by simpa using hb
      subst e1
      exact obj i h hs
  keep := fun i h h' st k => ⟨let ⟨old, he⟩ := st.1; ⟨old, k e (by simp) _ he⟩, keep i h h' st.2 fun o q => k it (by simp) o q⟩
  item := by
    intro X hP hw hK hc i pins s σ H E I hf st hg
    obtain ⟨xs, x, hq, hx⟩ := hg
    obtain ⟨its, fp, St, rv, Dr, hst, hef, hif, hback⟩ := drw X hP hw hK hc i pins s σ H xs I st.2 st.1 hq
    subst hP hw
    obtain ⟨u, hu, ru⟩ := rv.get hx
    have hi : i < its.toArray.size := by rw [List.size_toArray]; exact (List.getElem?_eq_some_iff.mp hu).1
    have hu' : its.toArray[i]? = some u := by simpa using hu
    have WT := WalksT.enumerateD Dr e hei hef hif
    refine WT.item i s _ _ hi ⟨st.1, hst⟩ fun T vals h' tk hPt hsz hT hmid hk => ⟨.ref T, rfl, ?_⟩
    obtain ⟨t, y, hy, rfl⟩ := hPt
    have hTw : T ∉ [e, it] := WT.apart i T _ hmid
    rw [hu'] at hy
    have hy' : u = y := Option.some.inj hy
    subst hy'
    have hwr : ∀ b ∈ [e, it], FpOk X pins H b := hf
    have I1 : Inv X pins σ H { s with heap := h', toks := tk } := I.walked hk hwr
    have hTn : H T = none := I.hok.fresh hsz
    have I2 : Inv X pins σ (upd H T (.tup [.int i, x])) { s with heap := h', toks := tk } := by
      refine I1.track (I.fpOk hsz hTn) ⟨by show 2 ≤ sizeLine; decide, [.int i t, u], .cons ⟨t, rfl⟩ (.cons ru .nil), ?_⟩
      exact hT
    have hwr2 : ∀ b ∈ [e, it], FpOk X pins (upd H T (.tup [.int i, x])) b := fun b hb => by
      obtain ⟨f0, fr⟩ := hf b hb
      have ne : b ≠ T := fun z => hTw (by rw [← z]; exact hb)
      exact ⟨by rw [upd_ne ne]; exact f0, fr⟩
    refine WT.go elts k tp i T _ _ _ hmid fun h'' hst'' hk'' => ?_
    refine ⟨.ref T, _, I2.walked (t' := tk) hk'' hwr2, rfl, ⟨T, x, rfl, hTn, rfl, fun ys hy => by rw [inj X hK pins s σ H ys xs I hy hq]; exact hx⟩, ⟨hst''.1, hback _ _ hst''.2⟩, fun b hb => (hwr2 b hb).1⟩
  done := by
    intro X hP hw hK hc i pins s σ H E I hf st hg
    obtain ⟨xs, hq, hx⟩ := hg
    obtain ⟨its, fp, St, rv, Dr, hst, hef, hif, hback⟩ := drw X hP hw hK hc i pins s σ H xs I st.2 st.1 hq
    subst hP hw
    have hl := rv.length
    have hi : i = its.toArray.size := by rw [List.size_toArray]; omega
    subst hi
    exact (WalksT.enumerateD Dr e hei hef hif).done s _ _ ⟨st.1, hst⟩ fun h' tk hk => ⟨rfl, I.walked hk hf⟩
  self := fun A i s Q E st h => by
    obtain ⟨⟨old, he⟩, _⟩ := st
    exact wpAny_pyIter_enum he h
theorem ne_cls {h : Heap} {a b : Addr} {o u : Obj} (ha : h.get? a = some o) (hb : h.get? b = some u) (hc : o.cls ≠ u.cls) : a ≠ b := fun e => by
  subst e; rw [ha] at hb; cases hb; exact hc rfl
theorem turn_enumT {P : Program} {w : World} {K : PySem.W.Frag} {elts : List Expr} {k : Nat} {tp : Pos} {e it a : Addr} (hei : e ≠ it) :
    Turn P w K (.Tuple elts k tp) (Ien fun H xs => SqT K H a xs) [e, it] e (fun i h => (∃ old, IsEnum h e it i old) ∧ h.IsTupleIter it a i) := by
  refine enum_turn (l := a) hei (fun i h st => ?_) (fun i h h' st k => st.at k) (fun X hP hw hK hc i pins s σ H xs I st he hq => ?_) (fun X hK pins s σ H xs ys I h1 h2 => ?_)
  · obtain ⟨o, e, c, d⟩ := st
    exact ⟨o, e, fun v z => by rw [d] at z; cases z⟩
  · subst hP hw hK
    obtain ⟨its, rv, p, hz⟩ := I.tuple hq
    obtain ⟨old, he⟩ := he
    obtain ⟨ol, hol, hcl, _⟩ := id p
    obtain ⟨oi, hoi, hci, _⟩ := id st
    have h1 : a ≠ it := ne_cls hol hoi (by rw [hcl, hci]; decide)
    have h2 : e ≠ a := ne_cls he hol (by rw [hcl]; show Value.type "enumerate" ≠ Value.type "tuple"; decide)
    exact ⟨its, [it, a], _, rv, draws_tuple (A := X.A.in1) (I.ok.hd hc) it a h1 its.toArray, ⟨st, p⟩, by simp [hei, h2], by simp, fun j h z => z.1⟩
  · subst hK
    exact I.tuple_inj h1 h2
section
variable {X : Cx} {elts : List Expr} {k : Nat} {tp : Pos}
def iEnT (K : PySem.W.Frag) (ta : TA) : TI := fun σ H R => ta σ H fun vs H1 => ∃ a, vs = [.ref a] ∧ (∃ xs, SqT K H1 a xs) ∧ R (Ien fun H xs => SqT K H a xs) H1
theorem pi_enumT {l : Expr} {ta : TA} {p pos : Pos} (hg : Gl X "enumerate") (hm : X.mg "enumerate" = none) (ha : PA X [l] ta) (hs : starEach [l] X.env = [(false, eval l X.env)] := by rfl) :
    PI X (.Tuple elts k tp) (.Call (.Name "enumerate" p) [l] [] pos) (iEnT X.K ta) := by
  intro pins s σ H R I h
  refine Call_ (ld_blt I hg hm boot_enumerate (PyProof.Rows.callWith_type1 (thn (ha pos pins s σ H _ I h) fun us s1 ⟨vs, H1, I1, r1, q1⟩ => ?_) hs rfl))
  obtain ⟨a, rfl, ⟨xs, hq⟩, q⟩ := q1
  obtain ⟨u, rfl, ru⟩ := r1.one
  cases ru
  obtain ⟨its, rv, pl, hz⟩ := I1.tuple hq
  refine call_enumerate_tuple pl fun h' he hit hsz hk => wpAny_pyIter_enum he ?_
  have I2 : Inv X pins σ H1 { s1 with heap := h' } := I1.kept (t' := s1.toks) hk
  refine ⟨s1.heap.objs.size + 1, [s1.heap.objs.size + 1, s1.heap.objs.size], _, _, H1, rfl, I2, turn_enumT (Nat.succ_ne_self _), ⟨⟨_, he⟩, hit⟩, fun b hb => ?_, q⟩
  have e : s1.heap.objs.size ≤ b := by
    rcases List.mem_cons.mp hb with rfl | hb
    · exact Nat.le_succ _
    · rw [List.mem_singleton.mp hb]; exact Nat.le_refl _
  exact I1.fpOk e (I1.hok.fresh e)
end
theorem turns_by {J : It} {D : Addr} {g : TG} {tc : TT} {te : TE} {R : Hp → Prop} {τ : St} {H : Hp} (n : Nat) (Pv : Nat → St → Hp → Prop) (h0 : Pv 0 τ H) (hgo : ∀ i τ H, i < n → Pv i τ H → J.go i H) (hstop : ∀ τ H, Pv n τ H → J.stop n H)
    (hs : ∀ i τ H x H', i < n → Pv i τ H → J.yld i H x H' → g x τ H' fun τ2 H2 => tc τ2 H2 fun b H3 => if b = true then te τ2 H3 fun v H4 => ∃ ys, H4 D = some (.lst ys) ∧ ys.length < sizeLine ∧ Pv (i + 1) τ2 (upd H4 D (.lst (ys ++ [v]))) else Pv (i + 1) τ2 H3)
    (hd : ∀ τ H, Pv n τ H → R H) : tTurns J D g tc te R τ H := by
  refine ⟨fun i m τ H => m = n - i ∧ i ≤ n ∧ Pv i τ H, ⟨n, by simp, Nat.zero_le _, h0⟩, ?_⟩
  rintro i m τ H ⟨rfl, hi, p⟩
  by_cases hlt : i < n
  · exact .inr ⟨hgo i τ H hlt p, Pv (i + 1), fun τ' H' p' => ⟨n - (i + 1), by omega, rfl, hlt, p'⟩, fun x H' y => hs i τ H x H' hlt p y⟩
  · have e : i = n := by omega
    subst e
    exact .inl ⟨hstop τ H p, hd τ H p⟩
section
variable {prog : Program} {w : World} {A : Around} {E : Value → Shared → Prop} {s : Shared}
theorem collect_tuple {l : Addr} {vs : List Value} {Q : List Value → Shared → Prop} (hl : s.heap.IsTuple l vs.toArray)
    (h : Q vs { s with heap := (s.heap.push (seqObj "list" #[] 0)).update s.heap.objs.size (Obj.mapSeq (· ++ vs.toArray)) }) (hsz : vs.length ≤ sizeLine := by size_fits) :
    wpAny (model prog w) A (collect (.ref l)) Q E s := by
  obtain ⟨o, ho, hc, n, hd⟩ := id hl
  unfold collect
  refine wpAny_bind (wpAny_runValue (codeAny_builtin entry_proto_collect' ?_))
  show wpAny _ _ (do again (.builtin "list.__iadd__" ⟨[← newList [], .ref l], []⟩)) _ _ s
  refine wpAny_bind (wpAny_newList (wpAny_pure ⟨Code.quiet_builtin _ (by decide +kernel), codeAny_builtin entry_list_iadd' ?_⟩))
  show wpAny _ _ (Builtin.List.listExtendWith (.ref s.heap.objs.size) (.ref l) (.ref s.heap.objs.size)) _ _ { s with heap := s.heap.push (seqObj "list" #[] 0) }
  unfold Builtin.List.listExtendWith
  have ho' : (s.heap.push (seqObj "list" #[] 0)).get? l = some o := Heap.get?_push_of_some _ ho
  refine wpAny_bind (wpAny_typeOf (T := "tuple") ⟨o, ho', hc⟩ ?_)
  have ht : (Value.type "tuple" == Value.type "tuple") = true := by rfl
  rw [if_pos (by rw [ht]; simp)]
  refine wpAny_bind (listItems_at ho' hd ?_)
  refine wpAny_bind (listItems_at (xs := #[]) (n := 0) (Heap.get?_push_size _ rfl) rfl ?_)
  rw [if_neg (by simp)]
  refine wpAny_bind (listUpdate_at (xs := #[]) (n := 0) (Heap.get?_push_size _ rfl) rfl ?_ (Nat.zero_le _) (by show (#[] ++ vs.toArray).size ≤ sizeLine + 1; simp only [Array.size_append, List.size_toArray, List.length_nil]; omega))
  refine wpAny_pure ?_
  show wpAny (model prog w) A (do
      let o ← load s.heap.objs.size
      match o.data with
      | .seq xs _ => pure xs.toList
      | _ => unsupported "internal:collect") Q E { s with heap := (s.heap.push (seqObj "list" #[] 0)).update s.heap.objs.size (Obj.mapSeq (· ++ vs.toArray)) }
  refine wpAny_bind (wpAny_load (get?_update_seq (Heap.get?_push_size _ rfl) _) ?_)
  show wpAny _ _ (pure ((#[] : Array Value) ++ vs.toArray).toList) Q E _
  rw [show ((#[] : Array Value) ++ vs.toArray).toList = vs by simp]
  exact wpAny_pure h
theorem sorted_tuple {l : Addr} {vs : List Value} {ns : List Int} {Q : Value → Shared → Prop} (hl : s.heap.IsTuple l vs.toArray) (hI : IntsAre vs ns) (h64 : vs.length < 64)
    (h : ∀ (out : Array Value) (ns' : List Int), IntsAre out.toList ns' → ns'.Perm ns → ns'.Pairwise (· ≤ ·) → Q (.ref (s.heap.objs.size + 1)) { s with heap := sortedAll s.heap vs out }) :
    wpAny (model prog w) A (call (.builtin "sorted") [.ref l]) Q E s := by
  refine Calls.call_function_entry kind_sorted plain_sorted entry_sorted (args_sorted1 _) ?_
  unfold Builtin.«sorted»
  refine wpAny_bind (m := checkCount "sorted" 1 1 _) (wpAny_pure ?_)
  refine wpAny_bind (collect_tuple hl ?_ (by have : (64 : Nat) ≤ sizeLine := by decide
                                             omega))
  refine wpAny_bind (wpAny_newList ?_)
  have hsz : ((s.heap.push (seqObj "list" #[] 0)).update s.heap.objs.size (Obj.mapSeq (· ++ vs.toArray))).objs.size = s.heap.objs.size + 1 := by
    rw [Heap.size_update, size_push']
  have hoL : (((s.heap.push (seqObj "list" #[] 0)).update s.heap.objs.size (Obj.mapSeq (· ++ vs.toArray))).push (seqObj "list" vs.toArray 0)).get? (s.heap.objs.size + 1) = some (seqObj "list" vs.toArray 0) := by
    rw [← hsz]; exact Heap.get?_push_size _ rfl
  show wpAny _ _ _ _ _ { s with heap := ((s.heap.push (seqObj "list" #[] 0)).update s.heap.objs.size (Obj.mapSeq (· ++ vs.toArray))).push (seqObj "list" vs.toArray 0) }
  rw [hsz]
  refine wpAny_bind (wpAny_holding (wpAny_call_entry slot_list_sort ⟨_, hoL, rfl⟩ entry_list_sort (list_sort_tree hoL hI h64 fun out ns' a1 a2 a3 => ⟨_, rfl, ?_⟩) (args_list_sort _)))
  exact wpAny_pure ⟨_, rfl, h out ns' a1 a2 a3⟩
end
section
variable {X : Cx}
def rSorted (K : PySem.W.Frag) : List V → Hp → VK → Prop := fun xs H Q => ∃ (p : Addr) (ns : List Int), xs = [.ref p] ∧ (SqL K H p (ns.map V.int) ∨ SqT K H p (ns.map V.int)) ∧ ns.length < 64 ∧ ∀ (l : Addr) (ms : List Int), H l = none → ms.Perm ns → ms.Pairwise (· ≤ ·) → Q (.ref l) (upd H l (.lst (ms.map V.int)))
theorem vals_intsAre : ∀ {us : List Value} {ns : List Int}, IntsAre us ns → Vals (ns.map V.int) us
  | _, _, .nil => .nil
  | _, _, .cons n t r => .cons ⟨t, rfl⟩ (vals_intsAre r)
theorem call_sorted : CallR X (.builtin "sorted") (rSorted X.K) := by
  intro pins s σ H xs us Q I r h
  obtain ⟨p, ns, rfl, hq, h64, q⟩ := h
  obtain ⟨u, rfl, ru⟩ := r.one
  cases ru
  have fin : ∀ (its : List Value) (out : Array Value) (ms : List Int), IntsAre out.toList ms → ms.Perm ns → ms.Pairwise (· ≤ ·) → EP X pins σ Q (.ref (s.heap.objs.size + 1)) { s with heap := sortedAll s.heap its out } := fun its out ms a1 a2 a3 => by
    obtain ⟨e, he⟩ := sortedAll_at s.heap its out
    have hn : H (s.heap.objs.size + 1) = none := I.hok.fresh (Nat.le_succ _)
    have hv := vals_intsAre a1
    have hms : ms.length = ns.length := a2.length_eq
    refine ⟨.ref (s.heap.objs.size + 1), _, I.laid (a := s.heap.objs.size + 1) (o := .lst (ms.map V.int)) (t' := s.toks) (fun b o => sortedAll_old) (Nat.le_succ _) ⟨?_, out.toList, e, hv, ?_⟩, rfl, q _ ms hn a2 a3⟩
    · rw [List.length_map, hms]
      exact Nat.le_trans (Nat.le_of_lt h64) (by decide)
    · rw [Array.toArray_toList]
      exact he
  rcases hq with hq | hq
  · obtain ⟨its, rv, pl, hz⟩ := I.list hq
    have hl := rv.length
    rw [List.length_map] at hl
    exact sorted_ints pl.isList (intsAre_of rv) (by omega) fun out ms a1 a2 a3 => fin its out ms a1 a2 a3
  · obtain ⟨its, rv, pl, hz⟩ := I.tuple hq
    have hl := rv.length
    rw [List.length_map] at hl
    exact sorted_tuple pl (intsAre_of rv) (by omega) fun out ms a1 a2 a3 => fin its out ms a1 a2 a3
theorem min_pair (hc : X.calm = true) : CallR X (.builtin "min") (fun xs H Q => ∃ p a b, xs = [.ref p] ∧ SqT X.K H p [.int a, .int b] ∧ Q (.int (if b < a then b else a)) H) := by
  intro pins s σ H xs us Q I r h
  obtain ⟨p, a, b, rfl, hq, q⟩ := h
  obtain ⟨u0, rfl, ru⟩ := r.one
  cases ru
  obtain ⟨its, rv, pl, hz⟩ := I.tuple hq
  obtain ⟨u1, u2, rfl, ⟨t, rfl⟩, ⟨u, rfl⟩⟩ := rv.two
  have hT : s.heap.IsTuple p (intItems #[(a, t), (b, u)]) := by
    have e : (intItems #[(a, t), (b, u)]) = [Value.int a t, Value.int b u].toArray := by simp [intItems]
    rw [e]; exact pl
  have hlt : p < s.heap.objs.size := by obtain ⟨_, e, _⟩ := hT; exact Heap.lt_size e
  refine call_min_walk (wpAny_pyIter_tuple hT ?_)
  refine ⟨_, [_, p], [_], _, _, _, _, rfl, Walks.tuple (A := X.A.in1) (I.ok.hd hc) _ p (Nat.ne_of_lt hlt) (intItems #[(a, t), (b, u)]),
    ⟨⟨_, Heap.get?_push_size _ rfl, rfl, rfl⟩, hT.push _⟩, fun c hc => ?_, by simp [intItems], CmpOf.ints_lt (numAt #[(a, t), (b, u)]) (fun _ _ => intItems_at), fun v h' tk hP hk => ?_⟩
  · show c < (s.heap.push _).objs.size
    rw [Heap.size_push]
    rcases List.mem_cons.mp hc with rfl | hc
    · exact Nat.lt_succ_self _
    · rcases List.mem_cons.mp hc with rfl | hc
      · exact Nat.lt_succ_of_lt hlt
      · cases hc
  · have hold : ∀ c o, s.heap.get? c = some o → h'.get? c = some o := fun c o e => by
      refine hk c o (fun hm => ?_) (Heap.get?_push_of_some _ e)
      rcases List.mem_cons.mp hm with e1 | hm
      · have := Heap.lt_size e; rw [e1] at this; exact Nat.lt_irrefl _ this
      · cases hm
    have hv : v = if b < a then Value.int b u else Value.int a t := by
      have hP' : (intItems #[(a, t), (b, u)])[argBest (fun i j => decide (numAt #[(a, t), (b, u)] i < numAt #[(a, t), (b, u)] j)) 1]? = some v := by
        have hsz2 : (intItems #[(a, t), (b, u)]).size - 1 = 1 := by simp [intItems]
        rw [← hsz2]; exact hP
      by_cases hba : b < a
      · have e : argBest (fun i j => decide (numAt #[(a, t), (b, u)] i < numAt #[(a, t), (b, u)] j)) 1 = 1 := by simp [argBest, numAt, hba]
        rw [e] at hP'
        simpa [intItems, hba] using hP'.symm
      · have e : argBest (fun i j => decide (numAt #[(a, t), (b, u)] i < numAt #[(a, t), (b, u)] j)) 1 = 0 := by simp [argBest, numAt, hba]
        rw [e] at hP'
        simpa [intItems, hba] using hP'.symm
    refine ⟨_, H, I.kept hold, ?_, q⟩
    rw [hv]
    by_cases hj : b < a
    · rw [if_pos hj, if_pos hj]; exact ⟨_, rfl⟩
    · rw [if_neg hj, if_neg hj]; exact ⟨_, rfl⟩
theorem max_pair (hc : X.calm = true) : CallR X (.builtin "max") (fun xs H Q => ∃ p a b, xs = [.ref p] ∧ SqT X.K H p [.int a, .int b] ∧ Q (.int (if b > a then b else a)) H) := by
  intro pins s σ H xs us Q I r h
  obtain ⟨p, a, b, rfl, hq, q⟩ := h
  obtain ⟨u0, rfl, ru⟩ := r.one
  cases ru
  obtain ⟨its, rv, pl, hz⟩ := I.tuple hq
  obtain ⟨u1, u2, rfl, ⟨t, rfl⟩, ⟨u, rfl⟩⟩ := rv.two
  have hT : s.heap.IsTuple p (intItems #[(a, t), (b, u)]) := by
    have e : (intItems #[(a, t), (b, u)]) = [Value.int a t, Value.int b u].toArray := by simp [intItems]
    rw [e]; exact pl
  have hlt : p < s.heap.objs.size := by obtain ⟨_, e, _⟩ := hT; exact Heap.lt_size e
  refine call_max_walk (wpAny_pyIter_tuple hT ?_)
  refine ⟨_, [_, p], [_], _, _, _, _, rfl, Walks.tuple (A := X.A.in1) (I.ok.hd hc) _ p (Nat.ne_of_lt hlt) (intItems #[(a, t), (b, u)]),
    ⟨⟨_, Heap.get?_push_size _ rfl, rfl, rfl⟩, hT.push _⟩, fun c hc => ?_, by simp [intItems], CmpOf.ints_gt (numAt #[(a, t), (b, u)]) (fun _ _ => intItems_at), fun v h' tk hP hk => ?_⟩
  · show c < (s.heap.push _).objs.size
    rw [Heap.size_push]
    rcases List.mem_cons.mp hc with rfl | hc
    · exact Nat.lt_succ_self _
    · rcases List.mem_cons.mp hc with rfl | hc
      · exact Nat.lt_succ_of_lt hlt
      · cases hc
  · have hold : ∀ c o, s.heap.get? c = some o → h'.get? c = some o := fun c o e => by
      refine hk c o (fun hm => ?_) (Heap.get?_push_of_some _ e)
      rcases List.mem_cons.mp hm with e1 | hm
      · have := Heap.lt_size e; rw [e1] at this; exact Nat.lt_irrefl _ this
      · cases hm
    have hv : v = if b > a then Value.int b u else Value.int a t := by
      have hP' : (intItems #[(a, t), (b, u)])[argBest (fun i j => decide (numAt #[(a, t), (b, u)] i > numAt #[(a, t), (b, u)] j)) 1]? = some v := by
        have hsz2 : (intItems #[(a, t), (b, u)]).size - 1 = 1 := by simp [intItems]
        rw [← hsz2]; exact hP
      by_cases hba : b > a
      · have e : argBest (fun i j => decide (numAt #[(a, t), (b, u)] i > numAt #[(a, t), (b, u)] j)) 1 = 1 := by simp [argBest, numAt, hba]
        rw [e] at hP'
        simpa [intItems, hba] using hP'.symm
      · have e : argBest (fun i j => decide (numAt #[(a, t), (b, u)] i > numAt #[(a, t), (b, u)] j)) 1 = 0 := by simp [argBest, numAt, hba]
        rw [e] at hP'
        simpa [intItems, hba] using hP'.symm
    refine ⟨_, H, I.kept hold, ?_, q⟩
    rw [hv]
    by_cases hj : b > a
    · rw [if_pos hj, if_pos hj]; exact ⟨_, rfl⟩
    · rw [if_neg hj, if_neg hj]; exact ⟨_, rfl⟩
end
end L2
end
section
namespace L2
open PySem PySem.Spec PyProof.Rows
abbrev Rep (α : Type) := Hp → α → V → Prop
def rInt : Rep Int := fun _ i v => v = .int i
def rTup (K : PySem.W.Frag) {α : Type} (R : Rep α) : Rep (List α) := fun H as v => ∃ p xs, v = .ref p ∧ SqT K H p xs ∧ Paired (R H) as xs
def rLst (K : PySem.W.Frag) {α : Type} (R : Rep α) : Rep (List α) := fun H as v => ∃ p xs, v = .ref p ∧ SqL K H p xs ∧ Paired (R H) as xs
theorem Paired.get {α β : Type} {F : α → β → Prop} : ∀ {l₁ : List α} {l₂ : List β} {i : Nat} {b : β}, Paired F l₁ l₂ → l₂[i]? = some b → ∃ a, l₁[i]? = some a ∧ F a b
  | _, _, _, _, .nil, e => by simp at e
  | _, _, 0, _, .cons r _, e => by simp at e; subst e; exact ⟨_, rfl, r⟩
  | _, _, i + 1, b, .cons _ t, e => by
    obtain ⟨a, h1, h2⟩ := Paired.get (i := i) (b := b) t (by simpa using e)
    exact ⟨a, by simpa using h1, h2⟩
theorem Paired.getL {α β : Type} {F : α → β → Prop} : ∀ {l₁ : List α} {l₂ : List β} {i : Nat} {a : α}, Paired F l₁ l₂ → l₁[i]? = some a → ∃ b, l₂[i]? = some b ∧ F a b
  | _, _, _, _, .nil, e => by simp at e
  | _, _, 0, _, .cons r _, e => by simp at e; subst e; exact ⟨_, rfl, r⟩
  | _, _, i + 1, a, .cons _ t, e => by
    obtain ⟨b, h1, h2⟩ := Paired.getL (i := i) (a := a) t (by simpa using e)
    exact ⟨b, by simpa using h1, h2⟩
theorem Paired.app {α β : Type} {F : α → β → Prop} : ∀ {l₁ m₁ : List α} {l₂ m₂ : List β}, Paired F l₁ l₂ → Paired F m₁ m₂ → Paired F (l₁ ++ m₁) (l₂ ++ m₂)
  | _, _, _, _, .nil, s => s
  | _, _, _, _, .cons r t, s => .cons r (Paired.app t s)
theorem Paired.one {α β : Type} {F : α → β → Prop} {a : α} {b : β} (h : F a b) : Paired F [a] [b] := .cons h .nil
theorem Paired.uniq {α β : Type} {F : α → β → Prop} (fn : ∀ a a' b, F a b → F a' b → a = a') : ∀ {l₁ l₁' : List α} {l₂ : List β}, Paired F l₁ l₂ → Paired F l₁' l₂ → l₁ = l₁'
  | _, _, _, .nil, .nil => rfl
  | _, _, _, .cons r t, .cons r' t' => by rw [fn _ _ _ r r', Paired.uniq fn t t']
theorem paired_ints {H : Hp} : ∀ (ns : List Int), Paired (rInt H) ns (ns.map V.int)
  | [] => .nil
  | _ :: r => .cons rfl (paired_ints r)
theorem ints_paired {H : Hp} : ∀ {ns : List Int} {xs : List V}, Paired (rInt H) ns xs → xs = ns.map V.int
  | _, _, .nil => rfl
  | _, _, .cons r t => by rw [List.map_cons, ← ints_paired t]; exact congrArg (· :: _) r
structure Dat (X : Cx) {α : Type} [DecidableEq α] (n : Nat) (R : Rep α) : Prop where
  eq : ∀ (pins : List (Addr × Obj)) (s : Shared) (σ : St) (H : Hp) (A : Around) (a b : α) (x y : V) (u v : Value), Inv X pins σ H s → A.units + n < cLine → R H a x → R H b y → RelV x u → RelV y v → SeqAt.EqAt A s u v (decide (a = b))
  fn : ∀ (pins : List (Addr × Obj)) (s : Shared) (σ : St) (H : Hp) (a b : α) (x : V), Inv X pins σ H s → R H a x → R H b x → a = b
section
variable {X : Cx} {α : Type} [DecidableEq α] {n : Nat} {R : Rep α}
theorem dat_int : Dat X 0 rInt where
  eq := fun pins s σ H A a b x y u v I hu ha hb ru rv => by
    cases ha; cases hb
    obtain ⟨t, rfl⟩ := ru
    obtain ⟨t', rfl⟩ := rv
    have e := SeqAt.EqAt.int_int (A := A) (s := s) a t b t'
    rw [Bool.beq_eq_decide_eq] at e
    exact e
  fn := fun pins s σ H a b x I ha hb => by
    cases ha
    exact (V.int.inj hb)
theorem all_places {as bs : List α} {m k : Nat} (h1 : as.length = m) (h2 : bs.length = k) : ((List.range (min m k)).all (fun j => decide (as[j]? = bs[j]?)) && m == k) = decide (as = bs) := by
  subst h1; subst h2
  by_cases e : as = bs
  · subst e
    simp
  · rw [decide_eq_false e]
    cases q : ((List.range (min as.length bs.length)).all (fun j => decide (as[j]? = bs[j]?)) && as.length == bs.length) with
    | false => rfl
    | true =>
      rw [Bool.and_eq_true] at q
      obtain ⟨q1, q2⟩ := q
      have hl : as.length = bs.length := by simpa using q2
      refine absurd (List.ext_getElem? fun j => ?_) e
      by_cases hj : j < as.length
      · exact of_decide_eq_true (List.all_eq_true.mp q1 j (List.mem_range.mpr (by omega)))
      · rw [List.getElem?_eq_none (by omega), List.getElem?_eq_none (by omega)]
theorem all_places' {as bs : List α} {m : Nat} (h1 : as.length = m) (h2 : bs.length = m) : ((List.range m).all (fun j => decide (as[j]? = bs[j]?))) = decide (as = bs) := by
  have e := all_places h1 h2
  rw [Nat.min_self, beq_self_eq_true, Bool.and_true] at e
  exact e
theorem Dat.place (D : Dat X n R) {pins : List (Addr × Obj)} {s : Shared} {σ : St} {H : Hp} {A : Around} (I : Inv X pins σ H s) (hu : A.units + n < cLine) {as bs : List α} {xs ys : List V} {its jts : List Value}
    (pa : Paired (R H) as xs) (pb : Paired (R H) bs ys) (ra : Vals xs its) (rb : Vals ys jts) : ∀ (j : Nat) (h1 : j < its.toArray.size) (h2 : j < jts.toArray.size), SeqAt.EqAt A s its.toArray[j] jts.toArray[j] (decide (as[j]? = bs[j]?)) := by
  intro j h1 h2
  rw [List.size_toArray] at h1 h2
  have hx : j < xs.length := by rw [ra.length]; exact h1
  have hy : j < ys.length := by rw [rb.length]; exact h2
  have ex : xs[j]? = some xs[j] := List.getElem?_eq_getElem hx
  have ey : ys[j]? = some ys[j] := List.getElem?_eq_getElem hy
  obtain ⟨u, hu1, ru⟩ := ra.get ex
  obtain ⟨v, hv1, rv⟩ := rb.get ey
  obtain ⟨a, ha, qa⟩ := Paired.get pa ex
  obtain ⟨b, hb, qb⟩ := Paired.get pb ey
  have e1 : its.toArray[j] = u := by
    rw [List.getElem_toArray]
    rw [List.getElem?_eq_getElem h1] at hu1
    exact Option.some.inj hu1
  have e2 : jts.toArray[j] = v := by
    rw [List.getElem_toArray]
    rw [List.getElem?_eq_getElem h2] at hv1
    exact Option.some.inj hv1
  rw [e1, e2, ha, hb]
  have e3 : decide (some a = some b) = decide (a = b) := by simp
  rw [e3]
  exact D.eq pins s σ H A a b _ _ u v I hu qa qb ru rv
theorem dat_tup (D : Dat X n R) : Dat X (n + 1) (rTup X.K R) where
  eq := fun pins s σ H A as bs x y u v I hu ha hb ru rv => by
    obtain ⟨p, xs, rfl, hp, pa⟩ := ha
    obtain ⟨q, ys, rfl, hq, pb⟩ := hb
    cases ru; cases rv
    by_cases e : p = q
    · subst e
      have exy := I.tuple_inj hp hq
      subst exy
      have eab : as = bs := Paired.uniq (fun a a' b h1 h2 => D.fn pins s σ H a a' b I h1 h2) pa pb
      subst eab
      rw [decide_eq_true rfl]
      exact SeqAt.EqAt.same _
    · obtain ⟨its, ra, ta, _⟩ := I.tuple hp
      obtain ⟨jts, rb, tb, _⟩ := I.tuple hq
      have l1 : as.length = its.toArray.size := by rw [List.size_toArray, ← ra.length]; exact Paired.length pa
      have l2 : bs.length = jts.toArray.size := by rw [List.size_toArray, ← rb.length]; exact Paired.length pb
      have r := SeqAt.RcAt.tuples (A := A) (s := s) (e := fun j => decide (as[j]? = bs[j]?)) ta tb (by omega) (D.place (A := A.in1) I (by show A.units + 1 + n < cLine; omega) pa pb ra rb)
      rw [all_places l1 l2] at r
      exact .of_refs e r
  fn := fun pins s σ H as bs x I ha hb => by
    obtain ⟨p, xs, rfl, hp, pa⟩ := ha
    obtain ⟨q, ys, e, hq, pb⟩ := hb
    cases e
    have exy := I.tuple_inj hp hq
    subst exy
    exact Paired.uniq (fun a a' b h1 h2 => D.fn pins s σ H a a' b I h1 h2) pa pb
theorem rc_lists (D : Dat X n R) {pins : List (Addr × Obj)} {s : Shared} {σ : St} {H : Hp} {A : Around} (I : Inv X pins σ H s) (hu : A.units + (n + 1) < cLine) {p q : Addr} {as bs : List α} {xs ys : List V}
    (hp : SqL X.K H p xs) (hq : SqL X.K H q ys) (pa : Paired (R H) as xs) (pb : Paired (R H) bs ys) : SeqAt.RcAt A s (.ref p) (.ref q) (decide (as = bs)) ∧ SeqAt.RcNeAt A s (.ref p) (.ref q) (!decide (as = bs)) := by
  obtain ⟨its, ra, ta, _⟩ := I.list hp
  obtain ⟨jts, rb, tb, _⟩ := I.list hq
  have l1 : as.length = its.toArray.size := by rw [List.size_toArray, ← ra.length]; exact Paired.length pa
  have l2 : bs.length = jts.toArray.size := by rw [List.size_toArray, ← rb.length]; exact Paired.length pb
  by_cases hs : its.toArray.size = jts.toArray.size
  · have r := SeqAt.RcAt.lists (A := A) (s := s) (e := fun j => decide (as[j]? = bs[j]?)) ta.isList tb.isList hs (by omega) (D.place (A := A.in1) I (by show A.units + 1 + n < cLine; omega) pa pb ra rb)
    have r' := SeqAt.RcNeAt.lists (A := A) (s := s) (e := fun j => decide (as[j]? = bs[j]?)) ta.isList tb.isList hs (by omega) (D.place (A := A.in1) I (by show A.units + 1 + n < cLine; omega) pa pb ra rb)
    rw [all_places' l1 (l2.trans hs.symm)] at r r'
    exact ⟨r, r'⟩
  · have hb : (its.toArray.size != jts.toArray.size) = true := by simpa using hs
    have e : as ≠ bs := fun e => hs (by rw [← l1, ← l2, e])
    rw [decide_eq_false e]
    exact ⟨SeqAt.RcAt.lists_lengths ta.isList tb.isList hb (by omega), SeqAt.RcNeAt.lists_lengths ta.isList tb.isList hb (by omega)⟩
theorem dat_lst (D : Dat X n R) : Dat X (n + 1) (rLst X.K R) where
  eq := fun pins s σ H A as bs x y u v I hu ha hb ru rv => by
    obtain ⟨p, xs, rfl, hp, pa⟩ := ha
    obtain ⟨q, ys, rfl, hq, pb⟩ := hb
    cases ru; cases rv
    by_cases e : p = q
    · subst e
      have exy := I.list_inj hp hq
      subst exy
      have eab : as = bs := Paired.uniq (fun a a' b h1 h2 => D.fn pins s σ H a a' b I h1 h2) pa pb
      subst eab
      rw [decide_eq_true rfl]
      exact SeqAt.EqAt.same _
    · exact .of_refs e (rc_lists D I hu hp hq pa pb).1
  fn := fun pins s σ H as bs x I ha hb => by
    obtain ⟨p, xs, rfl, hp, pa⟩ := ha
    obtain ⟨q, ys, e, hq, pb⟩ := hb
    cases e
    have exy := I.list_inj hp hq
    subst exy
    exact Paired.uniq (fun a a' b h1 h2 => D.fn pins s σ H a a' b I h1 h2) pa pb
def rEqL (K : PySem.W.Frag) {α : Type} [DecidableEq α] (R : Rep α) : R2 := fun x y H Q => ∃ as bs, rLst K R H as x ∧ rLst K R H bs y ∧ Q (.bl (decide (as = bs))) H
def rNeL (K : PySem.W.Frag) {α : Type} [DecidableEq α] (R : Rep α) : R2 := fun x y H Q => ∃ as bs, rLst K R H as x ∧ rLst K R H bs y ∧ Q (.bl (!decide (as = bs))) H
theorem op_eqL (D : Dat X n R) (hu : X.A.units + (n + 1) < cLine) : OpR X (compareOp .Eq) (rEqL X.K R) := by
  intro pins s σ H x y v u Q I rx ry h
  obtain ⟨as, bs, ⟨p, xs, rfl, hp, pa⟩, ⟨q, ys, rfl, hq, pb⟩, h⟩ := h
  cases rx; cases ry
  exact (rc_lists D I hu hp hq pa pb).1 X.prog X.w _ _ ⟨.bl _, H, I, rfl, h⟩
theorem op_neL (D : Dat X n R) (hu : X.A.units + (n + 1) < cLine) : OpR X (compareOp .NotEq) (rNeL X.K R) := by
  intro pins s σ H x y v u Q I rx ry h
  obtain ⟨as, bs, ⟨p, xs, rfl, hp, pa⟩, ⟨q, ys, rfl, hq, pb⟩, h⟩ := h
  cases rx; cases ry
  exact (rc_lists D I hu hp hq pa pb).2 X.prog X.w _ _ ⟨.bl _, H, I, rfl, h⟩
open Classical in
noncomputable def isDat (R : Rep α) (H : Hp) (a : α) (u : Value) : Bool := decide (∃ z, RelV z u ∧ R H a z)
theorem isDat_eq (D : Dat X n R) {pins : List (Addr × Obj)} {s : Shared} {σ : St} {H : Hp} (I : Inv X pins σ H s) {a b : α} {z : V} {u : Value} (rz : RelV z u) (hb : R H b z) : isDat R H a u = decide (b = a) := by
  unfold isDat
  by_cases e : b = a
  · subst e
    rw [decide_eq_true rfl]
    exact @decide_eq_true _ (Classical.propDecidable _) ⟨z, rz, hb⟩
  · rw [decide_eq_false e]
    refine @decide_eq_false _ (Classical.propDecidable _) ?_
    rintro ⟨z', rz', h'⟩
    have ez : z' = z := rz'.inj rz
    subst ez
    exact e (D.fn pins s σ H b a z' I hb h')
theorem any_dat (D : Dat X n R) {pins : List (Addr × Obj)} {s : Shared} {σ : St} {H : Hp} (I : Inv X pins σ H s) {a : α} : ∀ {as : List α} {xs : List V} {its : List Value}, Paired (R H) as xs → Vals xs its → its.any (isDat R H a) = decide (a ∈ as)
  | _, _, _, .nil, .nil => by simp
  | _, _, _, .cons (l₁ := as) r t, .cons rv tv => by
    rw [List.any_cons, isDat_eq D I rv r, any_dat D I t tv]
    rename_i b _ _ _ _
    by_cases e : b = a
    · subst e; simp
    · have e' : ¬ a = b := fun z => e z.symm
      simp [e, e']
theorem mem_dat (D : Dat X n R) {pins : List (Addr × Obj)} {s : Shared} {σ : St} {H : Hp} {A : Around} (I : Inv X pins σ H s) (hu : A.units + n < cLine) {a : α} {x : V} {v : Value} (rx : RelV x v) (ha : R H a x) :
    ∀ {as : List α} {xs : List V} {its : List Value}, Paired (R H) as xs → Vals xs its → ∀ u ∈ its, SeqAt.EqAt A s u v (isDat R H a u)
  | _, _, _, .nil, .nil => fun u hm => by cases hm
  | _, _, _, .cons r t, .cons rv tv => fun u hm => by
    rcases List.mem_cons.mp hm with rfl | hm
    · rw [isDat_eq D I rv r]
      exact D.eq pins s σ H A _ a _ x _ v I hu r ha rv rx
    · exact mem_dat D I hu rx ha t tv u hm
def rInL (K : PySem.W.Frag) {α : Type} [DecidableEq α] (R : Rep α) (neg : Bool) : R2 := fun x y H Q => ∃ a as, R H a x ∧ (rLst K R H as y ∨ rTup K R H as y) ∧ Q (.bl (if neg then !decide (a ∈ as) else decide (a ∈ as))) H
theorem op_inL (D : Dat X n R) (hu : X.A.units + (n + 1) < cLine) : OpR X (compareOp .In) (rInL X.K R false) := by
  intro pins s σ H x y v u Q I rx ry h
  obtain ⟨a, as, ha, hs, h⟩ := h
  have hu1 : X.A.in1.units + n < cLine := by show X.A.units + 1 + n < cLine; omega
  rcases hs with ⟨p, xs, rfl, hp, pa⟩ | ⟨p, xs, rfl, hp, pa⟩
  · cases ry
    obtain ⟨its, r, pl, _⟩ := I.list hp
    refine SeqAt.in_listAt (isDat R H a) pl.isList (fun w hw => mem_dat D I hu1 rx ha pa r w (by simpa using hw)) ⟨.bl _, H, I, rfl, ?_⟩
    rw [show its.toArray.any (isDat R H a) = its.any (isDat R H a) by simp, any_dat D I pa r]
    exact h
  · cases ry
    obtain ⟨its, r, pl, _⟩ := I.tuple hp
    refine SeqAt.in_tupleAt (isDat R H a) pl (fun w hw => mem_dat D I hu1 rx ha pa r w (by simpa using hw)) ⟨.bl _, H, I, rfl, ?_⟩
    rw [show its.toArray.any (isDat R H a) = its.any (isDat R H a) by simp, any_dat D I pa r]
    exact h
theorem op_notInL (D : Dat X n R) (hu : X.A.units + (n + 1) < cLine) : OpR X (compareOp .NotIn) (rInL X.K R true) := by
  intro pins s σ H x y v u Q I rx ry h
  obtain ⟨a, as, ha, hs, h⟩ := h
  have hu1 : X.A.in1.units + n < cLine := by show X.A.units + 1 + n < cLine; omega
  rcases hs with ⟨p, xs, rfl, hp, pa⟩ | ⟨p, xs, rfl, hp, pa⟩
  · cases ry
    obtain ⟨its, r, pl, _⟩ := I.list hp
    refine SeqAt.notIn_listAt (isDat R H a) pl.isList (fun w hw => mem_dat D I hu1 rx ha pa r w (by simpa using hw)) ⟨.bl _, H, I, rfl, ?_⟩
    rw [show its.toArray.any (isDat R H a) = its.any (isDat R H a) by simp, any_dat D I pa r]
    exact h
  · cases ry
    obtain ⟨its, r, pl, _⟩ := I.tuple hp
    refine SeqAt.notIn_tupleAt (isDat R H a) pl (fun w hw => mem_dat D I hu1 rx ha pa r w (by simpa using hw)) ⟨.bl _, H, I, rfl, ?_⟩
    rw [show its.toArray.any (isDat R H a) = its.any (isDat R H a) by simp, any_dat D I pa r]
    exact h
end
def TSm (H H' : Hp) : Prop := ∀ b u, H b = some u → (∃ xs, u = .tup xs ∨ ∃ o, u = .frz o (.tup xs)) → H' b = some u
theorem TSm.trans {H H1 H2 : Hp} (a : TSm H H1) (b : TSm H1 H2) : TSm H H2 := fun c u h t => b c u (a c u h t) t
theorem Same.ts {H H' : Hp} (e : Same H H') : TSm H H' := fun b u h _ => e b u h
theorem TSm.lst {H : Hp} {l : Addr} {xs : List V} {o : HO} (h : H l = some (.lst xs)) : TSm H (upd H l o) := fun b u hb t => by
  rw [upd_ne ?_]
  · exact hb
  · rintro rfl
    rw [h] at hb
    cases hb
    obtain ⟨ys, e | ⟨o, e⟩⟩ := t
    · cases e
    · cases e
theorem TSm.new {H : Hp} {p : Addr} {o : HO} (h : H p = none) : TSm H (upd H p o) := fun b u hb _ => by rw [upd_ne (ne_of_none hb h)]; exact hb
theorem TSm.seq {K : PySem.W.Frag} {H H' : Hp} {a : Addr} {xs : List V} (e : TSm H H') (h : SqT K H a xs) : SqT K H' a xs := by
  rcases h with (h | ⟨o, h⟩) | h
  · exact .inl (.inl (e _ _ h ⟨xs, .inl rfl⟩))
  · exact .inl (.inr ⟨o, e _ _ h ⟨xs, .inr ⟨o, rfl⟩⟩⟩)
  · exact .inr h
theorem Paired.imp {α β : Type} {F G : α → β → Prop} (f : ∀ a b, F a b → G a b) : ∀ {l₁ : List α} {l₂ : List β}, Paired F l₁ l₂ → Paired G l₁ l₂
  | _, _, .nil => .nil
  | _, _, .cons r t => .cons (f _ _ r) (Paired.imp f t)
def TRep {α : Type} (R : Rep α) : Prop := ∀ H H' a x, TSm H H' → R H a x → R H' a x
theorem trep_int : TRep rInt := fun _ _ _ _ _ h => h
theorem trep_tup {K : PySem.W.Frag} {α : Type} {R : Rep α} (t : TRep R) : TRep (rTup K R) := fun H H' as x e h => by
  obtain ⟨p, xs, rfl, hp, pa⟩ := h
  exact ⟨p, xs, rfl, e.seq hp, Paired.imp (fun a b => t H H' a b e) pa⟩
theorem rLst_same {K : PySem.W.Frag} {α : Type} {R : Rep α} (t : TRep R) {H H' : Hp} {as : List α} {x : V} (e : Same H H') (h : rLst K R H as x) : rLst K R H' as x := by
  obtain ⟨p, xs, rfl, hp, pa⟩ := h
  exact ⟨p, xs, rfl, e.seq hp, Paired.imp (fun a b => t H H' a b e.ts) pa⟩
theorem Same.new {H : Hp} {p : Addr} (h : H p = none) (o : HO) : Same H (upd H p o) := fun b u q => by rw [upd_ne (ne_of_none q h)]; exact q
abbrev rPair (K : PySem.W.Frag) : Rep (List Int) := rTup K rInt
theorem rPair_of {K : PySem.W.Frag} {H : Hp} {p : Addr} {ns : List Int} (h : H p = some (.tup (ns.map V.int))) : rPair K H ns (.ref p) := ⟨p, _, rfl, SqT.of h, paired_ints ns⟩
theorem rPair_seq {K : PySem.W.Frag} {H : Hp} {ns : List Int} {x : V} (h : rPair K H ns x) : ∃ p, x = .ref p ∧ SqT K H p (ns.map V.int) := by
  obtain ⟨p, xs, rfl, hp, pa⟩ := h
  rw [ints_paired pa] at hp
  exact ⟨p, rfl, hp⟩
def rSeq (K : PySem.W.Frag) : Rep (List Int) := fun H t x => rLst K rInt H t x ∨ rPair K H t x
theorem rSeq_seq {K : PySem.W.Frag} {H : Hp} {ns : List Int} {x : V} (h : rSeq K H ns x) : ∃ p, x = .ref p ∧ (SqL K H p (ns.map V.int) ∨ SqT K H p (ns.map V.int)) := by
  rcases h with ⟨p, xs, rfl, hp, pa⟩ | h
  · rw [ints_paired pa] at hp
    exact ⟨p, rfl, .inl hp⟩
  · obtain ⟨p, e, hp⟩ := rPair_seq h
    exact ⟨p, e, .inr hp⟩
end L2
end
section
namespace L2
open PySem PySem.Spec PyProof.Rows
section
variable {K : PySem.W.Frag} {a D : Addr} {xs : List V} {g : TG} {tc : TT} {te : TE} {R : Hp → Prop} {τ : St} {H : Hp}
abbrev putD (D : Addr) (N : St → Hp → Prop) (te : TE) (τ2 : St) : Bool → Hp → Prop := fun b H3 => if b = true then te τ2 H3 fun v H4 => ∃ ys, H4 D = some (.lst ys) ∧ ys.length < sizeLine ∧ N τ2 (upd H4 D (.lst (ys ++ [v]))) else N τ2 H3
theorem yesD {N : St → Hp → Prop} (h : te τ H fun v H4 => ∃ ys, H4 D = some (.lst ys) ∧ ys.length < sizeLine ∧ N τ (upd H4 D (.lst (ys ++ [v])))) : tYes τ H (putD D N te τ) := by
  show putD D N te τ true H
  unfold putD
  rw [if_pos rfl]
  exact h
theorem yesN {N : St → Hp → Prop} {i : Nat} {x : V} (h : te (τ.set i (some x)) H fun v H4 => ∃ ys, H4 D = some (.lst ys) ∧ ys.length < sizeLine ∧ N (τ.set i (some x)) (upd H4 D (.lst (ys ++ [v])))) : gName i x τ H fun τ2 H2 => tYes τ2 H2 (putD D N te τ2) := yesD h
theorem turns_list (Pv : Nat → St → Hp → Prop) (h0 : Pv 0 τ H) (hl : ∀ i τ H, i ≤ xs.length → Pv i τ H → SqL K H a xs)
    (hs : ∀ i x τ H, xs[i]? = some x → Pv i τ H → g x τ H fun τ2 H2 => tc τ2 H2 (putD D (Pv (i + 1)) te τ2)) (hd : ∀ τ H, Pv xs.length τ H → R H) : tTurns (Itl K a) D g tc te R τ H := by
  refine turns_by xs.length Pv h0 (fun i τ H hi p => ⟨xs, xs[i], hl i τ H (Nat.le_of_lt hi) p, by simp [hi]⟩) (fun τ H p => ⟨xs, hl _ τ H (Nat.le_refl _) p, Nat.le_refl _⟩) (fun i τ H x H' hi p y => ?_) hd
  obtain ⟨e, y⟩ := y
  subst e
  exact hs i x τ _ (y xs (hl i τ _ (Nat.le_of_lt hi) p)) p
theorem turns_tup (Pv : Nat → St → Hp → Prop) (h0 : Pv 0 τ H) (hl : ∀ i τ H, i ≤ xs.length → Pv i τ H → SqT K H a xs)
    (hs : ∀ i x τ H, xs[i]? = some x → Pv i τ H → g x τ H fun τ2 H2 => tc τ2 H2 (putD D (Pv (i + 1)) te τ2)) (hd : ∀ τ H, Pv xs.length τ H → R H) : tTurns (Itt K a) D g tc te R τ H := by
  refine turns_by xs.length Pv h0 (fun i τ H hi p => ⟨xs, xs[i], hl i τ H (Nat.le_of_lt hi) p, by simp [hi]⟩) (fun τ H p => ⟨xs, hl _ τ H (Nat.le_refl _) p, Nat.le_refl _⟩) (fun i τ H x H' hi p y => ?_) hd
  obtain ⟨e, y⟩ := y
  subst e
  exact hs i x τ _ (y xs (hl i τ _ (Nat.le_of_lt hi) p)) p
theorem turns_range {lo : Int} {n : Nat} (Pv : Nat → St → Hp → Prop) (h0 : Pv 0 τ H)
    (hs : ∀ i τ H, i < n → Pv i τ H → g (.int (lo + i)) τ H fun τ2 H2 => tc τ2 H2 (putD D (Pv (i + 1)) te τ2)) (hd : ∀ τ H, Pv n τ H → R H) : tTurns (Itr lo n) D g tc te R τ H := by
  refine turns_by n Pv h0 (fun i τ H hi p => hi) (fun τ H p => Nat.le_refl _) (fun i τ H x H' hi p y => ?_) hd
  obtain ⟨e, y⟩ := y
  subst e y
  exact hs i τ _ hi p
theorem turns_enum {S : Hp → List V → Prop} (Pv : Nat → St → Hp → Prop) (h0 : Pv 0 τ H) (hl : ∀ i τ H, i ≤ xs.length → Pv i τ H → S H xs)
    (hs : ∀ i x τ H T, xs[i]? = some x → H T = none → Pv i τ H → g (.ref T) τ (upd H T (.tup [.int i, x])) fun τ2 H2 => tc τ2 H2 (putD D (Pv (i + 1)) te τ2)) (hd : ∀ τ H, Pv xs.length τ H → R H) : tTurns (Ien S) D g tc te R τ H := by
  refine turns_by xs.length Pv h0 (fun i τ H hi p => ⟨xs, xs[i], hl i τ H (Nat.le_of_lt hi) p, by simp [hi]⟩) (fun τ H p => ⟨xs, hl _ τ H (Nat.le_refl _) p, rfl⟩) (fun i τ H x H' hi p y => ?_) hd
  obtain ⟨T, z, rfl, hT, rfl, y⟩ := y
  exact hs i z τ H T (y xs (hl i τ _ (Nat.le_of_lt hi) p)) hT p
end
theorem un_of {A : Around} {k n : Nat} (hr : Room k A) (h : n ≤ 64 := by decide) : A.units + n < cLine := Nat.lt_of_le_of_lt (Nat.add_le_add_left h _) hr.units
section
variable {X : Cx} {K : PySem.W.Frag} {pos : Pos}
theorem pg_tupK (hK : X.K = K) {es : List Expr} {k : Nat} {t : TGs} {n : Nat} (hc : X.calm = true) (h : PGs X es t)
    (hn : (assignEach es X.env).length = n := by rfl) (hst : (assignEach es X.env).findIdx? (·.1) = none := by rfl) : PG X (.Tuple es k pos) (gTup K n t) := by subst hK; exact pg_tup hc h hn hst
theorem op_in_seqK (hK : X.K = K) : OpR X (compareOp .In) (rIn K false) := by subst hK; exact op_in_seq
theorem call_len_seqK (hK : X.K = K) : CallR X (.builtin "len") (fun xs H Q => ∃ p ys, xs = [.ref p] ∧ (SqL K H p ys ∨ SqT K H p ys) ∧ Q (.int ys.length) H) := by subst hK; exact call_len_seq
theorem min_pairK (hK : X.K = K) (hc : X.calm = true) : CallR X (.builtin "min") (fun xs H Q => ∃ p a b, xs = [.ref p] ∧ SqT K H p [.int a, .int b] ∧ Q (.int (if b < a then b else a)) H) := by subst hK; exact min_pair hc
theorem max_pairK (hK : X.K = K) (hc : X.calm = true) : CallR X (.builtin "max") (fun xs H Q => ∃ p a b, xs = [.ref p] ∧ SqT K H p [.int a, .int b] ∧ Q (.int (if b > a then b else a)) H) := by subst hK; exact max_pair hc
theorem ix_listK (hK : X.K = K) : IxR X (rIxL K) := by subst hK; exact ix_list
theorem ix_tupK (hK : X.K = K) : IxR X (rIxT K) := by subst hK; exact ix_tup
end
theorem inV_ints (x : Int) : ∀ (tie : List Int), inV (.int x) (tie.map V.int) = decide (x ∈ tie)
  | [] => rfl
  | z :: r => by
    have ih := inV_ints x r
    unfold inV at ih ⊢
    rw [List.map_cons, List.any_cons, ih]
    show ((z == x) || decide (x ∈ r)) = decide (x ∈ z :: r)
    by_cases e : z = x
    · subst e; simp
    · have e' : ¬ x = z := fun q => e q.symm
      simp [e, e']
theorem iteNN {c A B : Prop} {inst : Decidable c} (hc : ¬ c) (h : A) : if (!decide c) = true then A else B := by
  rw [decide_eq_false hc]
  exact iteT h
theorem iteNP {c A B : Prop} {inst : Decidable c} (hc : c) (h : B) : if (!decide c) = true then A else B := by
  rw [decide_eq_true hc]
  exact iteF h
theorem iteN {c A B : Prop} {inst : Decidable c} (hc : ¬ c) (h : B) : if decide c = true then A else B := by
  rw [decide_eq_false hc]
  exact iteF h
theorem iteP {c A B : Prop} {inst : Decidable c} (hc : c) (h : A) : if decide c = true then A else B := by
  rw [decide_eq_true hc]
  exact iteT h
theorem atI_ints {ns : List Int} {k : Int} (h0 : 0 ≤ k) (h : k < (ns.length : Int)) : ∃ v : Int, atI (ns.map V.int) k = some (.int v) := by
  have hk : k.toNat < ns.length := by omega
  have ek : k = ((k.toNat : Nat) : Int) := by omega
  have q : atI (ns.map V.int) ((k.toNat : Nat) : Int) = some (.int ns[k.toNat]) := atI_nat (by rw [List.getElem?_map, List.getElem?_eq_getElem hk] <;> rfl)
  rw [← ek] at q
  exact ⟨_, q⟩
def srt : List Int → List Int
  | [a, b] => if b < a then [b, a] else [a, b]
  | t => t
theorem srt_pair (a b : Int) : srt [a, b] = if b < a then [b, a] else [a, b] := rfl
theorem srt_mem {t : List Int} {p : Int} : p ∈ srt t ↔ p ∈ t := by
  unfold srt
  split
  · split
    · simp [or_comm]
    · rfl
  · rfl
theorem perm_pair {a b : Int} {ms : List Int} (h : ms.Perm [a, b]) (s : ms.Pairwise (· ≤ ·)) : ms = srt [a, b] := by
  have hl := h.length_eq
  match ms, hl, h, s with
  | [x, y], _, h, s =>
    have hxy : x ≤ y := by simpa using s
    have hx : x ∈ [a, b] := h.mem_iff.mp (by simp)
    have hy : y ∈ [a, b] := h.mem_iff.mp (by simp)
    have ha : a ∈ [x, y] := h.mem_iff.mpr (by simp)
    have hb : b ∈ [x, y] := h.mem_iff.mpr (by simp)
    simp only [List.mem_cons, List.not_mem_nil, or_false] at hx hy ha hb
    rw [srt_pair]
    split
    · have e1 : x = b := by omega
      have e2 : y = a := by omega
      rw [e1, e2]
    · have e1 : x = a := by omega
      have e2 : y = b := by omega
      rw [e1, e2]
def OkTie (m : Int) (t : List Int) : Prop := ∃ a b, t = [a, b] ∧ 0 ≤ a ∧ a < m ∧ 0 ≤ b ∧ b < m ∧ a ≠ b
structure OkTies (m : Int) (as : List (List Int)) : Prop where
  ok : ∀ t ∈ as, OkTie m t
  nd : (as.map srt).Nodup
theorem srt_new {m : Int} {as : List (List Int)} {a b : Int} (h : ∀ t ∈ as, OkTie m t) (h1 : [a, b] ∉ as) (h2 : [b, a] ∉ as) : srt [a, b] ∉ as.map srt := by
  intro hm
  obtain ⟨t, ht, e⟩ := List.mem_map.mp hm
  obtain ⟨c, d, rfl, _⟩ := h t ht
  have e' : [c, d] = [a, b] ∨ [c, d] = [b, a] := by
    rw [srt_pair, srt_pair] at e
    split at e <;> split at e <;> simp only [List.cons.injEq, and_true] at e ⊢ <;> omega
  rcases e' with e' | e'
  · exact h1 (e' ▸ ht)
  · exact h2 (e' ▸ ht)
theorem OkTies.snoc {m : Int} {as : List (List Int)} {a b : Int} (h : OkTies m as) (t : OkTie m [a, b]) (h1 : [a, b] ∉ as) (h2 : [b, a] ∉ as) : OkTies m (as ++ [[a, b]]) := by
  refine ⟨fun u hu => ?_, ?_⟩
  · rcases List.mem_append.mp hu with hu | hu
    · exact h.ok u hu
    · rw [List.mem_singleton.mp hu]; exact t
  · rw [List.map_append, List.map_singleton, List.nodup_append]
    refine ⟨h.nd, by simp, fun x hx y hy e => ?_⟩
    have hy' : y = srt [a, b] := by simpa using hy
    subst hy'
    exact srt_new h.ok h1 h2 (e ▸ hx)
theorem OkTies.take_new {m : Int} {as : List (List Int)} {i : Nat} {t : List Int} (h : OkTies m as) (ht : as[i]? = some t) : srt t ∉ (as.take i).map srt := by
  intro hm
  obtain ⟨u, hu, e⟩ := List.mem_map.mp hm
  obtain ⟨j, hj, ej⟩ := List.mem_iff_getElem.mp hu
  have hji : j < i := by rw [List.length_take] at hj; omega
  have hi : i < as.length := (List.getElem?_eq_some_iff.mp ht).1
  have et : as[i] = t := (List.getElem?_eq_some_iff.mp ht).2
  have eu : as[j]'(by omega) = u := by rw [← ej, List.getElem_take]
  have hnd := h.nd
  have := (List.getElem_inj (h₀ := by rw [List.length_map]; omega) (h₁ := by rw [List.length_map]; omega) hnd (i := j) (j := i)).mp (by rw [List.getElem_map, List.getElem_map, et, eu, e])
  omega
def hitsFrom (p : Int) : Nat → List (List Int) → List Int
  | _, [] => []
  | k, t :: r => if p ∈ t then (k : Int) :: hitsFrom p (k + 1) r else hitsFrom p (k + 1) r
theorem hits_snoc (p : Int) (t : List Int) : ∀ (k : Nat) (as : List (List Int)), hitsFrom p k (as ++ [t]) = hitsFrom p k as ++ (if p ∈ t then [((k + as.length : Nat) : Int)] else [])
  | k, [] => by
    show (if p ∈ t then (k : Int) :: hitsFrom p (k + 1) [] else hitsFrom p (k + 1) []) = _
    split <;> simp [hitsFrom]
  | k, u :: r => by
    have ih := hits_snoc p t (k + 1) r
    have e : k + 1 + r.length = k + (u :: r).length := by simp; omega
    rw [e] at ih
    show (if p ∈ u then (k : Int) :: hitsFrom p (k + 1) (r ++ [t]) else hitsFrom p (k + 1) (r ++ [t])) = (if p ∈ u then (k : Int) :: hitsFrom p (k + 1) r else hitsFrom p (k + 1) r) ++ _
    rw [ih]
    split <;> rfl
abbrev hits (p : Int) (as : List (List Int)) : List Int := hitsFrom p 0 as
theorem hits_take {p : Int} {as : List (List Int)} {i : Nat} {t : List Int} (h : as[i]? = some t) : hits p (as.take (i + 1)) = hits p (as.take i) ++ (if p ∈ t then [(i : Int)] else []) := by
  have hi : i < as.length := (List.getElem?_eq_some_iff.mp h).1
  have e : as.take (i + 1) = as.take i ++ [t] := by rw [List.take_add_one, h]; rfl
  rw [e, hits, hits_snoc]
  have : 0 + (as.take i).length = i := by rw [List.length_take]; omega
  rw [this]
theorem hits_srt (p : Int) : ∀ (k : Nat) (as : List (List Int)), hitsFrom p k (as.map srt) = hitsFrom p k as
  | _, [] => rfl
  | k, t :: r => by
    show (if p ∈ srt t then (k : Int) :: hitsFrom p (k + 1) (r.map srt) else hitsFrom p (k + 1) (r.map srt)) = (if p ∈ t then (k : Int) :: hitsFrom p (k + 1) r else hitsFrom p (k + 1) r)
    rw [hits_srt p (k + 1) r]
    by_cases h : p ∈ t
    · rw [if_pos h, if_pos (srt_mem.mpr h)]
    · rw [if_neg h, if_neg (fun z => h (srt_mem.mp z))]
theorem hits_len (p : Int) : ∀ (k : Nat) (as : List (List Int)), (hitsFrom p k as).length ≤ as.length
  | _, [] => Nat.le_refl _
  | k, t :: r => by
    have ih := hits_len p (k + 1) r
    show (if p ∈ t then (k : Int) :: hitsFrom p (k + 1) r else hitsFrom p (k + 1) r).length ≤ r.length + 1
    split
    · simp; exact ih
    · omega
end L2
end
section
namespace L2
open PySem PySem.Spec PyProof.Rows
section
variable {X : Cx} {K : PySem.W.Frag}
theorem max_list (hc : X.calm = true) : CallR X (.builtin "max") (fun xs H Q => ∃ (p : Addr) (ns : List Int), xs = [.ref p] ∧ SqL X.K H p (ns.map V.int) ∧ 0 < ns.length ∧ ∀ m, m ∈ ns → (∀ a ∈ ns, a ≤ m) → Q (.int m) H) := by
  intro pins s σ H xs us Q I r h
  obtain ⟨p, ns, rfl, hq, hne, q⟩ := h
  obtain ⟨u0, rfl, ru⟩ := r.one
  cases ru
  obtain ⟨its, rv, pl, hz⟩ := I.list hq
  have hi := intsAre_of rv
  have hl := pl.isList
  obtain ⟨ys, e⟩ := hi.allInts.items
  have hns : ns = ys.toList.map (·.1) := by rw [← hi.numsOf, ← nums_intItems, ← e]
  have hsz : 0 < ys.size := by
    rw [hns, List.length_map, Array.length_toList] at hne
    exact hne
  rw [e] at hl
  refine max_intList (I.ok.hd hc) hl hsz fun v h' tk hv hk => ?_
  obtain ⟨t, rfl⟩ := intItems_at hv
  obtain ⟨h1, h2⟩ := argBest_gt (numAt ys) (ys.size - 1)
  refine ⟨.int (numAt ys (argBest (fun i j => decide (numAt ys i > numAt ys j)) (ys.size - 1))), H, I.kept hk, ⟨t, rfl⟩, q _ ?_ fun a ha => ?_⟩
  · rw [hns, numAt_eq]
    exact getD_mem (by rw [List.length_map, Array.length_toList]; omega)
  · rw [hns] at ha
    obtain ⟨j, hj, rfl⟩ := mem_getD ha
    rw [List.length_map, Array.length_toList] at hj
    rw [← numAt_eq]
    exact h2 j (by omega)
end
theorem mem_hits {p x : Int} : ∀ {k : Nat} {as : List (List Int)}, x ∈ hitsFrom p k as ↔ ∃ i : Nat, ∃ t, as[i]? = some t ∧ p ∈ t ∧ x = ((k + i : Nat) : Int)
  | k, [] => by simp [hitsFrom]
  | k, u :: r => by
    have ih := @mem_hits p x (k + 1) r
    have e : hitsFrom p k (u :: r) = if p ∈ u then (k : Int) :: hitsFrom p (k + 1) r else hitsFrom p (k + 1) r := rfl
    rw [e]
    constructor
    · intro h
      split at h
      · rename_i hu
        rcases List.mem_cons.mp h with h | h
        · exact ⟨0, u, rfl, hu, by simpa using h⟩
        · obtain ⟨i, t, h1, h2, h3⟩ := ih.mp h
          exact ⟨i + 1, t, by simpa using h1, h2, by rw [h3]; congr 1; omega⟩
      · obtain ⟨i, t, h1, h2, h3⟩ := ih.mp h
        exact ⟨i + 1, t, by simpa using h1, h2, by rw [h3]; congr 1; omega⟩
    · rintro ⟨i, t, h1, h2, h3⟩
      cases i with
      | zero =>
        have : u = t := by simpa using h1
        subst this
        rw [if_pos h2]
        exact List.mem_cons.mpr (.inl (by simpa using h3))
      | succ i =>
        have hm : x ∈ hitsFrom p (k + 1) r := ih.mpr ⟨i, t, by simpa using h1, h2, by rw [h3]; congr 1; omega⟩
        split
        · exact List.mem_cons_of_mem _ hm
        · exact hm
theorem hits_rise (p : Int) : ∀ (k : Nat) (as : List (List Int)), (hitsFrom p k as).Pairwise (· < ·)
  | _, [] => List.Pairwise.nil
  | k, u :: r => by
    have ih := hits_rise p (k + 1) r
    have e : hitsFrom p k (u :: r) = if p ∈ u then (k : Int) :: hitsFrom p (k + 1) r else hitsFrom p (k + 1) r := rfl
    rw [e]
    split
    · refine List.Pairwise.cons (fun x hx => ?_) ih
      obtain ⟨i, t, _, _, h3⟩ := mem_hits.mp hx
      rw [h3]
      omega
    · exact ih
end L2
end
section
namespace L2
open PySem PySem.Spec PyProof.Rows
theorem newEnv_comp {M : Model} {A : Around} {E : Value → Shared → Prop} {s : Shared} {scope : Scope} {globals : Addr} {cl : List (Str × Addr)} {qual : Str} {env : Env} {Q : Env → Shared → Prop}
    (hQ : Q { scope := scope, locals := s.heap.objs.size, globals := globals, cells := cellsFrom (s.heap.objs.size + 1) scope.names cl, qual := qual, func := none, code := env.code, frame := env.frame, builtins := env.builtins }
      { s with heap := pushCells (s.heap.push { cls := .type "dict", data := .dict #[] }) scope.names }) :
    wpAny M A (newFunctionEnv scope globals cl [] qual none .none (some env)) Q E s := by
  simp only [newFunctionEnv, Option.isSome_some, if_true]
  refine wpAny_bind (wpAny_alloc ?_)
  refine wpAny_bind (wpAny_layCells _ (fun name kind cells => by cases hkc : kind == NameKind.cell <;> simp [hkc]) _ _ _ _ ?_)
  rw [show ({ s with heap := s.heap.push { cls := .type "dict", data := .dict #[] } } : Shared).heap.objs.size = s.heap.objs.size + 1 from Heap.size_push ..]
  simp only [List.forIn_nil]
  exact wpAny_bind (wpAny_pure (wpAny_pure hQ))
theorem cellsFrom_mem : ∀ {names : List (Str × NameKind)} {n : Nat} {acc : List (Str × Addr)} {x : Str} {c : Addr}, (cellsFrom n names acc).lookup x = some c → acc.lookup x = some c ∨ (n ≤ c ∧ (x, NameKind.cell) ∈ names)
  | [], _, _, _, _, h => .inl h
  | (y, k) :: r, n, acc, x, c, h => by
    unfold cellsFrom at h
    split at h
    · rename_i hk
      have hk' : k = .cell := by simpa using hk
      subst hk'
      rcases cellsFrom_mem (names := r) h with h' | h'
      · rw [List.lookup_cons] at h'
        cases hx : x == y with
        | true =>
          rw [hx] at h'
          have e : x = y := eq_of_beq hx
          have ec : n = c := Option.some.inj h'
          exact .inr ⟨Nat.le_of_eq ec, by rw [e]; exact List.mem_cons_self⟩
        | false => rw [hx] at h'; exact .inl h'
      · exact .inr ⟨by omega, List.mem_cons_of_mem _ h'.2⟩
    · rcases cellsFrom_mem (names := r) h with h | h
      · exact .inl h
      · exact .inr ⟨h.1, List.mem_cons_of_mem _ h.2⟩
theorem cellsFrom_old : ∀ {names : List (Str × NameKind)} {n : Nat} {acc : List (Str × Addr)} {x : Str}, (x, NameKind.cell) ∉ names → (cellsFrom n names acc).lookup x = acc.lookup x
  | [], _, _, _, _ => rfl
  | (y, k) :: r, n, acc, x, h => by
    have hr : (x, NameKind.cell) ∉ r := fun z => h (List.mem_cons_of_mem _ z)
    unfold cellsFrom
    split
    · rename_i hk
      have hk' : k = .cell := by simpa using hk
      subst hk'
      rw [cellsFrom_old (names := r) hr, List.lookup_cons]
      cases hx : x == y with
      | true =>
        have e : x = y := eq_of_beq hx
        subst e
        exact absurd List.mem_cons_self h
      | false => rfl
    · exact cellsFrom_old (names := r) hr
theorem cellsFrom_mono : ∀ {names : List (Str × NameKind)} {n : Nat} {acc : List (Str × Addr)} {x : Str}, (acc.lookup x).isSome = true → ((cellsFrom n names acc).lookup x).isSome = true
  | [], _, _, _, h => h
  | (y, k) :: r, n, acc, x, h => by
    unfold cellsFrom
    split
    · refine cellsFrom_mono (names := r) ?_
      rw [List.lookup_cons]
      cases hx : x == y with
      | true => rfl
      | false => exact h
    · exact cellsFrom_mono (names := r) h
theorem cellsFrom_new : ∀ {names : List (Str × NameKind)} {n : Nat} {acc : List (Str × Addr)} {x : Str}, (x, NameKind.cell) ∈ names → ((cellsFrom n names acc).lookup x).isSome = true
  | [], _, _, _, h => by cases h
  | (y, k) :: r, n, acc, x, h => by
    unfold cellsFrom
    split
    · rcases List.mem_cons.mp h with e | h
      · cases e
        refine cellsFrom_mono ?_
        rw [List.lookup_cons, beq_self_eq_true]
        rfl
      · exact cellsFrom_new h
    · rename_i hk
      rcases List.mem_cons.mp h with e | h
      · cases e
        exact absurd rfl hk
      · exact cellsFrom_new h
theorem cellsFrom_inj : ∀ {names : List (Str × NameKind)} {n : Nat} {acc : List (Str × Addr)} {x y : Str} {c : Addr}, (∀ z d, acc.lookup z = some d → d < n) → (∀ z u d, acc.lookup z = some d → acc.lookup u = some d → z = u) →
    (cellsFrom n names acc).lookup x = some c → (cellsFrom n names acc).lookup y = some c → x = y
  | [], _, _, _, _, _, _, inj, h1, h2 => inj _ _ _ h1 h2
  | (v, k) :: r, n, acc, x, y, c, lt, inj, h1, h2 => by
    unfold cellsFrom at h1 h2
    split at h1
    · rename_i hk
      rw [if_pos hk] at h2
      refine cellsFrom_inj (names := r) (n := n + 1) (acc := (v, n) :: acc) (fun z d e => ?_) (fun z u d e1 e2 => ?_) h1 h2
      · rw [List.lookup_cons] at e
        cases hz : z == v with
        | true => rw [hz] at e; cases e; exact Nat.lt_succ_self _
        | false => rw [hz] at e; exact Nat.lt_succ_of_lt (lt z d e)
      · rw [List.lookup_cons] at e1 e2
        cases hz : z == v with
        | true =>
          rw [hz] at e1
          cases e1
          cases hu : u == v with
          | true => rw [eq_of_beq hz, eq_of_beq hu]
          | false => rw [hu] at e2; exact absurd (lt u _ e2) (Nat.lt_irrefl _)
        | false =>
          rw [hz] at e1
          cases hu : u == v with
          | true => rw [hu] at e2; cases e2; exact absurd (lt z _ e1) (Nat.lt_irrefl _)
          | false => rw [hu] at e2; exact inj z u d e1 e2
    · rename_i hk
      rw [if_neg hk] at h2
      exact cellsFrom_inj (names := r) lt inj h1 h2
theorem pushCells_cell : ∀ {names : List (Str × NameKind)} {h : Heap} {n : Nat} {acc : List (Str × Addr)} {x : Str} {c : Addr}, n = h.objs.size → (∀ z d, acc.lookup z = some d → ∃ v, h.IsCell d v) → (cellsFrom n names acc).lookup x = some c → ∃ v, (pushCells h names).IsCell c v
  | [], _, _, _, _, _, _, ok, h1 => ok _ _ h1
  | (v, k) :: r, h, n, acc, x, c, hn, ok, h1 => by
    unfold cellsFrom at h1
    unfold pushCells
    split at h1
    · rename_i hk
      rw [if_pos hk]
      refine pushCells_cell (names := r) (n := n + 1) (acc := (v, n) :: acc) (by rw [Heap.size_push, hn]) (fun z d e => ?_) h1
      rw [List.lookup_cons] at e
      cases hz : z == v with
      | true => rw [hz] at e; cases e; exact ⟨none, _, by rw [hn]; exact Heap.get?_push_size _ rfl, rfl⟩
      | false =>
        rw [hz] at e
        obtain ⟨u, o, ho, hd⟩ := ok z d e
        exact ⟨u, o, Heap.get?_push_of_some _ ho, hd⟩
    · rename_i hk
      rw [if_neg hk]
      exact pushCells_cell (names := r) hn ok h1
def compOkC (osc sc : Scope) : Bool :=
  (decide (sc.kind = .function)) && sc.names.all (fun y => decide (y.2 = .local → sc.names.lookup y.1 = some .local)) &&
    sc.names.all (fun y => decide (y.2 = .free → osc.names.lookup y.1 = some .cell ∨ osc.names.lookup y.1 = some .free)) && sc.names.all (fun y => decide (y.2 = .free → (y.1, NameKind.cell) ∉ sc.names))
structure CompOkC (osc sc : Scope) : Prop where
  kind : sc.kind = .function
  loc : ∀ y ∈ sc.names, y.2 = .local → sc.names.lookup y.1 = some .local
  free : ∀ y ∈ sc.names, y.2 = .free → osc.names.lookup y.1 = some .cell ∨ osc.names.lookup y.1 = some .free
  one : ∀ y ∈ sc.names, y.2 = .free → (y.1, NameKind.cell) ∉ sc.names
theorem CompOkC.of {osc sc : Scope} (h : compOkC osc sc = true) : CompOkC osc sc := by
  unfold compOkC at h
  rw [Bool.and_eq_true, Bool.and_eq_true, Bool.and_eq_true] at h
  obtain ⟨⟨⟨h1, h3⟩, h4⟩, h5⟩ := h
  exact ⟨of_decide_eq_true h1, fun y hy => of_decide_eq_true (List.all_eq_true.mp h3 y hy), fun y hy => of_decide_eq_true (List.all_eq_true.mp h4 y hy), fun y hy => of_decide_eq_true (List.all_eq_true.mp h5 y hy)⟩
theorem relabel_memC {env : Env} {x : Str} : ∀ {names : List (Str × NameKind)},
    ((names.map fun (n, k) => if (k == NameKind.free && env.scope.kind == .function && env.kindOf n == some .cell) then (n, NameKind.cell) else (n, k)).lookup x = some .cell ∨
     (names.map fun (n, k) => if (k == NameKind.free && env.scope.kind == .function && env.kindOf n == some .cell) then (n, NameKind.cell) else (n, k)).lookup x = some .free) → (x, NameKind.free) ∈ names ∨ (x, NameKind.cell) ∈ names
  | [], h => by simp at h
  | (n, k) :: r, h => by
    have ih := @relabel_memC env x r
    rw [List.map_cons] at h
    have h' : List.lookup x ((if (k == NameKind.free && env.scope.kind == .function && env.kindOf n == some .cell) = true then (n, NameKind.cell) else (n, k)) :: _) = _ ∨ List.lookup x ((if (k == NameKind.free && env.scope.kind == .function && env.kindOf n == some .cell) = true then (n, NameKind.cell) else (n, k)) :: _) = _ := h
    have tl : ∀ {A : Prop}, ((x, NameKind.free) ∈ r ∨ (x, NameKind.cell) ∈ r) → (x, NameKind.free) ∈ (n, k) :: r ∨ (x, NameKind.cell) ∈ (n, k) :: r := fun z => z.elim (fun z => .inl (List.mem_cons_of_mem _ z)) fun z => .inr (List.mem_cons_of_mem _ z)
    by_cases hb : (k == NameKind.free && env.scope.kind == .function && env.kindOf n == some .cell) = true
    · rw [if_pos hb] at h'
      have hk : k = .free := by simp at hb; exact hb.1.1
      rw [List.lookup_cons] at h'
      cases hx : x == n with
      | true =>
        have : x = n := eq_of_beq hx
        subst this; subst hk
        exact .inl List.mem_cons_self
      | false => rw [hx] at h'; exact tl (A := True) (ih h')
    · rw [if_neg hb] at h'
      rw [List.lookup_cons] at h'
      cases hx : x == n with
      | true =>
        rw [hx] at h'
        have : x = n := eq_of_beq hx
        subst this
        rcases h' with h' | h'
        · have hk : k = .cell := Option.some.inj h'
          subst hk
          exact .inr List.mem_cons_self
        · have hk : k = .free := Option.some.inj h'
          subst hk
          exact .inl List.mem_cons_self
      | false => rw [hx] at h'; exact tl (A := True) (ih h')
theorem clo_mem {cells : List (Str × Addr)} : ∀ {names : List (Str × NameKind)} {cs : List (Str × Addr)} {x : Str} {c : Addr}, (cloOf cells names cs).lookup x = some c → (x, NameKind.free) ∈ names ∨ cs.lookup x = some c
  | [], _, _, _, h => .inr h
  | (n, k) :: r, cs, x, c, h => by
    unfold cloOf at h
    rcases clo_mem (names := r) h with h | h
    · exact .inl (List.mem_cons_of_mem _ h)
    · by_cases hk : (k == NameKind.free) = true
      · have hk' : k = .free := by simpa using hk
        subst hk'
        rw [if_pos hk] at h
        cases q : cells.lookup n with
        | none => rw [q] at h; exact .inr h
        | some d =>
          rw [q] at h
          rw [List.lookup_cons] at h
          cases hx : x == n with
          | true =>
            have e : x = n := eq_of_beq hx
            subst e
            exact .inl List.mem_cons_self
          | false => rw [hx] at h; exact .inr h
      · rw [if_neg hk] at h
        exact .inr h
theorem clo_free {X : Cx} {scope : Scope} {x : Str} {c : Addr} (h : (cloX X scope).lookup x = some c) : (x, NameKind.free) ∈ scope.names := by
  rcases clo_mem h with h | h
  · exact h
  · simp at h
def cxCompC (X : Cx) (N' : List Str) (scope : Scope) (fp : List Addr) (s : Shared) (H : Hp) : Cx where
  prog := X.prog
  w := X.w
  K := X.K
  mg := X.mg
  base := X.base
  A := X.A
  N := N'
  s₀ := s
  H₀ := H
  env := compEnvC scope (cellsFrom (s.heap.objs.size + 1) scope.names (cloX X scope)) s.heap.objs.size X.env
  outer := X.stack
  stack := X.stack
  ex := fp
  fn := fun x => decide ((x, NameKind.cell) ∈ scope.names)
  calm := X.calm
  pn := []
  xe := fun _ _ => False
section
variable {X : Cx} {pins : List (Addr × Obj)} {σ : St} {H : Hp} {s : Shared} {tg elt iter : Expr} {ifs : List Expr} {scope : Scope} {pos : Pos} {own fr : List Str} {ix : List Nat} {g : TG} {tc : TT} {te : TE} {it : Addr} {fp : List Addr}
  {tn : Nat → Heap → Prop} {J : It}
theorem comp_innerC {R : Hp → Prop} {D : Addr} (hc : X.calm = true) (ok : CompOkC X.env.scope scope) (hfr : FreeAt X scope fr ix)
    (hg : PG (cxCompC X (own ++ fr) scope fp s H) tg g) (hi : PIfs (cxCompC X (own ++ fr) scope fp s H) ifs tc) (he : PE (cxCompC X (own ++ fr) scope fp s H) elt te)
    (I3 : Inv X pins σ H s) (T : Turn X.prog X.w X.K tg J fp it tn) (st3 : tn 0 s.heap) (f3 : ∀ b ∈ fp, FpOk X pins H b)
    (hq : tTurns J D g tc te R (start2 σ own ix) H) :
    codeAny (model X.prog X.w) X.A (.compStart (.ListComp elt [⟨tg, iter, ifs, 0⟩] scope pos) 0 (.ref it) (.ref D) (compEnvC scope (cellsFrom (s.heap.objs.size + 1) scope.names (cloX X scope)) s.heap.objs.size X.env))
      (fun r s' => r = .ok .next ∧ Behind X pins σ R s.heap.objs.size s') { s with heap := (pushCells (s.heap.push { cls := .type "dict", data := .dict #[] }) scope.names) } := by
  have old : ∀ b o, s.heap.get? b = some o → (pushCells (s.heap.push { cls := .type "dict", data := .dict #[] }) scope.names).get? b = some o := fun b o e => pushCells_keeps _ _ b o (Heap.get?_push_of_some _ e)
  have hns : (pushCells (s.heap.push { cls := .type "dict", data := .dict #[] }) scope.names).Ns s.heap.objs.size (fun _ => none) := (Heap.Ns.new s.heap (.type "dict")).keeps (pushCells_keeps _ _)
  have sub : ∀ x c, (cloX X scope).lookup x = some c → X.env.cells.lookup x = some c := cloOf_sub (fun x c e => by simp at e)
  have outerK : ∀ x, (x, NameKind.free) ∈ scope.names → X.env.kindOf x = some .cell ∨ X.env.kindOf x = some .free := fun x hx => ok.free (x, .free) hx rfl
  have has : ∀ x, (x, NameKind.free) ∈ scope.names → ∃ c, (cloX X scope).lookup x = some c := fun x hx => by
    obtain ⟨c, hcl⟩ := I3.ok.has x (outerK x hx)
    exact Option.isSome_iff_exists.mp (cloOf_has (by rw [hcl]; rfl) hx)
  have ltc : ∀ x c, (cloX X scope).lookup x = some c → c < s.heap.objs.size + 1 := fun x c e => by
    obtain ⟨v, q⟩ := I3.cell x c (sub x c e)
    exact Nat.lt_succ_of_lt q.lt
  have szp : s.heap.objs.size + 1 = (s.heap.push { cls := .type "dict", data := .dict #[] }).objs.size := (Heap.size_push ..).symm
  have lt3 : ∀ b ∈ fp, b < s.heap.objs.size := fun b hb => by
    obtain ⟨o, ho, _⟩ := T.obj 0 _ st3 b hb
    exact Heap.lt_size ho
  have nostk : ∀ b ∈ fp, b ∉ frs X.stack := fun b hb hs => by
    rcases List.mem_cons.mp (I3.stkSub b hs) with z | z
    · exact (f3 b hb).2.1 z
    · exact (f3 b hb).2.2.1 z
  have ncell : ∀ b ∈ fp, ∀ x c, (cellsFrom (s.heap.objs.size + 1) scope.names (cloX X scope)).lookup x = some c → c ≠ b := fun b hb x c h => by
    rcases cellsFrom_mem h with h | h
    · exact (f3 b hb).2.2.2.2.1 x c (sub x c h)
    · intro e
      have h1 : s.heap.objs.size + 1 ≤ b := e ▸ h.1
      exact absurd (Nat.lt_of_lt_of_le (lt3 b hb) (Nat.le_of_succ_le h1)) (Nat.lt_irrefl _)
  have I4 : Inv (cxCompC X (own ++ fr) scope fp s H) [] (start2 σ own ix) H { s with heap := (pushCells (s.heap.push { cls := .type "dict", data := .dict #[] }) scope.names) } := by
    refine ⟨⟨I3.ok.mod, ok.kind, I3.ok.glob, I3.ok.blt, Nat.le_refl _, ?inj, ?has, ?cab, I3.ok.hd, I3.ok.frames, .inl rfl, ?exf, I3.bs, Nat.le_trans I3.ok.bsz I3.sz, ?noex, nostk, I3.stack, I3.stkFree⟩,
      rfl, I3.bare, Un.kept old, ⟨_, hns, ?loc⟩, ?cell, I3.hok.fresh (Nat.le_refl _), ?freeC, ?pin, I3.hok.kept old, ?len⟩
    case inj => exact fun x y c h1 h2 => cellsFrom_inj ltc (fun z u d e1 e2 => I3.ok.inj z u d (sub z d e1) (sub u d e2)) h1 h2
    case has =>
      intro x hx
      refine Option.isSome_iff_exists.mp ?_
      rcases relabel_memC hx with z | z
      · obtain ⟨c, hc'⟩ := has x z
        exact cellsFrom_mono (by rw [hc']; rfl)
      · exact cellsFrom_new z
    case cab =>
      intro x c hx h
      have hx' : (x, NameKind.cell) ∈ scope.names := of_decide_eq_true hx
      rcases cellsFrom_mem h with h | h
      · have e := cellsFrom_new (n := s.heap.objs.size + 1) (acc := cloX X scope) hx'
        have hm : (x, NameKind.free) ∈ scope.names := clo_free h
        exact absurd hx' (ok.one _ hm rfl)
      · show s.heap.objs.size ≤ c
        omega
    case exf => exact fun b hb => ⟨Nat.ne_of_lt (lt3 b hb), ncell b hb⟩
    case noex =>
      intro b o e hb
      rcases (f3 b hb).2.2.2.1 with z | z
      · exact I3.ok.noex b o e z
      · exact absurd (Nat.lt_of_lt_of_le (Nat.lt_of_lt_of_le (Heap.lt_size e) I3.ok.bsz) z) (Nat.lt_irrefl _)
    case loc =>
      intro i x v e1 e2 e3
      obtain ⟨j, a1, a2, a3⟩ := start2_get hfr e1 e2
      have mem : (x, NameKind.free) ∈ scope.names := PySem.mem_of_lookup a3
      obtain ⟨m, hn, hl⟩ := I3.loc
      have ok1 := outerK x mem
      obtain ⟨u, r, l⟩ := hl j x v a1 a2 (ok1.elim (fun z => .inr (.inl z)) fun z => .inr (.inr z))
      rcases l with ⟨k, _⟩ | ⟨k, c, hcl, o, ho, hd⟩
      · rcases ok1 with z | z
        · rw [k] at z; cases z
        · rw [k] at z; cases z
      · obtain ⟨c', hc'⟩ := has x mem
        have e := sub x c' hc'
        rw [hcl] at e
        cases e
        exact ⟨u, r, .inr ⟨lookup_relabel_free a3, c, by show (cellsFrom _ _ _).lookup x = _; rw [cellsFrom_old (ok.one _ mem rfl)]; exact hc', o, old _ _ ho, hd⟩⟩
    case cell =>
      intro x c h
      refine pushCells_cell szp (fun z d e => ?_) h
      obtain ⟨v, o, ho, hd⟩ := I3.cell z d (sub z d e)
      exact ⟨v, o, Heap.get?_push_of_some _ ho, hd⟩
    case freeC =>
      intro x c h
      rcases cellsFrom_mem h with h | h
      · exact I3.freeC x c (sub x c h)
      · exact I3.hok.fresh (by omega)
    case pin => exact fun p hp => absurd (show p ∈ ([] : List (Addr × Obj)) from hp) (by simp)
    case len => exact start2_len hfr
  have st4 : tn 0 (pushCells (s.heap.push { cls := .type "dict", data := .dict #[] }) scope.names) := T.keep 0 _ _ st3 fun b _ o e => old b o e
  have stat : ∀ {H' : Hp}, (∀ b ∈ fp, H' b = none) → ∀ b ∈ fp, FpOk (cxCompC X (own ++ fr) scope fp s H) [] H' b := fun {H'} hn b hb =>
    ⟨hn b hb, Nat.ne_of_lt (lt3 b hb), nostk b hb, .inl hb, ncell b hb, fun p hp => absurd (show p ∈ ([] : List (Addr × Obj)) from hp) (by simp)⟩
  obtain ⟨W, ⟨m1, w0⟩, turn⟩ := hq
  have loop : codeAny (model X.prog X.w) X.A (.compLoop (.ListComp elt [⟨tg, iter, ifs, 0⟩] scope pos) 0 (.ref it) (.ref D) (compEnvC scope (cellsFrom (s.heap.objs.size + 1) scope.names (cloX X scope)) s.heap.objs.size X.env))
      (fun r s' => r = .ok .next ∧ Behind X pins σ R s.heap.objs.size s') { s with heap := (pushCells (s.heap.push { cls := .type "dict", data := .dict #[] }) scope.names) } := by
    refine codeAny_compLoop_any (fun n s' => ∃ i τ H', Inv (cxCompC X (own ++ fr) scope fp s H) [] τ H' s' ∧ tn i s'.heap ∧ (∀ b ∈ fp, H' b = none) ∧ W i n τ H') ?_ m1 ⟨0, _, H, I4, st4, fun b hb => (f3 b hb).1, w0⟩
    rintro n s5 ⟨i, τ5, H5, I5, st5, fr5, w5⟩
    rcases turn i n τ5 H5 w5 with ⟨stop, qn⟩ | ⟨go, N, hN, step⟩
    · refine thn (T.done (cxCompC X (own ++ fr) scope fp s H) rfl rfl rfl hc i [] s5 τ5 H5 _ I5 (stat fr5) st5 stop) fun r s6 ⟨hr, I6⟩ => ?_
      subst hr
      obtain ⟨m6, hn6, _⟩ := I6.loc
      exact ⟨rfl, H5, m6, I3.call' (ch := fp) I6.os I6.base I6.hok I6.bare (fun b hb => ⟨(f3 b hb).2.2.2.1, (f3 b hb).2.1, (f3 b hb).2.2.2.2.1, (f3 b hb).2.2.2.2.2⟩), hn6, I3.fpOk (Nat.le_refl _) I6.free, qn⟩
    · refine thn (T.item (cxCompC X (own ++ fr) scope fp s H) rfl rfl rfl hc i [] s5 τ5 H5 _ I5 (stat fr5) st5 go) fun r s6 ⟨u, hr, h6⟩ => ?_
      subst hr
      refine thn h6 fun _ s7 ⟨x, H7, I7, r7, y7, st7, fr7⟩ => ?_
      have I7' := I7.pinned (stat fr7) (T.obj _ _ st7)
      have again : ∀ {τ8 : St} {H8 : Hp} {s8 : Shared}, Inv (cxCompC X (own ++ fr) scope fp s H) ([] ++ pinsAt fp s7.heap) τ8 H8 s8 → N τ8 H8 →
          ∃ m, m < n ∧ ∃ i τ H', Inv (cxCompC X (own ++ fr) scope fp s H) [] τ H' s8 ∧ tn i s8.heap ∧ (∀ b ∈ fp, H' b = none) ∧ W i m τ H' := fun {τ8 H8 s8} I8 n8 => by
        obtain ⟨m', hm, w8⟩ := hN τ8 H8 n8
        refine ⟨m', hm, i + 1, τ8, H8, I8.unpinned, T.keep _ _ _ st7 fun b hb o e => (I8.pin (b, o) (List.mem_append_right _ (List.mem_append_right _ (mem_pinsAt hb e)))).1, fun b hb => ?_, w8⟩
        obtain ⟨o, e, d⟩ := T.obj _ _ st7 b hb
        exact (I8.pin (b, o) (List.mem_append_right _ (List.mem_append_right _ (mem_pinsAt hb e)))).2.1
      refine thn (hg _ s7 τ5 H7 x u _ I7' r7 (step x H7 y7)) fun _ s8 ⟨τ8, H8, I8, q8⟩ => ?_
      refine thn (hi _ s8 τ8 H8 _ I8 q8) fun b s9 ⟨H9, I9, q9⟩ => ?_
      cases b with
      | false => exact again I9 q9
      | true =>
        refine thn (he _ s9 τ8 H9 _ I9 q9) fun uv s10 ⟨v, H10, I10, r10, ys, hD, hz, q10⟩ => ?_
        refine thn (mt_append (X := cxCompC X (own ++ fr) scope fp s H) _ s10 τ8 H10 (.ref D) [v] (.ref D) [uv] (fun _ H' => N τ8 H') I10 rfl (.cons r10 .nil) ⟨D, ys, v, rfl, rfl, hD, hz, q10⟩) fun _ s11 ⟨_, H11, I11, _, q11⟩ => ?_
        exact again I11 q11
  exact codeAny_compStart_list loop (T.self X.A 0 _ _ _ st4 loop)
theorem comp_runC {R : V → Hp → Prop} (hc : X.calm = true) (ok : CompOkC X.env.scope scope) (hfr : FreeAt X scope fr ix)
    (hg : ∀ fp s H, PG (cxCompC X (own ++ fr) scope fp s H) tg g) (hi : ∀ fp s H, PIfs (cxCompC X (own ++ fr) scope fp s H) ifs tc) (he : ∀ fp s H, PE (cxCompC X (own ++ fr) scope fp s H) elt te)
    (I2 : Inv X pins σ H s) (T : Turn X.prog X.w X.K tg J fp it tn) (st2 : tn 0 s.heap) (f2 : ∀ b ∈ fp, FpOk X pins H b)
    (hq : ∀ D, H D = none → tTurns J D g tc te (R (.ref D)) (start2 σ own ix) (upd H D (.lst []))) {E : Value → Shared → Prop} :
    wpAny (model X.prog X.w) X.A (newList []) (fun acc s₃ => wpAny (model X.prog X.w) X.A (newFunctionEnv scope X.env.globals (cloX X scope) [] X.env.qual none .none (some X.env)) (fun cenv s₄ =>
      codeAny (model X.prog X.w) X.A (.compStart (.ListComp elt [⟨tg, iter, ifs, 0⟩] scope pos) 0 (.ref it) acc { cenv with scope := relabel scope X.env })
        (fun r s' => r = .ok .next ∧ ∃ v, RelV v acc ∧ Behind X pins σ (R v) cenv.locals s') s₄) E s₃) E s := by
  refine wpAny_newObj_type (newEnv_comp ?_)
  have hD : H s.heap.objs.size = none := I2.hok.fresh (Nat.le_refl _)
  have I3 : Inv X pins σ (upd H s.heap.objs.size (.lst [])) { s with heap := s.heap.push { cls := .type "list", dict := none, data := .seq ([] : List Value).toArray } } :=
    I2.laid (t' := s.toks) (fun b u e => Heap.get?_push_of_some _ e) (Nat.le_refl _) ⟨Nat.zero_le _, [], 0, .nil, Heap.get?_push_size _ rfl⟩
  have st3 : tn 0 (s.heap.push { cls := .type "list", dict := none, data := .seq ([] : List Value).toArray }) := T.keep 0 _ _ st2 fun b _ o e => Heap.get?_push_of_some _ e
  have f3 : ∀ b ∈ fp, FpOk X pins (upd H s.heap.objs.size (.lst [])) b := fun b hb => by
    obtain ⟨f0, fr⟩ := f2 b hb
    obtain ⟨o, ho, _⟩ := T.obj 0 _ st2 b hb
    exact ⟨by rw [upd_ne (Nat.ne_of_lt (Heap.lt_size ho))]; exact f0, fr⟩
  refine codeAny_mono (comp_innerC (R := R (.ref s.heap.objs.size)) (D := s.heap.objs.size) hc ok hfr (hg _ _ _) (hi _ _ _) (he _ _ _) I3 T st3 f3 (hq _ hD)) fun r s' ⟨e, b⟩ => ⟨e, V.ref s.heap.objs.size, rfl, b⟩
end
section
variable {X : Cx} {tg elt iter : Expr} {ifs : List Expr} {scope : Scope} {pos : Pos} {g : TG} {tc : TT} {te : TE} {wi : TI}
theorem has_cellsC {pins : List (Addr × Obj)} {σ : St} {H : Hp} {s : Shared} (I : Inv X pins σ H s) (ok : CompOkC X.env.scope scope) : ∀ y ∈ scope.names, y.2 = .free → (X.env.cells.lookup y.1).isSome = true := fun y hy hf => by
  obtain ⟨c, h⟩ := I.ok.has y.1 (ok.free y hy hf)
  rw [h]; rfl
end
end L2
end
section
namespace L2
def Cl (S : Int → Prop) (es : List (List Int)) : Prop := ∀ e ∈ es, ∀ x ∈ e, ∀ y ∈ e, S x → S y
def gh (h : List Int) (p : Int) : Int := h.getD p.toNat 0
structure Heads (n : Nat) (es : List (List Int)) (h : List Int) : Prop where
  len : h.length = n
  le : ∀ p : Int, 0 ≤ p → p < n → 0 ≤ gh h p ∧ gh h p ≤ p
  idem : ∀ p : Int, 0 ≤ p → p < n → gh h (gh h p) = gh h p
  edge : ∀ e ∈ es, ∀ x ∈ e, ∀ y ∈ e, gh h x = gh h y
  reach : ∀ S : Int → Prop, Cl S es → ∀ p q : Int, 0 ≤ p → p < n → 0 ≤ q → q < n → gh h p = gh h q → S p → S q
structure Spr (n : Nat) (h : List Int) (p : Int) (fs : List Int) : Prop where
  has : p ∈ fs
  nd : fs.Nodup
  all : ∀ q ∈ fs, (0 ≤ q ∧ q < n) ∧ gh h q = gh h p
end L2
end
section
namespace L2
open PySem PySem.Spec PyProof.Rows
section
variable {X : Cx} {tg elt iter : Expr} {ifs : List Expr} {scope : Scope} {pos : Pos} {g : TG} {tc : TT} {te : TE} {wi : TI}
theorem ps_compC {i : Nat} {x : Str} {pos' spos : Pos} (own fr : List Str) (ix : List Nat) (hN : X.N.Nodup) (hx : X.N[i]? = some x) (hl : Loc X.env.scope x) (hc : X.calm = true) (hok : compOkC X.env.scope scope = true) (hfr : FreeAt X scope fr ix) (hit : PI X tg iter wi)
    (hg : ∀ fp s H, PG (cxCompC X (own ++ fr) scope fp s H) tg g) (hi : ∀ fp s H, PIfs (cxCompC X (own ++ fr) scope fp s H) ifs tc) (he : ∀ fp s H, PE (cxCompC X (own ++ fr) scope fp s H) elt te)
    (hsw : swapsWith (.ListComp elt [⟨tg, iter, ifs, 0⟩] scope pos) (some (.Name x pos')) spos.line X.env = pure true := by rfl) (hs : ∀ x, foldedSetIterable iter X.env x = pure x := by intro _; rfl)
    (hf : X.fn x = true ∨ X.env.scope.names.lookup x = some .local := by first | exact .inl rfl | exact .inr rfl | assumption) :
    PS X (.Assign [.Name x pos'] (.ListComp elt [⟨tg, iter, ifs, 0⟩] scope pos) spos) (tAsg (tComp own ix wi g tc te) (gName i)) := by
  intro pins s σ H D I h
  have ok := CompOkC.of hok
  rw [exec_Assign_Name_used _ _ _ _ hsw]
  refine wpAny_bind (wpAny_standAt (wpAny_bind ?_))
  show wpAny _ X.A (do let _ ← comprehension (.ListComp elt [⟨tg, iter, ifs, 0⟩] scope pos) scope X.env _ (newList []) false (eval iter X.env) (some (assign (.Name x pos') X.env))) _ _ s
  refine wpAny_bind (wpAny_mono (wpAny_comprehension_free (use := some (assign (.Name x pos') X.env)) (Q := fun _ s' => SP X pins D .next s') rfl hs (clo_of (has_cellsC I ok)) ok.kind ok.loc
    (thn (hit pins s σ H _ I h) fun xv s₁ h₁ => thn h₁ fun itv s₂ h₂ => ?_)) (fun _ s' hq => wpAny_pure (wpAny_pure hq)) fun _ _ e => e)
  obtain ⟨it, fp, tn, J, H2, rfl, I2, T, st2, f2, hq⟩ := h₂
  refine thn (comp_runC (R := fun v H' => D.nx (σ.set i (some v)) H') hc ok hfr hg hi he I2 T st2 f2 hq) fun acc s₃ h₃ => thn h₃ fun cenv s₄ h₄ => codeAny_mono h₄ fun r s' ⟨hr, v, rv, H', m, I', hn, fpo, q⟩ => ?_
  subst hr
  show wpAny _ X.A (assign (.Name x pos') X.env acc) _ _ s'
  refine wpAny_assign_Name (store_ok2 I' hN hx hl rv (fun s'' I'' hch => ?_) hf)
  obtain ⟨a, sb, ha⟩ := hch
  have hCa : cenv.locals ≠ a := by
    rcases ha with z | z
    · rw [z]; exact fpo.2.1
    · exact fun e => fpo.2.2.2.2.1 x a z e.symm
  exact ⟨m, hn.sameBut sb hCa, fun h' sb' => ⟨_, H', I''.sameBut fpo sb', q⟩⟩
end
section
variable {X : Cx}
end
end L2
end
section
namespace L2
open PySem PySem.Spec PyProof.Rows
section
variable {P : Program} {w : World} {H H' : Hp} {h h' : Heap} {a : Addr} {o : HO}
end
structure Fly (P : Program) (w : World) (outer : List Env) (H H' : Hp) (s s' : Shared) (a : Addr) (cls : Value) : Prop where
  os : s'.os = s.os
  bare : AllBare s'.gens
  un : Un (frs outer) [] H H' s.heap s'.heap
  new : H' a = none
  fly : ∃ B a0, Heap.FlyingW B outer a cls a0 s'.heap ∧ HOk P w H' B ∧ ∀ b o', (∃ o, s.heap.get? b = some o) → s'.heap.get? b = some o' → b ∉ frs outer → B.get? b = some o'
section
variable {X : Cx} {pins : List (Addr × Obj)} {σ : St} {H1 H2 : Hp} {s1 s2 : Shared} {M : Model} {E' : Value → Shared → Prop} {Q : Unit → Shared → Prop}
end
end L2
end
section
namespace L2
open PySem PySem.Spec PyProof.Rows
section
variable {X : Cx} {rest : List Expr} {n : Nat} {t : TJ} {pos : Pos}
end
section
variable {X : Cx} {pins : List (Addr × Obj)} {σ : St} {H H1 H2 : Hp} {s s1 s2 : Shared} {a : Addr} {oe : Obj}
end
structure XSub (K : PySem.W.Frag) (C D : Addr) : Prop where
  ty : PySem.W.typeIn K (.ref D) = some (.type "type")
  cl : (PySem.W.clsIn K D).isSome = true
  ex : PySem.W.subIn K (.ref D) (.type "BaseException") = some true
  sub : PySem.W.subIn K (.ref C) (.ref D) = some true
end L2
end
section
namespace L2
open PySem PySem.Spec PyProof.Rows
section
variable {X : Cx} {k : Nat} {f C : Addr} {fd : FuncData} {ps : List Str} {sp : Sp} {dvs : List V} {ds : List Value} {E : XK} {x m : Str} {p pos apos : Pos} {e o : Expr} {es : List Expr} {ta : TE} {t : TA}
end
section
variable {X : Cx} {pins : List (Addr × Obj)} {σ : St} {H1 H2 : Hp} {s1 s2 : Shared} {a C D : Addr} {d n : Str} {np hpos pos : Pos} {b0 : Stmt} {suite : List Stmt} {rest : List ExceptHandler} {j : Nat} {th : TS} {DD : Ends} {E' : Value → Shared → Prop}
variable {te : TE} {E : XK} {e : Expr} {G : Addr → Prop} {tt : Addr → Addr → TS}
end
end L2
namespace L2
open PySem PySem.Spec PyProof.Rows
section
variable {X : Cx} {tg : Expr}
def iSeq (K : PySem.W.Frag) (tl : TE) : TI := fun σ H R => tl σ H fun x H1 => ∃ a, x = .ref a ∧ (((∃ xs, SqL K H1 a xs) ∧ R (Itl K a) H1) ∨ ((∃ xs, SqT K H1 a xs) ∧ R (Itt K a) H1))
theorem pi_seq {l : Expr} {tl : TE} (hl : PE X l tl) : PI X tg l (iSeq X.K tl) := by
  intro pins s σ H R I h
  refine thn (hl pins s σ H _ I h) fun v s1 ⟨x, H1, I1, r1, q1⟩ => ?_
  obtain ⟨a, e, q1⟩ := q1
  subst e
  cases r1
  rcases q1 with ⟨⟨xs, hq⟩, q⟩ | ⟨⟨xs, hq⟩, q⟩
  · obtain ⟨its, rv, p, hz⟩ := I1.list hq
    refine wpAny_pyIter_list p.isList ?_
    refine ⟨s1.heap.objs.size, [s1.heap.objs.size], _, _, H1, rfl, I1.kept (t' := s1.toks) fun b o e => Heap.get?_push_of_some _ e, turn_list a _, ⟨_, Heap.get?_push_size _ rfl, rfl, rfl⟩, fun b hb => ?_, q⟩
    have e : b = s1.heap.objs.size := by simpa using hb
    subst e
    exact I1.fpOk (Nat.le_refl _) (I1.hok.fresh (Nat.le_refl _))
  · obtain ⟨its, rv, p, hz⟩ := I1.tuple hq
    refine wpAny_pyIter_tuple (show s1.heap.IsTuple a its.toArray from p) ?_
    refine ⟨s1.heap.objs.size, [s1.heap.objs.size], _, _, H1, rfl, I1.kept (t' := s1.toks) fun b o e => Heap.get?_push_of_some _ e, turn_tuple a _, ⟨_, Heap.get?_push_size _ rfl, rfl, rfl⟩, fun b hb => ?_, q⟩
    have e : b = s1.heap.objs.size := by simpa using hb
    subst e
    exact I1.fpOk (Nat.le_refl _) (I1.hok.fresh (Nat.le_refl _))
theorem seq_or {K : PySem.W.Frag} {H : Hp} {a : Addr} {xs : List V} {R : It → Hp → Prop} (hS : SqL K H a xs ∨ SqT K H a xs) (h1 : SqL K H a xs → R (Itl K a) H) (h2 : SqT K H a xs → R (Itt K a) H) :
    ((∃ xs, SqL K H a xs) ∧ R (Itl K a) H) ∨ ((∃ xs, SqT K H a xs) ∧ R (Itt K a) H) := hS.elim (fun z => .inl ⟨⟨_, z⟩, h1 z⟩) fun z => .inr ⟨⟨_, z⟩, h2 z⟩
end
end L2
end
section
namespace L2
open PySem PySem.Spec PyProof.Rows PySem.W
structure XCl (K : Frag) (C : Addr) : Prop where
  ga : findIn K (.ref C) "__getattribute__" = some (some (.builtin "BaseException.__getattribute__"))
  gt : findIn K (.ref C) "__getattr__" = some none
  cl : findIn K (.ref C) "__class__" = some (some (.builtin "object.__class__"))
  ob : mroIn K C (.type "object") = some true
  be : mroIn K C (.type "BaseException") = some true
  is : (clsIn K C).isSome = true
section
variable {prog : Program} {w : World} {A : Around} {E : Value → Shared → Prop} {K : Frag} {s : Shared} {a C : Addr} {oe : Obj} {h : Heap} {g : Array GenState} {d : Drawn} {t : Nat} {os : OsState}
structure XAt (h : Heap) (a : Addr) (oe : Obj) (C : Addr) : Prop where
  at_ : h.get? a = some oe
  cls : oe.cls = .ref C
end
end L2
namespace L2
open PySem PySem.Spec PyProof.Rows
theorem turns_seq {K : PySem.W.Frag} {a D : Addr} {xs : List V} {g : TG} {tc : TT} {te : TE} {R : Hp → Prop} {τ : St} {H0 H : Hp} (hS : SqL K H0 a xs ∨ SqT K H0 a xs) (Pv : Nat → St → Hp → Prop) (h0 : Pv 0 τ H) (hl : ∀ i τ H', i ≤ xs.length → Pv i τ H' → Same H0 H')
    (hs : ∀ i x τ H, xs[i]? = some x → Pv i τ H → g x τ H fun τ2 H2 => tc τ2 H2 (putD D (Pv (i + 1)) te τ2)) (hd : ∀ τ H, Pv xs.length τ H → R H) :
    (SqL K H0 a xs → tTurns (Itl K a) D g tc te R τ H) ∧ (SqT K H0 a xs → tTurns (Itt K a) D g tc te R τ H) :=
  ⟨fun z => turns_list Pv h0 (fun i σ H2 hi p => (hl i σ H2 hi p).seq z) hs hd, fun z => turns_tup Pv h0 (fun i σ H2 hi p => (hl i σ H2 hi p).ts.seq z) hs hd⟩
end L2
namespace L2
open PySem PySem.Spec PyProof.Rows
section
variable {X : Cx} {K : PySem.W.Frag} {T id : String} {name : Str} {r : V → List V → Hp → VK → Prop} {o e : Expr} {es : List Expr} {to : TE} {t : TA} {apos cpos : Pos} {tg l : Expr} {tl : TE}
theorem pi_listK (hK : X.K = K) (hl : PE X l tl) : PI X tg l (iList K tl) := by subst hK; exact pi_list hl
end
end L2
end
section
namespace L2
open PySem PySem.Spec PyProof.Rows
section
variable {X : Cx} {st : Stmt} {rest : List Stmt} {t u : TS}
def tMid (t u : TS) : TS := fun D σ H => ∃ M : St → Hp → Prop, t { D with nx := M } σ H ∧ ∀ σ' H', M σ' H' → u D σ' H'
theorem pss_mid (h1 : PS X st t) (h2 : PSs X rest u) : PSs X (st :: rest) (tMid t u) := by
  intro pins s σ H D I h
  obtain ⟨M, ha, hb⟩ := h
  refine wpAny_execs_cons (thn (h1 pins s σ H { D with nx := M } I ha) fun f s1 q => ?_)
  cases f with
  | next =>
    obtain ⟨σ', H', I', q⟩ := q
    exact h2 pins s1 σ' H' D I' (hb _ _ q)
  | ret v => exact q
  | brk => exact q
  | cont => exact q
end
theorem seq_turns {K : PySem.W.Frag} {a : Addr} {xs : List V} {g : TG} {tc : TT} {te : TE} {R : Addr → Hp → Prop} {τ : St} {H : Hp} (hS : SqL K H a xs ∨ SqT K H a xs)
    (h : ∀ D, H D = none → ∃ Pv : Nat → St → Hp → Prop, Pv 0 τ (upd H D (.lst [])) ∧ (∀ i τ H', i ≤ xs.length → Pv i τ H' → Same H H') ∧
      (∀ i x τ H, xs[i]? = some x → Pv i τ H → g x τ H fun τ2 H2 => tc τ2 H2 (putD D (Pv (i + 1)) te τ2)) ∧ (∀ τ H, Pv xs.length τ H → R D H)) :
    ((∃ xs, SqL K H a xs) ∧ ∀ D, H D = none → tTurns (Itl K a) D g tc te (R D) τ (upd H D (.lst []))) ∨ ((∃ xs, SqT K H a xs) ∧ ∀ D, H D = none → tTurns (Itt K a) D g tc te (R D) τ (upd H D (.lst []))) :=
  seq_or (R := fun J H => ∀ D, H D = none → tTurns J D g tc te (R D) τ (upd H D (.lst []))) hS
    (fun z D hD => by obtain ⟨Pv, a, b, c, d⟩ := h D hD; exact (turns_seq hS Pv a b c d).1 z)
    (fun z D hD => by obtain ⟨Pv, a, b, c, d⟩ := h D hD; exact (turns_seq hS Pv a b c d).2 z)
end L2
end
section
namespace L2
open PySem PySem.Spec PyProof.Rows PySem.W
section
variable {X : Cx}
structure Own (K : Frag) (C : Addr) : Prop where
  ha : findIn K (.ref C) "__class__" = some (some (.builtin "object.__class__"))
  hn : specialIn K (.builtin "object.__class__") "__get__" = some (some (.builtin "getset_descriptor.__get__"))
  tk : takesIn K (.builtin "object.__class__") = some true
  hm : mroIn K C (.type "object") = some true
  is : kitOne K (.ref C) (.ref C) = some true
end
end L2
end
section
namespace L2
open PySem PySem.Spec PyProof.Rows
open PySem.W
section
variable {X : Cx} {C : Addr} {x : Str} {p pos : Pos}
theorem isi_base {R : Addr} (c : Cls X.K C) (O : Own X.K C) (is : kitOne X.K (.ref C) (.ref R) = some true) : CallR X (.builtin "isinstance") (fun xs H Q => ∃ p dx fs, xs = [.ref p, .ref R] ∧ H p = some (.ins C dx fs) ∧ Q (.bl true) H) := by
  intro pins s σ H xs us Q I r h
  obtain ⟨p, dx, fs, rfl, hq, q⟩ := h
  obtain ⟨u, v, rfl, ru, rv⟩ := r.two
  cases ru; cases rv
  obtain ⟨mA, M, _, _, _, _⟩ := ins_get I.hok hq
  obtain ⟨od, J, _⟩ := M.look
  have nl : (Value.ref p) ≠ .builtin "__main__.__loader__#opaque" := by intro z; cases z
  exact kia_one (kitx_own (c.get "__class__") c.hd O.ha O.hn O.tk O.hm) I.kIn J is nl fun tk => ⟨.bl true, H, I.tok _, rfl, q⟩
end
end L2
end
section
namespace L2
open PySem PySem.Spec PyProof.Rows
section
variable {κ : Type} [DecidableEq κ]
end
section
variable {P : Program} {w : World} {H : Hp} {h : Heap} {a : Addr}
end
section
variable {X : Cx} {pins : List (Addr × Obj)} {σ : St} {H : Hp} {s : Shared} {a : Addr} {y v : V} {u r : Value} {o : Option V} {A : Around} {E : Value → Shared → Prop}
end
section
variable {X : Cx} {pins : List (Addr × Obj)} {σ : St} {H : Hp} {s : Shared} {a : Addr} {kvs : List (Key × V)} {k : Key} {u : Value} {A : Around} {E : Value → Shared → Prop}
end
section
variable {X : Cx} {o i e value : Expr} {pos pos' tpos : Pos} {td ty tv : TE}
end
section
variable {X : Cx} {pos : Pos}
end
structure M1 (X : Cx) (o : Expr) (m : Str) (apos : Pos) (e : Expr) (cpos : Pos) : Prop where
  base : attributeBase o m X.env (eval o X.env) = eval o X.env
  few : ((backTo cpos (starEach [e] X.env)).all (fun x => !x.1) && (backToKw cpos (keywordEach [] X.env)).all (fun x => x.1.isSome)
    && decide (([e] : List Expr).length + ([] : List Keyword).length + (if ([] : List Keyword).isEmpty then 0 else 1) < 30)) = true
  line : (apos.endLine == cpos.line) = true
  trees : backTo cpos (starEach [e] X.env) = [(false, eval e X.env)]
structure M2 (X : Cx) (o : Expr) (m : Str) (apos : Pos) (e f : Expr) (cpos : Pos) : Prop where
  base : attributeBase o m X.env (eval o X.env) = eval o X.env
  few : ((backTo cpos (starEach [e, f] X.env)).all (fun x => !x.1) && (backToKw cpos (keywordEach [] X.env)).all (fun x => x.1.isSome)
    && decide (([e, f] : List Expr).length + ([] : List Keyword).length + (if ([] : List Keyword).isEmpty then 0 else 1) < 30)) = true
  line : (apos.endLine == cpos.line) = true
  trees : backTo cpos (starEach [e, f] X.env) = [(false, eval e X.env), (false, eval f X.env)]
section
variable {X : Cx} {pins : List (Addr × Obj)} {σ : St} {H : Hp} {s : Shared} {a : Addr} {y d : V} {u r : Value} {o : Option V} {A : Around} {E : Value → Shared → Prop}
end
section
variable {X : Cx} {o e f : Expr} {apos cpos : Pos} {td ty tx : TE}
end
section
variable {X : Cx} {pins : List (Addr × Obj)} {σ : St} {H : Hp} {s : Shared} {a : Addr} {kvs : List (Key × V)} {A : Around} {E : Value → Shared → Prop}
end
section
variable {X : Cx} {pins : List (Addr × Obj)} {σ : St} {H : Hp} {s : Shared} {a : Addr} {y : V} {u : Value} {A : Around} {E : Value → Shared → Prop}
end
end L2
namespace L2
open PySem PySem.Spec PyProof.Rows
section
variable {κ : Type} [DecidableEq κ]
end
end L2
end
section
namespace L2
open PySem PySem.Spec PyProof.Rows
open Sem (wp)
section
variable {prog : Program} {w : World} {A : Around} {E : Value → Shared → Prop} {s : Shared}
end
end L2
end
section
namespace L2
open PySem PySem.Spec PyProof.Rows
section
variable {prog : Program} {w : World} {A : Around} {E : Value → Shared → Prop} {s : Shared} {d : Addr} {o : Obj} {es : Array DictEntry} {ep : Nat}
end
section
variable {X : Cx}
end
end L2
end
section
namespace L2
open PySem PySem.Spec PyProof.Rows
section
variable {prog : Program} {w : World} {A : Around} {E : Value → Shared → Prop} {s : Shared} {d : Addr} {o : Obj} {es : Array DictEntry} {ep : Nat}
end
section
variable {X : Cx}
end
section
variable {X : Cx} {tg : Expr}
end
end L2
end
section
namespace L2
open PySem
open Sem (wp)
section
variable {prog : Program} {w : World} {A : Around} {E : Value → Shared → Prop} {s : Shared}
end
end L2
end
section
namespace L2
open PySem
open Sem (wp)
open AutoSeq1 (wpAny_loadPart')
section
variable {prog : Program} {w : World} {A : Around} {E : Value → Shared → Prop} {s : Shared}
end
section
variable {M : Model} {A : Around} {E : Value → Shared → Prop} {s : Shared} {env : Env}
end
end L2
end
section
namespace L2
open PySem PySem.Spec PyProof.Rows
section
variable {X : Cx} {elts : List Expr} {k : Nat} {tp : Pos}
end
end L2
end
section
namespace L2
open PySem PySem.Spec PyProof.Rows
theorem vals_bool {bs : List Bool} {us : List Value} (r : Vals (bs.map V.bl) us) : us = bs.map Value.bool := by
  induction bs generalizing us with
  | nil => cases r; rfl
  | cons b bs ih =>
    rw [List.map_cons] at r
    cases r with
    | cons h t =>
      rw [ih t, List.map_cons]
      congr 1
section
variable {X : Cx} {K : PySem.W.Frag}
theorem call_all_bools (hc : X.calm = true) : CallR X (.builtin "all") (fun xs H Q => ∃ (p : Addr) (bs : List Bool), xs = [.ref p] ∧ SqL X.K H p (bs.map V.bl) ∧ Q (.bl (bs.all id)) H) := by
  intro pins s σ H xs us Q I r h
  obtain ⟨p, bs, rfl, hq, q⟩ := h
  obtain ⟨u0, rfl, ru⟩ := r.one
  cases ru
  obtain ⟨its, rv, pl, hz⟩ := I.list hq
  have e := vals_bool rv
  subst e
  have hl := pl.isList
  have hlt : p < s.heap.objs.size := by obtain ⟨_, e, _⟩ := hl; exact Heap.lt_size e
  refine call_all_walk (wpAny_pyIter_list hl ?_)
  refine ⟨s.heap.objs.size, [s.heap.objs.size, p], [s.heap.objs.size], (bs.map Value.bool).toArray.size, _, _, fun i => (bs[i]?).getD true, rfl, Walks.list (A := X.A.in1) (I.ok.hd hc) _ p (Nat.ne_of_lt hlt) (bs.map Value.bool).toArray,
    ⟨⟨_, Heap.get?_push_size _ rfl, rfl, rfl⟩, hl.push _⟩, fun i v s' Q' E' hP hQ => ?_, fun h' tk hk => ?_⟩
  · have hP' : (bs.map Value.bool)[i]? = some v := by simpa using hP
    rw [List.getElem?_map] at hP'
    cases g : bs[i]? with
    | none => rw [g] at hP'; cases hP'
    | some b =>
      rw [g] at hP'
      cases hP'
      simp only [g, Option.getD_some] at hQ
      exact wpAny_truthy_bool hQ
  · have e : ((List.range (bs.map Value.bool).toArray.size).all fun i => (bs[i]?).getD true) = bs.all id := by
      rw [List.size_toArray, List.length_map]; exact LSm.range_all bs
    rw [e]
    exact ⟨.bl (bs.all id), H, I.kept (LSm.kept_iter hk), rfl, q⟩
end
end L2
end
section
namespace L2
open PySem PySem.Spec PyProof.Rows
def rBl : Rep Bool := fun _ b v => v = .bl b
theorem paired_bls {H : Hp} : ∀ bs : List Bool, Paired (rBl H) bs (bs.map V.bl)
  | [] => .nil
  | _ :: r => .cons rfl (paired_bls r)
section
variable {X : Cx} {K : PySem.W.Frag} {tg l : Expr} {tl : TE}
theorem dat_bl : Dat X 0 rBl where
  eq := fun pins s σ H A a b x y u v I hu ha hb ru rv => by
    cases ha; cases hb
    cases ru
    cases rv
    have e := SeqAt.EqAt.bool_bool (A := A) (s := s) a b
    rw [Bool.beq_eq_decide_eq] at e
    exact e
  fn := fun pins s σ H a b x I ha hb => by
    cases ha
    exact (V.bl.inj hb)
theorem pi_seqK (hK : X.K = K) (hl : PE X l tl) : PI X tg l (iSeq K tl) := by subst hK; exact pi_seq hl
end
structure FunD (K : PySem.W.Frag) (x qual : Str) (st : Stmt) (f : Addr) (fd : FuncData) (dt : Addr) (items : Array Value) : Prop where
  ex : ∃ (oc : Value) (od : Option Addr) (kV doc pm : Value) (an : Option Addr) (cdv ct : Value) (osl : Array (Option Value)),
    fd = PySem.W.fnOf x qual (defArgs st) (defBody st) (defScope st) (.ref dt) kV doc pm an cdv ct ∧ K.lookup f = some ⟨oc, od, .func fd, osl⟩ ∧ PySem.W.codeIn K cdv qual = true
  tup : ∃ (oc : Value) (od : Option Addr) (n : Nat) (osl : Array (Option Value)), K.lookup dt = some ⟨oc, od, .seq items n, osl⟩
section
variable {P : Program} {w : World} {K : PySem.W.Frag} {mg : Str → Option Value} {base : Heap}
theorem FunD.ok {x qual : Str} {st : Stmt} {f dt : Addr} {items : Array Value} {fd : FuncData} {N ps : List Str} {k : Nat} {sp : Sp} (F : FunD K x qual st f fd dt items) (S : FnScope N ps (defScope st)) (len : ∀ vs H Q E, sp vs H Q E → vs.length = ps.length)
    (hbody : ∀ (cdv : Value) (A : Around) (outer : List Env) (s : Shared) (H : Hp) (vs : List V) (Q : VK) (E : XK), Room k (A.deeper (envOfC qual (defScope st) s.heap.objs.size f cdv)) → sp vs H Q E →
      ∃ t, PSs (cxOf CX0 P w K mg base N qual (defScope st) f cdv A outer s H E).nox (defBody st) t ∧ t { nx := fun _ H' => Q .non H', rt := Q } (start N vs) H) : FnOk P w K mg base CX0 (k + 1) f fd ps sp := by
  obtain ⟨oc, od, kV, doc, pm, an, cdv, ct, osl, rfl, lk, hcd⟩ := F.ex
  refine fn_of lk hcd S len fun A outer s H vs Q E hr hsp => ?_
  obtain ⟨t, h, q⟩ := hbody cdv A outer s H vs Q E hr hsp
  exact ⟨t, h.nox, q⟩
theorem FunD.binds {x qual : Str} {st : Stmt} {f dt : Addr} {items : Array Value} {fd : FuncData} {ps : List Str} {ds : List Value} (F : FunD K x qual st f fd dt items)
    (h : ∀ (kV doc pm : Value) (an : Option Addr) (cdv ct : Value) (us : List Value), (us ++ ds).length = ps.length → ∃ k : Option (Array Value) → Sem (List (Str × Value)), bindArgs (PySem.W.fnOf x qual (defArgs st) (defBody st) (defScope st) (.ref dt) kV doc pm an cdv ct) ⟨us, []⟩ = seqItems? (.ref dt) >>= k ∧ k (some items) = pure (ps.zip (us ++ ds))) : Binds K fd ps ds := by
  obtain ⟨oc, od, kV, doc, pm, an, cdv, ct, osl, rfl, lk, hcd⟩ := F.ex
  obtain ⟨oc', od', n, osl', lt⟩ := F.tup
  intro s us hK hl
  obtain ⟨k, h1, h2⟩ := h kV doc pm an cdv ct us hl
  exact BindsTo.of_defaults (T := dt) rfl (hK _ _ lt) rfl h1 h2
end
end L2
end
section
namespace K51
open PySem L2
def top (i : Nat) : Stmt := PySem.Challenge.pw_frontways_k51_pairs_told_apart.main.body.getD i (.Pass ⟨0, 0, 0, 0⟩)
abbrev sInit : Stmt := inClass (top 12) 0
abbrev sInitP : Stmt := inClass (top 21) 0
abbrev sAllows : Stmt := inClass (top 21) 1
abbrev sFits : Stmt := inClass (top 19) 1
abbrev sSize : Stmt := inClass (top 12) 1
abbrev sTies : Stmt := inClass (top 12) 2
abbrev sAt : Stmt := inClass (top 12) 3
abbrev sAmt : Stmt := top 13
abbrev sChk : Stmt := top 14
abbrev sPts : Stmt := top 15
abbrev sCounts : Stmt := top 16
abbrev sWithin : Stmt := top 17
abbrev sCell : Stmt := top 23
abbrev sMix : Stmt := top 24
abbrev sDraw : Stmt := top 25
abbrev sWeb : Stmt := top 26
abbrev sSome : Stmt := top 27
abbrev sThin : Stmt := top 28
abbrev sRight : Stmt := top 29
abbrev sLaw : Stmt := top 30
theorem ja : ¬ (("amount" : Str) = "joints") := by decide +kernel
def flds (z : Int) (j : Addr) : List (Str × V) := putF "joints" (.ref j) (putF "amount" (.int z) [])
theorem flds_amount (z : Int) (j : Addr) : (flds z j).lookup ("amount" : Str) = some (.int z) := by
  unfold flds
  rw [lookup_putF, if_neg ja, lookup_putF, if_pos rfl]
theorem flds_joints (z : Int) (j : Addr) : (flds z j).lookup ("joints" : Str) = some (.ref j) := by
  unfold flds
  rw [lookup_putF, if_pos rfl]
theorem flds_no (z : Int) (j : Addr) {m : Str} (h1 : ¬ m = "joints") (h2 : ¬ m = "amount") : (flds z j).lookup m = none := by
  unfold flds
  rw [lookup_putF, if_neg h1, lookup_putF, if_neg h2]
  all_goals rfl
structure Txt (K : PySem.W.Frag) (mg : Str → Option Value) (C : Addr) : Prop where
  cl : Cls K C
  nA : NoAttr K C "amount"
  nJ : NoAttr K C "joints"
  mgC : mg "Web" = some (.ref C)
  mp : ∃ t, mg "MOST_POINTS" = some (.int 10 t)
  mt : ∃ t, mg "MOST_TIES" = some (.int 12 t)
  len : mg "len" = none
  range : mg "range" = none
  int : mg "int" = none
  max : mg "max" = none
  min : mg "min" = none
  sorted : mg "sorted" = none
  tuple : mg "tuple" = none
  list : mg "list" = none
  bool : mg "bool" = none
  enum : mg "enumerate" = none
  isi : mg "isinstance" = none
def WebAt (K : PySem.W.Frag) (C : Addr) (H : Hp) (p : Addr) (z : Int) (as : List (List Int)) : Prop := ∃ dx j, H p = some (.ins C dx (flds z j)) ∧ rTup K (rPair K) H as (.ref j)
theorem WebAt.same {K : PySem.W.Frag} {C : Addr} {H H' : Hp} {p : Addr} {z : Int} {as : List (List Int)} (h : WebAt K C H p z as) (e : Same H H') : WebAt K C H' p z as := by
  obtain ⟨dx, j, h1, h2⟩ := h
  exact ⟨dx, j, e _ _ h1, trep_tup (trep_tup trep_int) _ _ _ _ e.ts h2⟩
def spCell (K : PySem.W.Frag) : Sp := fun vs H Q _ => ∃ (a : Addr) (ns : List Int) (k : Int), vs = [.ref a, .int k] ∧ SqL K H a (ns.map V.int) ∧ 0 ≤ k ∧ ∀ c : Int, Q (.int c) H
def spMix : Sp := fun vs H Q _ => ∃ (c k : Int), vs = [.int c, .int k] ∧ ∀ r : Int, Q (.int r) H
def spDraw : Sp := fun vs H Q _ => ∃ (c many most : Int), vs = [.int c, .int many, .int most] ∧ 0 ≤ many ∧ many ≤ 20 ∧ 0 < most ∧ most ≤ 1000 ∧
  ∀ (l : Addr) (ms : List Int) (H' : Hp), Same H H' → H l = none → H' l = some (.lst (ms.map V.int)) → (ms.length : Int) = many → (∀ m ∈ ms, 0 ≤ m ∧ m < most) → Q (.ref l) H'
def spAmt : Sp := fun vs H Q _ => ∃ (p t : Int), vs = [.int p, .int t] ∧ 1 ≤ p ∧ p ≤ 10 ∧ 0 ≤ t ∧ t ≤ 12 ∧ Q .non H
def spPts (K : PySem.W.Frag) : Sp := fun vs H Q _ => ∃ (m a b : Int) (t : Addr), vs = [.int m, .ref t] ∧ SqT K H t [.int a, .int b] ∧ 0 ≤ a ∧ a < b ∧ b < m ∧ Q .non H
def spChk (K : PySem.W.Frag) : Sp := fun vs H Q _ => ∃ (m : Int) (l : Addr) (xs : List V) (as : List (List Int)), vs = [.int m, .ref l] ∧ SqL K H l xs ∧ Paired (rSeq K H) as xs ∧ OkTies m as ∧ as.length ≤ 12 ∧
  ∀ (j : Addr) (H' : Hp), Same H H' → rTup K (rPair K) H' (as.map srt) (.ref j) → Q (.ref j) H'
def spInit (K : PySem.W.Frag) (C : Addr) : Sp := fun vs H Q _ => ∃ (p dx l : Addr) (m : Int) (xs : List V) (as : List (List Int)), vs = [.ref p, .int m, .ref l] ∧ H p = some (.ins C dx []) ∧ SqL K H l xs ∧ Paired (rSeq K H) as xs ∧ OkTies m as ∧ as.length ≤ 12 ∧ 1 ≤ m ∧ m ≤ 10 ∧
  ∀ (H' : Hp), (∀ b o, H b = some o → b ≠ p → H' b = some o) → WebAt K C H' p m (as.map srt) → Q .non H'
def spSize (K : PySem.W.Frag) (C : Addr) : Sp := fun vs H Q _ => ∃ (p : Addr) (m : Int) (as : List (List Int)), vs = [.ref p] ∧ WebAt K C H p m as ∧ Q (.int m) H
def spTies (K : PySem.W.Frag) (C : Addr) : Sp := fun vs H Q _ => ∃ (p : Addr) (m : Int) (as : List (List Int)), vs = [.ref p] ∧ WebAt K C H p m as ∧ ∀ (l : Addr) (H' : Hp), Same H H' → H l = none → rLst K (rPair K) H' as (.ref l) → Q (.ref l) H'
def spAt (K : PySem.W.Frag) (C : Addr) : Sp := fun vs H Q _ => ∃ (p : Addr) (m x : Int) (as : List (List Int)), vs = [.ref p, .int x] ∧ WebAt K C H p m as ∧ as.length ≤ 12 ∧
  ∀ (l : Addr) (H' : Hp), Same H H' → H l = none → H' l = some (.lst ((hits x as).map V.int)) → Q (.ref l) H'
def spLaw (K : PySem.W.Frag) : Sp := fun vs H Q _ => ∃ (a : Addr) (ns : List Int), vs = [.ref a] ∧ SqL K H a (ns.map V.int) ∧ ns.length ≤ 63 ∧ ∀ H', Q (.bl true) H'
section
variable {P : Program} {w : World} {K : PySem.W.Frag} {mg : Str → Option Value} {base : Heap} {f C : Addr} {fd : FuncData}
theorem scCell : FnScope ["_law_script", "_law_k"] ["_law_script", "_law_k"] (defScope sCell) := ⟨rfl, rfl, rfl, by decide +kernel, rfl, by decide +kernel, by decide +kernel⟩
theorem ok_cell (F : Fun K "_law_cell" "_law_cell" sCell f fd) (T : Txt K mg C) : FnOk P w K mg base CX0 1 f fd ["_law_script", "_law_k"] (spCell K) := by
  refine F.ok scCell (fun vs H Q E h => ?_) (fun cdv A outer s H vs Q E hr h => ?_)
  · obtain ⟨a, ns, k, rfl, _⟩ := h
    rfl
  obtain ⟨a, ns, k, rfl, hS, h0, q⟩ := h
  refine ⟨_, pss_one (ps_ret (pe_ifExp (pt_cmpR op_lt (pv 1) (pe_callB call_len_seq rfl T.len PySem.boot_len (pa_cons (pv 0) pa_nil)) (nomark _)) (pe_ix ix_list (pv 0) (pv 1) (fun _ _ => rfl)) pe_int)), ?_⟩
  refine ⟨_, rfl, _, rfl, a, _, rfl, .inl hS, _, _, rfl, rfl, _, rfl, ?_⟩
  refine ite2 (fun c => ?_) (fun c => ?_)
  · have c' : k < (((ns.map V.int).length : Nat) : Int) := of_decide_eq_true c
    rw [List.length_map] at c'
    obtain ⟨v, hv⟩ := atI_ints h0 c'
    exact ⟨_, rfl, _, rfl, a, _, _, _, rfl, rfl, hS, hv, q v⟩
  · exact q 0
theorem scMix : FnScope ["_law_cell_here", "_law_k", "_law_number"] ["_law_cell_here", "_law_k"] (defScope sMix) := ⟨rfl, rfl, rfl, by decide +kernel, rfl, by decide +kernel, by decide +kernel⟩
theorem ok_mix (F : Fun K "_law_mixed" "_law_mixed" sMix f fd) : FnOk P w K mg base CX0 1 f fd ["_law_cell_here", "_law_k"] spMix := by
  refine F.ok scMix (fun vs H Q E h => ?_) (fun cdv A outer s H vs Q E hr h => ?_)
  · obtain ⟨c, k, rfl, _⟩ := h
    rfl
  obtain ⟨c, k, rfl, q⟩ := h
  refine ⟨_, pss_cons (ps_set (i := 2) scMix.nd rfl (Or.inl rfl) (pe_op op_mod (pe_op op_add (pe_op op_add (pe_op op_mul (pe_op op_mod (pv 0) pe_int) pe_int) (pe_op op_mul (pv 1) pe_int)) pe_int) pe_int))
    (pss_one (ps_ret (pe_op op_mod (pe_op op_mul (pv 2) (pv 2)) pe_int))), ?_⟩
  refine ⟨_, rfl, _, _, rfl, rfl, (by show (0 : Int) < 2147483647; decide), _, _, rfl, rfl, .inr ⟨by decide, by decide⟩, _, rfl, _, _, rfl, rfl, .inr ⟨by decide, by decide⟩, _, _, rfl, rfl, _, _, rfl, rfl, _, _, rfl, rfl, (by show (0 : Int) < 2147483629; decide), ?_⟩
  refine ⟨_, rfl, _, rfl, _, _, rfl, rfl, ?_, _, _, rfl, rfl, (by show (0 : Int) < 2147483587; decide), q _⟩
  have h1 := Int.emod_nonneg (c % 2147483647 * 16807 + k * 48271 + 11) (show (2147483629 : Int) ≠ 0 by decide)
  have h2 := Int.emod_lt_of_pos (c % 2147483647 * 16807 + k * 48271 + 11) (show (0 : Int) < 2147483629 by decide)
  exact .inl ⟨by omega, by omega⟩
theorem scDraw : FnScope ["_law_cell_here", "_law_many", "_law_most", "_law_found", "_law_left", "_law_k"] ["_law_cell_here", "_law_many", "_law_most"] (defScope sDraw) := ⟨rfl, rfl, rfl, by decide +kernel, rfl, by decide +kernel, by decide +kernel⟩
theorem ok_draw {fM : Addr} {fdM : FuncData} (F : Fun K "_law_draws" "_law_draws" sDraw f fd) (T : Txt K mg C) (GM : FnOk P w K mg base CX0 1 fM fdM ["_law_cell_here", "_law_k"] spMix) (bM : Binds K fdM ["_law_cell_here", "_law_k"] []) (kM : PySem.W.keepIn K (.ref fM) = true) (mM : mg "_law_mixed" = some (.ref fM)) :
    FnOk P w K mg base CX0 2 f fd ["_law_cell_here", "_law_many", "_law_most"] spDraw := by
  refine F.ok scDraw (fun vs H Q E h => ?_) (fun cdv A outer s H vs Q E hr h => ?_)
  · obtain ⟨c, many, most, rfl, _⟩ := h
    rfl
  obtain ⟨c, many, most, rfl, h0, h1, h2, h3, q⟩ := h
  refine ⟨_, pss_cons (ps_set (i := 3) scDraw.nd rfl (Or.inl rfl) (pe_lst pa_nil))
    (pss_cons (ps_set (i := 4) scDraw.nd rfl (Or.inl rfl) (pe_op op_fdiv (pv 0) pe_int))
    (pss_cons (ps_for PassesOwn.never rfl (pi_range1 rfl T.range (pa_cons (pv 1) pa_nil)) (pg_name (i := 5) scDraw.nd rfl (Or.inl rfl))
      (pss_one (ps_if (pt_cmpR op_eq (pe_op op_mod (pv 0) pe_int) pe_int (nomark _))
        (pss_cons (ps_expr (pe_bm PySem.F.plainAttrs_list PySem.F.slot_list_append PySem.F.type_list_append mt_append (pv 3) (pa_cons (pe_op op_mod (pv 4) (pv 2)) pa_nil)))
          (pss_one (ps_set (i := 4) scDraw.nd rfl (Or.inl rfl) (pe_op op_fdiv (pv 4) (pv 2)))))
        (pss_one (ps_expr (pe_bm PySem.F.plainAttrs_list PySem.F.slot_list_append PySem.F.type_list_append mt_append (pv 3) (pa_cons (pe_op op_mod (pe_call GM hr rfl mM kM bM .nil pass0 (pa_cons (pv 0) (pa_cons (pv 5) pa_nil))) (pv 2)) pa_nil)))))))
    (pss_one (ps_ret (pv 3))))), ?_⟩
  refine ⟨Nat.zero_le _, fun l hl => ?_⟩
  refine ⟨_, rfl, _, _, rfl, rfl, ⟨by decide, by decide⟩, ?_⟩
  refine ⟨_, rfl, many, rfl, by omega, by omega, ?_⟩
  refine for_range (lo := 0) (n := many.toNat) (fun i σ H2 => ∃ (ms : List Int) (left : Int) (kv : Option V), σ = [some (.int c), some (.int many), some (.int most), some (.ref l), some (.int left), kv] ∧ Same H H2 ∧ H2 l = some (.lst (ms.map V.int)) ∧ ms.length = i ∧ ∀ m ∈ ms, 0 ≤ m ∧ m < most)
    ⟨[], _, none, rfl, Same.new hl _, upd_same, rfl, fun m hm => by cases hm⟩ ?_ ?_
  · rintro i σ H2 hi ⟨ms, left, kv, rfl, sm, hL, hn, hb⟩
    have put : ∀ v : Int, 0 ≤ v ∧ v < most → Same H (upd H2 l (.lst (ms.map V.int ++ [.int v]))) ∧ (upd H2 l (.lst (ms.map V.int ++ [.int v]))) l = some (.lst ((ms ++ [v]).map V.int)) ∧ (ms ++ [v]).length = i + 1 ∧ ∀ m ∈ ms ++ [v], 0 ≤ m ∧ m < most := fun v hv => by
      refine ⟨fun b o e => by rw [upd_ne (ne_of_none e hl)]; exact sm b o e, by rw [upd_same, List.map_append]; rfl, by simp [hn], fun m hm => ?_⟩
      rcases List.mem_append.mp hm with hm | hm
      · exact hb m hm
      · rw [List.mem_singleton.mp hm]; exact hv
    have hz : (ms.map V.int).length < sizeLine := by rw [List.length_map]; exact small1000 (by omega)
    refine ⟨_, rfl, _, _, rfl, rfl, (by show (0 : Int) < 2; decide), rfl, _, rfl, ?_⟩
    refine ite2 (fun _ => ?_) (fun _ => ?_)
    · obtain ⟨p1, p2, p3, p4⟩ := put (left % most) ⟨Int.emod_nonneg _ (by omega), Int.emod_lt_of_pos _ h2⟩
      refine ⟨_, rfl, .inl ⟨rfl, _, SqL.of hL⟩, _, rfl, _, rfl, _, _, rfl, rfl, h2, l, _, _, rfl, rfl, hL, hz, ?_⟩
      refine ⟨_, rfl, _, rfl, _, _, rfl, rfl, ⟨h2, by omega⟩, ?_⟩
      exact ⟨_, _, _, rfl, p1, p2, p3, p4⟩
    · refine ⟨_, rfl, .inl ⟨rfl, _, SqL.of hL⟩, _, rfl, _, rfl, _, _, rfl, fun r => ?_⟩
      obtain ⟨p1, p2, p3, p4⟩ := put (r % most) ⟨Int.emod_nonneg _ (by omega), Int.emod_lt_of_pos _ h2⟩
      refine ⟨_, rfl, _, _, rfl, rfl, h2, l, _, _, rfl, rfl, hL, hz, ?_⟩
      exact ⟨_, _, _, rfl, p1, p2, p3, p4⟩
  · rintro σ H2 ⟨ms, left, kv, rfl, sm, hL, hn, hb⟩
    exact ⟨_, rfl, q l ms H2 sm hl hL (by omega) hb⟩
theorem scAmt : FnScope ["points", "ties"] ["points", "ties"] (defScope sAmt) := ⟨rfl, rfl, rfl, by decide +kernel, rfl, by decide +kernel, by decide +kernel⟩
theorem ok_amt (F : Fun K "refuse_amounts" "refuse_amounts" sAmt f fd) (T : Txt K mg C) : FnOk P w K mg base CX0 1 f fd ["points", "ties"] spAmt := by
  refine F.ok scAmt (fun vs H Q E h => ?_) (fun cdv A outer s H vs Q E hr h => ?_)
  · obtain ⟨p, t, rfl, _⟩ := h
    rfl
  obtain ⟨p, t, rfl, h1, h2, h3, h4, q⟩ := h
  obtain ⟨t1, e1⟩ := T.mp
  obtain ⟨t2, e2⟩ := T.mt
  refine ⟨_, pss_cons (ps_if (PW.pt (pw_or (pt_cmpR op_lt (pv 0) pe_int (nomark _)) (pw_or1 (pt_cmpR op_gt (pv 0) (pe_glob (v := .int 10) rfl e1 ⟨t1, rfl⟩) (nomark _))))) pss_never pss_nil)
    (pss_one (ps_if (pt_cmpR op_gt (pv 1) (pe_glob (v := .int 12) rfl e2 ⟨t2, rfl⟩) (nomark _)) pss_never pss_nil)), ?_⟩
  refine ⟨_, rfl, _, _, rfl, rfl, _, rfl, ?_⟩
  refine iteN (by omega) ?_
  refine ⟨_, rfl, _, _, rfl, rfl, _, rfl, ?_⟩
  refine iteN (by omega) ?_
  refine ⟨_, rfl, _, _, rfl, rfl, _, rfl, ?_⟩
  refine iteN (by omega) ?_
  exact q
theorem scPts : FnScope ["many", "tie"] ["many", "tie"] (defScope sPts) := ⟨rfl, rfl, rfl, by decide +kernel, rfl, by decide +kernel, by decide +kernel⟩
theorem at0 {a b : V} : atI [a, b] 0 = some a := rfl
theorem at1 {a b : V} : atI [a, b] 1 = some b := rfl
theorem ok_pts (F : Fun K "refuse_points" "refuse_points" sPts f fd) : FnOk P w K mg base CX0 1 f fd ["many", "tie"] (spPts K) := by
  refine F.ok scPts (fun vs H Q E h => ?_) (fun cdv A outer s H vs Q E hr h => ?_)
  · obtain ⟨m, a, b, t, rfl, _⟩ := h
    rfl
  obtain ⟨m, a, b, t, rfl, hT, h0, h1, h2, q⟩ := h
  refine ⟨_, pss_cons (ps_if (PW.pt (pw_or (pt_cmpR op_lt (pe_ix ix_tup (pv 1) pe_int (fun _ _ => rfl)) pe_int (nomark _)) (pw_or1 (pt_cmpR op_ge (pe_ix ix_tup (pv 1) pe_int (fun _ _ => rfl)) (pv 0) (nomark _))))) pss_never pss_nil)
    (pss_one (ps_if (pt_cmpR op_eq (pe_ix ix_tup (pv 1) pe_int (fun _ _ => rfl)) (pe_ix ix_tup (pv 1) pe_int (fun _ _ => rfl)) (nomark _)) pss_never pss_nil)), ?_⟩
  refine ⟨_, rfl, t, _, _, _, rfl, rfl, hT, at0, _, _, rfl, rfl, _, rfl, ?_⟩
  refine iteN (by omega) ?_
  refine ⟨_, rfl, t, _, _, _, rfl, rfl, hT, at1, _, rfl, _, _, rfl, rfl, _, rfl, ?_⟩
  refine iteN (by omega) ?_
  refine ⟨_, rfl, t, _, _, _, rfl, rfl, hT, at0, _, rfl, t, _, _, _, rfl, rfl, hT, at1, rfl, _, rfl, ?_⟩
  refine iteN (fun e => ?_) q
  have := V.int.inj e
  omega
end
end K51
end
section
namespace K51
open PySem L2
section
variable {P : Program} {w : World} {K : PySem.W.Frag} {mg : Str → Option Value} {base : Heap} {f C : Addr} {fd : FuncData}
theorem scChk : FnScope ["many", "ties", "checked", "handed", "tie"] ["many", "ties"] (defScope sChk) := ⟨rfl, rfl, rfl, by decide +kernel, rfl, by decide +kernel, by decide +kernel⟩
theorem ok_chk {fP : Addr} {fdP : FuncData} (F : Fun K "checked_ties" "checked_ties" sChk f fd) (T : Txt K mg C) (GP : FnOk P w K mg base CX0 1 fP fdP ["many", "tie"] (spPts K)) (bP : Binds K fdP ["many", "tie"] []) (kP : PySem.W.keepIn K (.ref fP) = true) (mP : mg "refuse_points" = some (.ref fP)) :
    FnOk P w K mg base CX0 2 f fd ["many", "ties"] (spChk K) := by
  refine F.ok scChk (fun vs H Q E h => ?_) (fun cdv A outer s H vs Q E hr h => ?_)
  · obtain ⟨m, l, xs, as, rfl, _⟩ := h
    rfl
  obtain ⟨m, l, xs, as, rfl, hS, pa, ok, h12, q⟩ := h
  refine ⟨_, pss_cons (ps_set (i := 2) scChk.nd rfl (Or.inl rfl) (pe_lst pa_nil))
    (pss_cons (ps_for PassesOwn.never rfl (pi_list (pv 1)) (pg_name (i := 3) scChk.nd rfl (Or.inl rfl))
      (pss_cons (ps_set (i := 4) scChk.nd rfl (Or.inl rfl) (pe_callTy call_tuple_of rfl T.tuple PyProof.Rows.boot_tuple (pa_cons (pe_callB call_sorted rfl T.sorted PyProof.Rows.boot_sorted (pa_cons (pv 3) pa_nil)) pa_nil)))
      (pss_cons (ps_expr (pe_call GP hr rfl mP kP bP .nil pass0 (pa_cons (pv 0) (pa_cons (pv 4) pa_nil))))
      (pss_cons (ps_if (pt_cmpR (op_inL (dat_tup dat_int) (un_of hr)) (pv 4) (pv 2) rfl) pss_never pss_nil)
      (pss_one (ps_expr (pe_bm PySem.F.plainAttrs_list PySem.F.slot_list_append PySem.F.type_list_append mt_append (pv 2) (pa_cons (pv 4) pa_nil))))))))
    (pss_one (ps_ret (pe_callTy call_tuple_of rfl T.tuple PyProof.Rows.boot_tuple (pa_cons (pv 2) pa_nil))))), ?_⟩
  refine ⟨Nat.zero_le _, fun c hc => ?_⟩
  have lx : as.length = xs.length := Paired.length pa
  refine ⟨_, rfl, l, rfl, ⟨_, (Same.new hc _).seq hS⟩, for_list (K := K) (a := l) (xs := xs) (fun i σ H2 => ∃ (hv tv : Option V) (ys : List V), σ = [some (.int m), some (.ref l), some (.ref c), hv, tv] ∧ Same H H2 ∧ H2 c = some (.lst ys) ∧ Paired (rPair K H2) ((as.take i).map srt) ys)
    ⟨none, none, [], rfl, Same.new hc _, upd_same, .nil⟩ (fun i σ H2 _ ⟨_, _, _, _, sm, _⟩ => sm.seq hS) ?_ ?_⟩
  · rintro i x σ H2 hx ⟨hv, tv, ys, rfl, sm, hC, pc⟩
    obtain ⟨t, ht, rt0⟩ := Paired.get pa hx
    obtain ⟨p, rfl, hp⟩ := rSeq_seq rt0
    obtain ⟨a, b, rfl, a0, a1, b0, b1, nab⟩ := ok.ok t (List.mem_of_getElem? ht)
    have hp2 : SqL K H2 p ([a, b].map V.int) ∨ SqT K H2 p ([a, b].map V.int) := hp.elim (fun z => .inl (sm.seq z)) fun z => .inr (sm.ts.seq z)
    refine ⟨_, rfl, p, [a, b], rfl, hp2, (by show 2 < 64; decide), fun l1 ms hl1 perm pw => ?_⟩
    have em := perm_pair perm pw
    subst em
    refine ⟨l1, _, rfl, .inl ⟨SqL.of upd_same, fun t1 ht1 => ?_⟩⟩
    have hT : (upd (upd H2 l1 (.lst ((srt [a, b]).map V.int))) t1 (.tup ((srt [a, b]).map V.int))) t1 = some (.tup ((srt [a, b]).map V.int)) := upd_same
    have s1 : Same H2 (upd (upd H2 l1 (.lst ((srt [a, b]).map V.int))) t1 (.tup ((srt [a, b]).map V.int))) := (Same.new hl1 _).trans (Same.new ht1 _)
    generalize hH3 : upd (upd H2 l1 (.lst ((srt [a, b]).map V.int))) t1 (.tup ((srt [a, b]).map V.int)) = H3 at hT s1 ⊢
    have hlen : (srt [a, b]).length = 2 := by rw [srt_pair]; split <;> rfl
    have pts : ∃ u v : Int, srt [a, b] = [u, v] ∧ 0 ≤ u ∧ u < v ∧ v < m := by
      rw [srt_pair]
      split
      · exact ⟨b, a, rfl, b0, by omega, a1⟩
      · exact ⟨a, b, rfl, a0, by omega, b1⟩
    obtain ⟨u, v, euv, u0, uv, vm⟩ := pts
    have hT2 : SqT K H3 t1 [.int u, .int v] := by
      have e := SqT.of (K := K) hT
      rw [euv] at e
      exact e
    refine ⟨_, rfl, _, rfl, m, u, v, t1, rfl, hT2, u0, uv, vm, ?_⟩
    have hC3 : H3 c = some (.lst ys) := s1 _ _ hC
    have pc3 : Paired (rPair K H3) ((as.take i).map srt) ys := Paired.imp (fun a b => trep_tup trep_int H2 H3 a b s1.ts) pc
    have rt : rPair K H3 (srt [a, b]) (.ref t1) := rPair_of hT
    refine ⟨_, rfl, _, rfl, _, _, rt, .inl ⟨c, ys, rfl, SqL.of hC3, pc3⟩, _, rfl, ?_⟩
    refine iteN (ok.take_new ht) ?_
    have hys : ys.length ≤ 12 := by
      rw [← Paired.length pc, List.length_map, List.length_take]
      omega
    refine ⟨_, rfl, .inl ⟨rfl, _, SqL.of hC3⟩, _, rfl, c, ys, _, rfl, rfl, hC3, small1000 (by omega), ?_⟩
    refine ⟨_, _, _, rfl, fun b o e => ?_, upd_same, ?_⟩
    · rw [upd_ne (ne_of_none e hc)]
      exact s1 _ _ (sm b o e)
    · have e : as.take (i + 1) = as.take i ++ [[a, b]] := by rw [List.take_add_one, ht]; rfl
      rw [e, List.map_append, List.map_singleton]
      have ts : TSm H3 (upd H3 c (.lst (ys ++ [.ref t1]))) := TSm.lst hC3
      exact Paired.app (Paired.imp (fun a b => trep_tup trep_int H3 _ a b ts) pc3) (Paired.one (trep_tup trep_int H3 _ _ _ ts rt))
  · rintro σ H2 ⟨hv, tv, ys, rfl, sm, hC, pc⟩
    rw [← lx, List.take_length] at pc
    refine ⟨_, rfl, c, _, rfl, .inl ⟨SqL.of hC, fun j hj => ?_⟩⟩
    refine q j _ (sm.trans (Same.new hj _)) ⟨j, ys, rfl, SqT.of upd_same, ?_⟩
    exact Paired.imp (fun a b => trep_tup trep_int H2 _ a b (TSm.new hj)) pc
theorem scInit : FnScope ["self", "many", "ties"] ["self", "many", "ties"] (defScope sInit) := ⟨rfl, rfl, rfl, by decide +kernel, rfl, by decide +kernel, by decide +kernel⟩
theorem ok_init {fA fC : Addr} {fdA fdC : FuncData} (F : Fun K "__init__" "Web.__init__" sInit f fd) (T : Txt K mg C)
    (GA : FnOk P w K mg base CX0 1 fA fdA ["points", "ties"] spAmt) (bA : Binds K fdA ["points", "ties"] []) (kA : PySem.W.keepIn K (.ref fA) = true) (mA : mg "refuse_amounts" = some (.ref fA))
    (GC : FnOk P w K mg base CX0 2 fC fdC ["many", "ties"] (spChk K)) (bC : Binds K fdC ["many", "ties"] []) (kC : PySem.W.keepIn K (.ref fC) = true) (mC : mg "checked_ties" = some (.ref fC)) :
    FnOk P w K mg base CX0 3 f fd ["self", "many", "ties"] (spInit K C) := by
  refine F.ok scInit (fun vs H Q E h => ?_) (fun cdv A outer s H vs Q E hr h => ?_)
  · obtain ⟨p, dx, l, m, xs, as, rfl, _⟩ := h
    rfl
  obtain ⟨p, dx, l, m, xs, as, rfl, hP, hS, pa, ok, h12, h1, h10, q⟩ := h
  have lx : as.length = xs.length := Paired.length pa
  refine ⟨_, pss_cons (ps_expr (pe_call GA (hr.mono (by decide)) rfl mA kA bA .nil pass0 (pa_cons (pv 1) (pa_cons (pe_callB call_len_seq rfl T.len PySem.boot_len (pa_cons (pv 2) pa_nil)) pa_nil))))
    (pss_cons (ps_fld (pv 0) (pv 1) rfl)
    (pss_one (ps_fld (pv 0) (pe_call GC hr rfl mC kC bC .nil pass0 (pa_cons (pv 1) (pa_cons (pv 2) pa_nil))) rfl))), ?_⟩
  refine ⟨_, rfl, _, rfl, l, _, rfl, .inl hS, m, _, rfl, h1, h10, by omega, by omega, ?_⟩
  refine ⟨_, rfl, _, rfl, p, C, dx, [], rfl, hP, T.cl, T.nA, (by show 0 < 1000; decide), ?_⟩
  have ts : TSm H (upd H p (.ins C dx (putF "amount" (.int m) []))) := fun b u hb t => by
    rw [upd_ne ?_]
    · exact hb
    · rintro rfl
      rw [hP] at hb
      cases hb
      obtain ⟨ys, e | ⟨o, e⟩⟩ := t
      · cases e
      · cases e
  have sl : ∀ {a : Addr} {zs : List V}, SqL K H a zs → SqL K (upd H p (.ins C dx (putF "amount" (.int m) []))) a zs := fun {a zs} h => by
    rcases h with (h | ⟨o, h⟩) | h
    · exact .inl (.inl (by rw [upd_ne (ne_of h hP (by intro z; cases z))]; exact h))
    · exact .inl (.inr ⟨o, by rw [upd_ne (ne_of h hP (by intro z; cases z))]; exact h⟩)
    · exact .inr h
  have pa' : Paired (rSeq K (upd H p (.ins C dx (putF "amount" (.int m) [])))) as xs := Paired.imp (fun t x h => by
    rcases h with ⟨q, zs, rfl, hq, pz⟩ | h
    · exact .inl ⟨q, zs, rfl, sl hq, pz⟩
    · exact .inr (trep_tup trep_int _ _ _ _ ts h)) pa
  refine ⟨_, rfl, _, rfl, m, l, xs, as, rfl, sl hS, pa', ok, h12, fun j H' sm rj => ?_⟩
  have hP' : H' p = some (.ins C dx (putF "amount" (.int m) [])) := sm _ _ upd_same
  refine ⟨_, rfl, p, C, dx, _, rfl, hP', T.cl, T.nJ, (by show 1 < 1000; decide), ?_⟩
  refine q _ (fun b o e hb => ?_) ⟨dx, j, upd_same, ?_⟩
  · rw [upd_ne hb]
    exact sm _ _ (by rw [upd_ne hb]; exact e)
  · refine trep_tup (trep_tup trep_int) _ _ _ _ (fun b u hb t => ?_) rj
    rw [upd_ne ?_]
    · exact hb
    · rintro rfl
      rw [hP'] at hb
      cases hb
      obtain ⟨ys, e | ⟨o, e⟩⟩ := t
      · cases e
      · cases e
theorem scSize : FnScope ["self"] ["self"] (defScope sSize) := ⟨rfl, rfl, rfl, by decide +kernel, rfl, by decide +kernel, by decide +kernel⟩
theorem ok_size (F : Fun K "size" "Web.size" sSize f fd) (T : Txt K mg C) : FnOk P w K mg base CX0 1 f fd ["self"] (spSize K C) := by
  refine F.ok scSize (fun vs H Q E h => ?_) (fun cdv A outer s H vs Q E hr h => ?_)
  · obtain ⟨p, m, as, rfl, _⟩ := h
    rfl
  obtain ⟨p, m, as, rfl, ⟨dx, j, hP, hj⟩, q⟩ := h
  refine ⟨_, pss_one (ps_ret (pe_fld (pv 0) rfl)), ?_⟩
  exact ⟨_, rfl, p, C, dx, _, _, rfl, hP, T.cl, T.nA, flds_amount _ _, q⟩
theorem scTies : FnScope ["self"] ["self"] (defScope sTies) := ⟨rfl, rfl, rfl, by decide +kernel, rfl, by decide +kernel, by decide +kernel⟩
theorem ok_ties (F : Fun K "ties" "Web.ties" sTies f fd) (T : Txt K mg C) : FnOk P w K mg base CX0 1 f fd ["self"] (spTies K C) := by
  refine F.ok scTies (fun vs H Q E h => ?_) (fun cdv A outer s H vs Q E hr h => ?_)
  · obtain ⟨p, m, as, rfl, _⟩ := h
    rfl
  obtain ⟨p, m, as, rfl, ⟨dx, j, hP, j', xs, ej, hj, pj⟩, q⟩ := h
  cases ej
  refine ⟨_, pss_one (ps_ret (pe_callTy call_list_of rfl T.list PyProof.Rows.boot_list (pa_cons (pe_fld (pv 0) rfl) pa_nil))), ?_⟩
  refine ⟨_, rfl, p, C, dx, _, _, rfl, hP, T.cl, T.nJ, flds_joints _ _, j, xs, rfl, .inr hj, fun l hl => ?_⟩
  refine q l _ (Same.new hl _) hl ⟨l, xs, rfl, SqL.of upd_same, ?_⟩
  exact Paired.imp (fun a b => trep_tup trep_int H _ a b (TSm.new hl)) pj
theorem scAt : FnScope ["self", "point"] ["self", "point"] (defScope sAt) := ⟨rfl, rfl, rfl, by decide +kernel, rfl, by decide +kernel, by decide +kernel⟩
theorem ok_at (F : Fun K "at" "Web.at" sAt f fd) (T : Txt K mg C) : FnOk P w K mg base CX0 1 f fd ["self", "point"] (spAt K C) := by
  refine F.ok scAt (fun vs H Q E h => ?_) (fun cdv A outer s H vs Q E hr h => ?_)
  · obtain ⟨p, m, x, as, rfl, _⟩ := h
    rfl
  obtain ⟨p, m, x, as, rfl, ⟨dx, j, hP, j', xs, ej, hj, pj⟩, h12, q⟩ := h
  cases ej
  refine ⟨_, pss_one (ps_ret (pe_comp (defScope sAt) ["number", "tie"] ["point"] [1] rfl rfl (by decide +kernel) ⟨⟨rfl, by decide +kernel⟩, trivial⟩ (pi_enumT rfl T.enum (pa_cons (pe_fld (pv 0) rfl) pa_nil))
    (fun _ _ _ => pg_tupK (K := K) (n := 2) rfl rfl (pgs_cons (pg_name (i := 0) (show ((["number", "tie"] : List Str) ++ (["point"] : List Str)).Nodup by decide +kernel) rfl (Or.inl rfl)) (pgs_cons (pg_name (i := 1) (show ((["number", "tie"] : List Str) ++ (["point"] : List Str)).Nodup by decide +kernel) rfl (Or.inl rfl)) pgs_nil)))
    (fun _ _ _ => pifs_one (pt_cmpR (op_in_seqK (K := K) rfl) (pv 2) (pv 1) rfl))
    (fun _ _ _ => pv 0))), ?_⟩
  refine ⟨_, rfl, p, C, dx, _, _, rfl, hP, T.cl, T.nJ, flds_joints _ _, j, rfl, ⟨_, hj⟩, fun D hD => ?_⟩
  have lx : as.length = xs.length := Paired.length pj
  refine turns_enum (xs := xs) (fun i τ H2 => ∃ n t : Option V, τ = [n, t, some (.int x)] ∧ Same H H2 ∧ H2 D = some (.lst ((hits x (as.take i)).map V.int))) ⟨none, none, rfl, Same.new hD _, upd_same⟩
    (fun i τ H2 _ ⟨_, _, _, sm, _⟩ => sm.ts.seq hj) ?_ ?_
  · rintro i y τ H2 T1 hy hT1 ⟨n, t, rfl, sm, hD2⟩
    obtain ⟨tie, ht, rt⟩ := Paired.get pj hy
    obtain ⟨q1, rfl, hq1⟩ := rPair_seq rt
    have s1 : Same H2 (upd H2 T1 (.tup [.int i, .ref q1])) := Same.new hT1 _
    refine ⟨T1, _, rfl, SqT.of upd_same, rfl, _, _, rfl, _, _, rfl, rfl, ?_⟩
    refine ⟨_, rfl, _, rfl, q1, _, rfl, .inr (s1.ts.seq (sm.ts.seq hq1)), rfl, ?_, _, rfl, ?_⟩
    · simp [flatV]
    · rw [if_neg (by decide), inV_ints]
      have hD3 : (upd H2 T1 (.tup [.int i, .ref q1])) D = some (.lst ((hits x (as.take i)).map V.int)) := s1 _ _ hD2
      have hlt : i < as.length := (List.getElem?_eq_some_iff.mp ht).1
      refine ite2 (fun c => ?_) (fun c => ?_)
      · have c' : x ∈ tie := of_decide_eq_true c
        refine ⟨_, rfl, _, hD3, ?_, _, _, rfl, fun b o e => ?_, ?_⟩
        · have : (hits x (as.take i)).length ≤ (as.take i).length := hits_len x 0 (as.take i)
          rw [List.length_map]
          rw [List.length_take] at this
          exact small1000 (by omega)
        · rw [upd_ne (ne_of_none e hD)]
          exact s1 _ _ (sm b o e)
        · rw [upd_same, hits_take ht, if_pos c', List.map_append]
          rfl
      · have c' : ¬ x ∈ tie := fun z => c (decide_eq_true z)
        refine ⟨_, _, rfl, sm.trans s1, ?_⟩
        rw [hD3, hits_take ht, if_neg c', List.append_nil]
  · rintro τ H2 ⟨n, t, rfl, sm, hD2⟩
    rw [← lx, List.take_length] at hD2
    exact q D H2 sm hD hD2
end
end K51
end
section
namespace K51
open PySem L2
def spWeb (K : PySem.W.Frag) : Sp := fun vs H Q _ => ∃ (a : Addr) (ns : List Int) (at_ : Int), vs = [.ref a, .int at_] ∧ SqL K H a (ns.map V.int) ∧ 0 ≤ at_ ∧
  ∀ (t l : Addr) (z : Int) (xs : List V) (as : List (List Int)) (H' : Hp), Same H H' → H' t = some (.tup [.int z, .ref l]) → H' l = some (.lst xs) → H l = none → Paired (rPair K H') as xs → 1 ≤ z → z ≤ 10 → as.length ≤ 12 → OkTies z as → Q (.ref t) H'
section
variable {P : Program} {w : World} {K : PySem.W.Frag} {mg : Str → Option Value} {base : Heap} {f C : Addr} {fd : FuncData}
theorem scWeb : FnScope ["_law_script", "_law_at", "_law_points", "_law_ties", "_law_many", "_law_number", "_law_one", "_law_other"] ["_law_script", "_law_at"] (defScope sWeb) := ⟨rfl, rfl, rfl, by decide +kernel, rfl, by decide +kernel, by decide +kernel⟩
theorem drawn {z v : Int} (h1 : 1 ≤ z) (h10 : z ≤ 10) (hz : 1 < z) (v0 : 0 ≤ v) (vm : v < z * (z - 1)) : OkTie z [v / (z - 1), v % (z - 1) + (if decide (v / (z - 1) ≤ v % (z - 1)) = true then 1 else 0)] := by
  have a0 : 0 ≤ v / (z - 1) := Int.ediv_nonneg v0 (by omega)
  have a1 : v / (z - 1) < z := Int.ediv_lt_of_lt_mul (by omega) vm
  have b0 : 0 ≤ v % (z - 1) := Int.emod_nonneg _ (by omega)
  have b1 : v % (z - 1) < z - 1 := Int.emod_lt_of_pos _ (by omega)
  refine ⟨_, _, rfl, a0, a1, ?_⟩
  by_cases h : v / (z - 1) ≤ v % (z - 1)
  · rw [decide_eq_true h]
    simp only [if_true]
    omega
  · rw [decide_eq_false h]
    simp only [Bool.false_eq_true, if_false]
    omega
theorem ok_web {fC fD : Addr} {fdC fdD : FuncData} (F : Fun K "_law_web" "_law_web" sWeb f fd) (T : Txt K mg C)
    (GC : FnOk P w K mg base CX0 1 fC fdC ["_law_script", "_law_k"] (spCell K)) (bC : Binds K fdC ["_law_script", "_law_k"] []) (kC : PySem.W.keepIn K (.ref fC) = true) (mC : mg "_law_cell" = some (.ref fC))
    (GD : FnOk P w K mg base CX0 2 fD fdD ["_law_cell_here", "_law_many", "_law_most"] spDraw) (bD : Binds K fdD ["_law_cell_here", "_law_many", "_law_most"] []) (kD : PySem.W.keepIn K (.ref fD) = true) (mD : mg "_law_draws" = some (.ref fD)) :
    FnOk P w K mg base CX0 3 f fd ["_law_script", "_law_at"] (spWeb K) := by
  refine F.ok scWeb (fun vs H Q E h => ?_) (fun cdv A outer s H vs Q E hr h => ?_)
  · obtain ⟨a, ns, at_, rfl, _⟩ := h
    rfl
  obtain ⟨a, ns, at_, rfl, hS, at0, q⟩ := h
  have hr1 : Room 1 _ := hr.mono (by decide)
  have hu := hr.units
  refine ⟨_, pss_cons (ps_set (i := 2) scWeb.nd rfl (Or.inl rfl) (pe_op op_add pe_int (pe_op op_mod (pe_call GC hr1 rfl mC kC bC .nil pass0 (pa_cons (pv 0) (pa_cons (pv 1) pa_nil))) pe_int)))
    (pss_cons (ps_set (i := 3) scWeb.nd rfl (Or.inl rfl) (pe_lst pa_nil))
    (pss_cons (ps_set (i := 4) scWeb.nd rfl (Or.inl rfl) (pe_op op_mul (pe_op op_mod (pe_op op_fdiv (pe_call GC hr1 rfl mC kC bC .nil pass0 (pa_cons (pv 0) (pa_cons (pv 1) pa_nil))) pe_int) pe_int) (pe_callTy call_int1 rfl T.int PyProof.Rows.boot_int (pa_cons (pe_cmpR op_gt (pv 2) pe_int (nomark _)) pa_nil))))
    (pss_cons (ps_for PassesOwn.never rfl (pi_list (pe_call GD hr rfl mD kD bD .nil pass0 (pa_cons (pe_call GC hr1 rfl mC kC bC .nil pass0 (pa_cons (pv 0) (pa_cons (pe_op op_add (pv 1) pe_int) pa_nil))) (pa_cons (pv 4) (pa_cons (pe_callB (call_max2 rfl) rfl T.max PyProof.Rows.boot_max (pa_cons pe_int (pa_cons (pe_op op_mul (pv 2) (pe_op op_sub (pv 2) pe_int)) pa_nil))) pa_nil)))))
        (pg_name (i := 5) scWeb.nd rfl (Or.inl rfl))
      (pss_cons (ps_set (i := 6) scWeb.nd rfl (Or.inl rfl) (pe_op op_fdiv (pv 5) (pe_op op_sub (pv 2) pe_int)))
      (pss_cons (ps_set (i := 7) scWeb.nd rfl (Or.inl rfl) (pe_op op_mod (pv 5) (pe_op op_sub (pv 2) pe_int)))
      (pss_cons (ps_set (i := 7) scWeb.nd rfl (Or.inl rfl) (pe_op op_add (pv 7) (pe_callTy call_int1 rfl T.int PyProof.Rows.boot_int (pa_cons (pe_cmpR op_ge (pv 7) (pv 6) (nomark _)) pa_nil))))
      (pss_one (ps_if (PW.pt (pw_and (pt_cmpR (op_notInL (dat_tup dat_int) (un_of hr)) (pe_tup (pa_cons (pv 6) (pa_cons (pv 7) pa_nil))) (pv 3) rfl) (pw_and1 (pt_cmpR (op_notInL (dat_tup dat_int) (un_of hr)) (pe_tup (pa_cons (pv 7) (pa_cons (pv 6) pa_nil))) (pv 3) rfl))))
        (pss_one (ps_expr (pe_bm PySem.F.plainAttrs_list PySem.F.slot_list_append PySem.F.type_list_append mt_append (pv 3) (pa_cons (pe_tup (pa_cons (pv 6) (pa_cons (pv 7) pa_nil))) pa_nil)))) pss_nil))))))
    (pss_one (ps_ret (pe_tup (pa_cons (pv 2) (pa_cons (pv 3) pa_nil)))))))), ?_⟩
  refine ⟨_, rfl, _, rfl, a, ns, at_, rfl, hS, at0, fun c => ?_⟩
  refine ⟨_, _, rfl, rfl, (by show (0 : Int) < 10; decide), _, _, rfl, rfl, ?_⟩
  have z1 : (1 : Int) ≤ 1 + c % 10 := by omega
  have z10 : (1 : Int) + c % 10 ≤ 10 := by omega
  dsimp only
  generalize hz : (1 : Int) + c % 10 = z at z1 z10 ⊢
  refine ⟨Nat.zero_le _, fun l hl => ?_⟩
  have s1 : Same H (upd H l (.lst [])) := Same.new hl _
  refine ⟨_, rfl, _, rfl, a, ns, at_, rfl, s1.seq hS, at0, fun c2 => ?_⟩
  refine ⟨_, _, rfl, rfl, ⟨by decide, by decide⟩, _, _, rfl, rfl, (by show (0 : Int) < 13; decide), _, rfl, _, _, rfl, rfl, .inr ⟨_, rfl, ?_⟩⟩
  have y0 : 0 ≤ c2 / 10 % 13 := Int.emod_nonneg _ (by decide)
  have y1 : c2 / 10 % 13 < 13 := Int.emod_lt_of_pos _ (by decide)
  refine ⟨_, _, rfl, rfl, .inl ⟨by omega, by omega⟩, ?_⟩
  have many : ∃ k : Int, c2 / 10 % 13 * (if decide (1 < z) = true then (1 : Int) else 0) = k ∧ 0 ≤ k ∧ k ≤ 12 ∧ (0 < k → 1 < z) := by
    refine ⟨_, rfl, ?_⟩
    by_cases h : 1 < z
    · rw [decide_eq_true h]
      simp only [if_true, Int.mul_one]
      omega
    · rw [decide_eq_false h]
      simp only [Bool.false_eq_true, if_false, Int.mul_zero]
      omega
  obtain ⟨k, ek, k0, k12, kz⟩ := many
  dsimp only
  rw [ek]
  refine ⟨_, rfl, _, rfl, _, _, rfl, rfl, a, ns, at_ + 1, rfl, s1.seq hS, by omega, fun c3 => ?_⟩
  refine ⟨_, rfl, _, rfl, _, rfl, _, _, rfl, rfl, _, _, rfl, rfl, .inl ⟨by omega, by omega⟩, 1, z * (z - 1), rfl, ?_⟩
  have zz : 0 ≤ z * (z - 1) ∧ z * (z - 1) ≤ 90 := by
    have : z = 1 ∨ z = 2 ∨ z = 3 ∨ z = 4 ∨ z = 5 ∨ z = 6 ∨ z = 7 ∨ z = 8 ∨ z = 9 ∨ z = 10 := by omega
    rcases this with h | h | h | h | h | h | h | h | h | h <;> subst h <;> decide
  refine ⟨c3, k, _, rfl, k0, by omega, by split <;> omega, by split <;> omega, fun l2 ms H2 s2 n2 e2 hms hb => ?_⟩
  have hl2 : H2 l = some (.lst []) := s2 _ _ upd_same
  have sH : Same H H2 := s1.trans s2
  have lms : (ms.map V.int).length = ms.length := List.length_map _
  refine ⟨l2, rfl, ⟨_, SqL.of e2⟩, for_list (K := K) (a := l2) (xs := ms.map V.int) (fun i σ H3 => ∃ (v4 v5 v6 : Option V) (xs : List V) (as : List (List Int)), σ = [some (.ref a), some (.int at_), some (.int z), some (.ref l), some (.int k), v4, v5, v6] ∧ Same H H3 ∧ H3 l2 = some (.lst (ms.map V.int)) ∧ H3 l = some (.lst xs) ∧ Paired (rPair K H3) as xs ∧ as.length ≤ i ∧ OkTies z as)
    ⟨none, none, none, [], [], rfl, sH, e2, hl2, .nil, Nat.le_refl _, ⟨(fun t ht => by cases ht), List.nodup_nil⟩⟩ (fun i σ H3 _ ⟨_, _, _, _, _, _, _, e3, _⟩ => SqL.of e3) ?_ ?_⟩
  · rintro i y σ H3 hy ⟨v4, v5, v6, xs, as, rfl, s3, e3, hL, pl, hlen, ok⟩
    have hi : i < ms.length := by rw [← lms]; exact (List.getElem?_eq_some_iff.mp hy).1
    rw [List.getElem?_map, List.getElem?_eq_getElem hi] at hy
    have ey : y = .int ms[i] := (Option.some.inj hy).symm
    subst ey
    obtain ⟨v0, vm⟩ := hb _ (List.getElem_mem hi)
    have hz1 : 1 < z := kz (by omega)
    have vm' : ms[i] < z * (z - 1) := by
      have hz2 : (1 : Int) ≤ z * (z - 1) := by
        have : z = 2 ∨ z = 3 ∨ z = 4 ∨ z = 5 ∨ z = 6 ∨ z = 7 ∨ z = 8 ∨ z = 9 ∨ z = 10 := by omega
        rcases this with h | h | h | h | h | h | h | h | h <;> subst h <;> decide
      split at vm <;> omega
    have okt := drawn z1 z10 hz1 v0 vm'
    refine ⟨_, rfl, _, rfl, _, _, rfl, rfl, _, _, rfl, rfl, ⟨by omega, by omega⟩, ?_⟩
    refine ⟨_, rfl, _, rfl, _, _, rfl, rfl, _, _, rfl, rfl, (by show 0 < z - 1; omega), ?_⟩
    refine ⟨_, rfl, _, rfl, _, rfl, _, _, rfl, rfl, .inr ⟨_, rfl, ?_⟩⟩
    refine ⟨_, _, rfl, rfl, ?_⟩
    dsimp only
    generalize ho : ms[i] / (z - 1) = one at okt ⊢
    generalize hq : ms[i] % (z - 1) + (if decide (one ≤ ms[i] % (z - 1)) = true then 1 else 0) = oth at okt ⊢
    refine ⟨_, rfl, _, rfl, (by show 2 ≤ sizeLine; decide), fun t1 ht1 => ?_⟩
    have st1 : Same H3 (upd H3 t1 (.tup [.int one, .int oth])) := Same.new ht1 _
    have rt1 : rPair K (upd H3 t1 (.tup [.int one, .int oth])) [one, oth] (.ref t1) := rPair_of upd_same
    have pl1 : Paired (rPair K (upd H3 t1 (.tup [.int one, .int oth]))) as xs := Paired.imp (fun a b => trep_tup trep_int _ _ a b st1.ts) pl
    refine ⟨_, rfl, _, _, rt1, .inl ⟨l, xs, rfl, SqL.of (st1 _ _ hL), pl1⟩, _, rfl, ?_⟩
    by_cases c1 : [one, oth] ∈ as
    · refine iteNP c1 (iteF ?_)
      exact ⟨_, _, _, xs, as, rfl, s3.trans st1, st1 _ _ e3, st1 _ _ hL, pl1, by omega, ok⟩
    · refine iteNN c1 ?_
      refine ⟨_, rfl, _, rfl, (by show 2 ≤ sizeLine; decide), fun t2 ht2 => ?_⟩
      have st2 := Same.new ht2 (.tup [.int oth, .int one])
      generalize hH4 : upd (upd H3 t1 (.tup [.int one, .int oth])) t2 (.tup [.int oth, .int one]) = H4 at st2 ⊢
      have s34 : Same H3 H4 := st1.trans st2
      have rt2 : rPair K H4 [oth, one] (.ref t2) := rPair_of (by rw [← hH4]; exact upd_same)
      have pl2 : Paired (rPair K H4) as xs := Paired.imp (fun a b => trep_tup trep_int _ _ a b st2.ts) pl1
      refine ⟨_, rfl, _, _, rt2, .inl ⟨l, xs, rfl, SqL.of (s34 _ _ hL), pl2⟩, _, rfl, ?_⟩
      by_cases c2 : [oth, one] ∈ as
      · refine iteNP c2 ?_
        exact ⟨_, _, _, xs, as, rfl, s3.trans s34, s34 _ _ e3, s34 _ _ hL, pl2, by omega, ok⟩
      · refine iteNN c2 ?_
        refine ⟨_, rfl, .inl ⟨rfl, _, SqL.of (s34 _ _ hL)⟩, _, rfl, _, rfl, (by show 2 ≤ sizeLine; decide), fun t3 ht3 => ?_⟩
        have st3 := Same.new ht3 (.tup [.int one, .int oth])
        have hL5 := st3 _ _ (s34 _ _ hL)
        have lxs : xs.length = as.length := (Paired.length pl).symm
        refine ⟨l, xs, _, rfl, rfl, hL5, small1000 (by omega), ?_⟩
        have nl : ∀ b o, H b = some o → b ≠ l := fun b o e => ne_of_none e hl
        refine ⟨_, _, _, _, as ++ [[one, oth]], rfl, fun b o e => ?_, ?_, upd_same, ?_, ?_, ok.snoc okt c1 c2⟩
        · rw [upd_ne (nl b o e)]
          exact st3 _ _ (s34 _ _ (s3 b o e))
        · have : l2 ≠ l := fun e => by
            rw [e] at n2
            rw [upd_same] at n2
            cases n2
          rw [upd_ne this]
          exact st3 _ _ (s34 _ _ e3)
        · have ts := TSm.lst (o := .lst (xs ++ [.ref t3])) hL5
          have r3 : rPair K (upd H4 t3 (.tup [.int one, .int oth])) [one, oth] (.ref t3) := rPair_of upd_same
          exact Paired.app (Paired.imp (fun a b => trep_tup trep_int _ _ a b (st3.ts.trans ts)) pl2) (Paired.one (trep_tup trep_int _ _ _ _ ts r3))
        · rw [List.length_append, List.length_singleton]
          omega
  · rintro σ H3 ⟨v4, v5, v6, xs, as, rfl, s3, e3, hL, pl, hlen, ok⟩
    refine ⟨_, rfl, _, rfl, (by show 2 ≤ sizeLine; decide), fun t ht => ?_⟩
    have st := Same.new ht (.tup [.int z, .ref l])
    refine q t l z xs as _ (s3.trans st) upd_same (st _ _ hL) hl (Paired.imp (fun a b => trep_tup trep_int _ _ a b st.ts) pl) z1 z10 (by omega) ok
end
end K51
end
section
namespace K51
open PySem L2
abbrev rRow (K : PySem.W.Frag) (H : Hp) (s : Addr) (ms : List Int) : Prop := SqL K H s (ms.map V.int) ∨ SqT K H s (ms.map V.int)
theorem rRow.same {K : PySem.W.Frag} {H H' : Hp} {s : Addr} {ms : List Int} (h : rRow K H s ms) (e : Same H H') : rRow K H' s ms := h.elim (fun z => .inl (e.seq z)) fun z => .inr (e.ts.seq z)
def spWithin (K : PySem.W.Frag) : Sp := fun vs H Q _ => ∃ (l s : Addr) (ns ms : List Int), vs = [.ref l, .ref s] ∧ SqL K H l (ns.map V.int) ∧ rRow K H s ms ∧ ns.length ≤ 12 ∧
  ∀ (D : Addr) (H' : Hp), Same H H' → H D = none → H' D = some (.lst ((ns.filter fun k => decide (k ∈ ms)).map V.int)) → Q (.ref D) H'
def cnts (as : List (List Int)) (ms : List Int) : Nat → List Int
  | 0 => []
  | i + 1 => cnts as ms i ++ [(((hits (i : Int) as).filter fun k => decide (k ∈ ms)).length : Int)]
theorem cnts_len (as : List (List Int)) (ms : List Int) : ∀ i, (cnts as ms i).length = i
  | 0 => rfl
  | i + 1 => by
    show (cnts as ms i ++ _).length = _
    rw [List.length_append, cnts_len as ms i]
    rfl
def spCounts (K : PySem.W.Frag) (C : Addr) : Sp := fun vs H Q _ => ∃ (p s : Addr) (z : Int) (as : List (List Int)) (ms : List Int), vs = [.ref p, .ref s] ∧ WebAt K C H p z as ∧ rRow K H s ms ∧ 1 ≤ z ∧ z ≤ 10 ∧ as.length ≤ 12 ∧
  ∀ (D : Addr) (H' : Hp), Same H H' → H D = none → H' D = some (.lst ((cnts as ms z.toNat).map V.int)) → Q (.ref D) H'
theorem int_at {ns : List Int} {i : Nat} {y : V} (h : (ns.map V.int)[i]? = some y) : ∃ u, ns[i]? = some u ∧ y = .int u := by
  rw [List.getElem?_map] at h
  cases e : ns[i]? with
  | none => rw [e] at h; cases h
  | some u => rw [e] at h; exact ⟨u, rfl, (Option.some.inj h).symm⟩
theorem take_snoc {α : Type} {l : List α} {i : Nat} {x : α} (h : l[i]? = some x) : l.take (i + 1) = l.take i ++ [x] := by rw [List.take_add_one, h]; rfl
theorem flat_ints (ms : List Int) : (ms.map V.int).all flatV = true := by
  rw [List.all_eq_true]
  intro x hx
  obtain ⟨i, _, rfl⟩ := List.mem_map.mp hx
  rfl
def spSome : Sp := fun vs H Q _ => ∃ (c n : Int), vs = [.int c, .int n] ∧ 0 ≤ n ∧ n ≤ 12 ∧
  ∀ (t : Addr) (ms : List Int) (H' : Hp), Same H H' → H' t = some (.tup (ms.map V.int)) → ms.Pairwise (· < ·) → (∀ k ∈ ms, 0 ≤ k ∧ k < n) → ms.length ≤ 12 → Q (.ref t) H'
section
variable {P : Program} {w : World} {K : PySem.W.Frag} {mg : Str → Option Value} {base : Heap} {f C : Addr} {fd : FuncData}
theorem scWithin : FnScope ["numbers", "some"] ["numbers", "some"] (defScope sWithin) := ⟨rfl, rfl, rfl, by decide +kernel, rfl, by decide +kernel, by decide +kernel⟩
theorem ok_within (F : Fun K "ties_within" "ties_within" sWithin f fd) : FnOk P w K mg base CX0 1 f fd ["numbers", "some"] (spWithin K) := by
  refine F.ok scWithin (fun vs H Q E h => ?_) (fun cdv A outer s H vs Q E hr h => ?_)
  · obtain ⟨l, so, ns, ms, rfl, _⟩ := h
    rfl
  obtain ⟨l, so, ns, ms, rfl, hl, hso, h12, q⟩ := h
  refine ⟨_, pss_one (ps_ret (pe_comp (defScope sWithin) ["number"] ["some"] [1] rfl rfl (by decide +kernel) ⟨⟨rfl, by decide +kernel⟩, trivial⟩ (pi_list (pv 0))
      (fun _ _ _ => pg_name (i := 0) (show ((["number"] : List Str) ++ (["some"] : List Str)).Nodup by decide +kernel) rfl (Or.inl rfl))
      (fun _ _ _ => pifs_one (pt_cmpR (op_in_seqK (K := K) rfl) (pv 0) (pv 1) rfl))
      (fun _ _ _ => pv 0))), ?_⟩
  refine ⟨_, rfl, l, rfl, ⟨_, hl⟩, fun D hD => ?_⟩
  refine turns_list (xs := ns.map V.int) (fun i τ H2 => ∃ n : Option V, τ = [n, some (.ref so)] ∧ Same H H2 ∧ H2 D = some (.lst (((ns.take i).filter fun k => decide (k ∈ ms)).map V.int))) ⟨none, rfl, Same.new hD _, upd_same⟩
    (fun i τ H2 _ ⟨_, _, sm, _⟩ => sm.seq hl) ?_ ?_
  · rintro i y τ H2 hy ⟨n, rfl, sm, hD2⟩
    obtain ⟨u, hu, rfl⟩ := int_at hy
    refine ⟨_, rfl, _, rfl, so, ms.map V.int, rfl, hso.same sm, rfl, flat_ints ms, _, rfl, ?_⟩
    rw [if_neg (show ¬ (false = true) by decide), inV_ints]
    show putD D _ _ _ (decide (u ∈ ms)) _
    have ef : (ns.take (i + 1)).filter (fun k => decide (k ∈ ms)) = (ns.take i).filter (fun k => decide (k ∈ ms)) ++ (if u ∈ ms then [u] else []) := by
      rw [take_snoc hu, List.filter_append]
      by_cases c : u ∈ ms <;> simp [c]
    by_cases c : u ∈ ms
    · refine iteP c ⟨_, rfl, _, hD2, ?_, _, rfl, fun b o e => ?_, ?_⟩
      · have := List.length_filter_le (fun k => decide (k ∈ ms)) (ns.take i)
        rw [List.length_take] at this
        rw [List.length_map]
        exact small1000 (by omega)
      · rw [upd_ne (ne_of_none e hD)]
        exact sm b o e
      · rw [upd_same, ef, if_pos c, List.map_append]
        rfl
    · refine iteN c ⟨_, rfl, sm, ?_⟩
      rw [hD2, ef, if_neg c, List.append_nil]
  · rintro τ H2 ⟨n, rfl, sm, hD2⟩
    rw [List.length_map, List.take_length] at hD2
    exact q D H2 sm hD hD2
theorem scCounts : FnScope ["web", "some"] ["web", "some"] (defScope sCounts) := ⟨rfl, rfl, rfl, by decide +kernel, rfl, by decide +kernel, by decide +kernel⟩
theorem ok_counts {fS fA fW : Addr} {fdS fdA fdW : FuncData} (F : Fun K "tie_counts" "tie_counts" sCounts f fd) (T : Txt K mg C)
    (GS : FnOk P w K mg base CX0 1 fS fdS ["self"] (spSize K C)) (bS : Binds K fdS ["self"] []) (mS : Meth K C "size" fS)
    (GA : FnOk P w K mg base CX0 1 fA fdA ["self", "point"] (spAt K C)) (bA : Binds K fdA ["self", "point"] []) (mA : Meth K C "at" fA)
    (GW : FnOk P w K mg base CX0 1 fW fdW ["numbers", "some"] (spWithin K)) (bW : Binds K fdW ["numbers", "some"] []) (kW : PySem.W.keepIn K (.ref fW) = true) (mW : mg "ties_within" = some (.ref fW)) :
    FnOk P w K mg base CX0 2 f fd ["web", "some"] (spCounts K C) := by
  refine F.ok scCounts (fun vs H Q E h => ?_) (fun cdv A outer s H vs Q E hr h => ?_)
  · obtain ⟨p, sm, z, as, ms, rfl, _⟩ := h
    rfl
  obtain ⟨p, so, z, as, ms, rfl, hW, hso, z1, z10, h12, q⟩ := h
  refine ⟨_, pss_one (ps_ret (pe_comp (defScope sCounts) ["point"] ["web", "some"] [0, 1] rfl rfl (by decide +kernel) ⟨⟨rfl, by decide +kernel⟩, ⟨rfl, by decide +kernel⟩, trivial⟩ (pi_range1 rfl T.range (pa_cons (pe_meth0 (pv 0) T.cl mS GS hr bS .nil pass0) pa_nil))
      (fun _ _ _ => pg_name (i := 0) (show ((["point"] : List Str) ++ (["web", "some"] : List Str)).Nodup by decide +kernel) rfl (Or.inl rfl))
      (fun _ _ _ => pifs_nil)
      (fun _ _ _ => pe_callB (call_len_seqK (K := K) rfl) rfl T.len PySem.boot_len (pa_cons (pe_call GW hr rfl mW kW bW .nil pass0 (pa_cons (pe_meth (pv 1) T.cl mA GA hr bA .nil pass0 (pa_cons (pv 0) pa_nil)) (pa_cons (pv 2) pa_nil))) pa_nil)))), ?_⟩
  obtain ⟨dx, j, hP, _⟩ := id hW
  refine ⟨_, rfl, p, dx, _, rfl, hP, flds_no _ _ (by decide +kernel) (by decide +kernel), p, z, _, rfl, hW, ?_⟩
  refine ⟨z, rfl, by omega, by omega, fun D hD => ?_⟩
  refine turns_range (lo := 0) (n := z.toNat) (fun i τ H2 => ∃ (n : Option V), τ = [n, some (.ref p), some (.ref so)] ∧ Same H H2 ∧ H2 D = some (.lst ((cnts as ms i).map V.int))) ⟨none, rfl, Same.new hD _, upd_same⟩ ?_ ?_
  · rintro i τ H2 hi ⟨n, rfl, s2, e2⟩
    have ei : (0 : Int) + (i : Int) = (i : Int) := by omega
    rw [ei]
    refine yesN ?_
    have hW2 := hW.same s2
    obtain ⟨dx2, j2, hP2, _⟩ := id hW2
    refine ⟨_, rfl, p, dx2, _, rfl, hP2, flds_no _ _ (by decide +kernel) (by decide +kernel), _, rfl, p, z, _, as, rfl, hW2, h12, fun l3 H3 s3 n3 e3 => ?_⟩
    have hl := hits_len (i : Int) 0 as
    refine ⟨_, rfl, l3, so, hits (i : Int) as, ms, rfl, SqL.of e3, hso.same (s2.trans s3), Nat.le_trans hl h12, fun D4 H4 s4 n4 e4 => ?_⟩
    refine ⟨D4, _, rfl, .inl (SqL.of e4), _, s4 _ _ (s3 _ _ e2), ?_, _, rfl, fun b o e => ?_, ?_⟩
    · rw [List.length_map, cnts_len]
      exact small1000 (by omega)
    · rw [upd_ne (ne_of_none e hD)]
      exact s4 _ _ (s3 _ _ (s2 b o e))
    · rw [upd_same, List.length_map]
      show _ = some (HO.lst ((cnts as ms i ++ [(((hits (i : Int) as).filter fun k => decide (k ∈ ms)).length : Int)]).map V.int))
      rw [List.map_append]
      rfl
  · rintro τ H2 ⟨n, rfl, s2, e2⟩
    exact q D H2 s2 hD e2
theorem scSome : FnScope ["_law_cell_here", "_law_n", "_law_found", "_law_k"] ["_law_cell_here", "_law_n"] (defScope sSome) := ⟨rfl, rfl, rfl, by decide +kernel, rfl, by decide +kernel, by decide +kernel⟩
theorem ok_some (F : Fun K "_law_some" "_law_some" sSome f fd) (T : Txt K mg C) : FnOk P w K mg base CX0 1 f fd ["_law_cell_here", "_law_n"] spSome := by
  refine F.ok scSome (fun vs H Q E h => ?_) (fun cdv A outer s H vs Q E hr h => ?_)
  · obtain ⟨c, n, rfl, _⟩ := h
    rfl
  obtain ⟨c, n, rfl, n0, n12, q⟩ := h
  refine ⟨_, pss_cons (ps_set (i := 2) scSome.nd rfl (Or.inl rfl) (pe_lst pa_nil))
    (pss_cons (ps_for PassesOwn.never rfl (pi_range1 rfl T.range (pa_cons (pv 1) pa_nil)) (pg_name (i := 3) scSome.nd rfl (Or.inl rfl))
      (pss_cons (ps_if (pt_cmpR op_eq (pe_op op_mod (pv 0) pe_int) pe_int (nomark _))
        (pss_one (ps_expr (pe_bm PySem.F.plainAttrs_list PySem.F.slot_list_append PySem.F.type_list_append mt_append (pv 2) (pa_cons (pv 3) pa_nil)))) pss_nil)
      (pss_one (ps_set (i := 0) scSome.nd rfl (Or.inl rfl) (pe_op op_fdiv (pv 0) pe_int)))))
    (pss_one (ps_ret (pe_callTy call_tuple_of rfl T.tuple PyProof.Rows.boot_tuple (pa_cons (pv 2) pa_nil))))), ?_⟩
  refine ⟨Nat.zero_le _, fun l hl => ?_⟩
  refine ⟨_, rfl, n, rfl, by omega, by omega, ?_⟩
  refine for_range (lo := 0) (n := n.toNat) (fun i σ H2 => ∃ (ms : List Int) (c' : Int) (kv : Option V), σ = [some (.int c'), some (.int n), some (.ref l), kv] ∧ Same H H2 ∧ H2 l = some (.lst (ms.map V.int)) ∧ ms.length ≤ i ∧ ms.Pairwise (· < ·) ∧ ∀ m ∈ ms, 0 ≤ m ∧ m < (i : Int))
    ⟨[], c, none, rfl, Same.new hl _, upd_same, Nat.le_refl _, .nil, fun m hm => by cases hm⟩ ?_ ?_
  · rintro i σ H2 hi ⟨ms, c', kv, rfl, sm, hL, hn, pw, hb⟩
    refine ⟨_, rfl, _, _, rfl, rfl, (by show (0 : Int) < 2; decide), rfl, _, rfl, ?_⟩
    refine ite2 (fun _ => ?_) (fun _ => ?_)
    · refine ⟨_, rfl, .inl ⟨rfl, _, SqL.of hL⟩, _, rfl, l, _, _, rfl, rfl, hL, by rw [List.length_map]; exact small1000 (by omega), ?_⟩
      refine ⟨_, rfl, _, _, rfl, rfl, ⟨by decide, by decide⟩, ?_⟩
      refine ⟨ms ++ [0 + (i : Int)], _, _, rfl, fun b o e => by rw [upd_ne (ne_of_none e hl)]; exact sm b o e, by rw [upd_same, List.map_append]; rfl, by simp; omega, ?_, fun m hm => ?_⟩
      · rw [List.pairwise_append]
        refine ⟨pw, by simp, fun a ha b hb' => ?_⟩
        have := hb a ha
        have e : b = 0 + (i : Int) := by simpa using hb'
        omega
      · rcases List.mem_append.mp hm with hm | hm
        · have := hb m hm
          omega
        · have e : m = 0 + (i : Int) := by simpa using hm
          omega
    · refine ⟨_, rfl, _, _, rfl, rfl, ⟨by decide, by decide⟩, ?_⟩
      exact ⟨ms, _, _, rfl, sm, hL, by omega, pw, fun m hm => by have := hb m hm; omega⟩
  · rintro σ H2 ⟨ms, c', kv, rfl, sm, hL, hn, pw, hb⟩
    refine ⟨_, rfl, l, _, rfl, .inl ⟨SqL.of hL, fun t ht => ?_⟩⟩
    refine q t ms _ (sm.trans (Same.new ht _)) upd_same pw (fun k hk => ?_) (by omega)
    have := hb k hk
    omega
end
end K51
end
section
namespace K51
open PySem L2
structure Rul (K : PySem.W.Frag) (mg : Str → Option Value) (D R fP : Addr) : Prop where
  cl : Cls K D
  make : Mk K D fP
  mgD : mg "Pairs" = some (.ref D)
  own : Own K D
  mgR : mg "Rule" = some (.ref R)
  is : PySem.W.kitOne K (.ref D) (.ref R) = some true
  all : mg "all" = none
  nF : NoAttr K D "full"
def fl (b : Bool) : List (Str × V) := putF "full" (.bl b) []
theorem fl_full (b : Bool) : (fl b).lookup ("full" : Str) = some (.bl b) := by
  unfold fl
  rw [lookup_putF, if_pos rfl]
theorem fl_no (b : Bool) {m : Str} (h : ¬ m = "full") : (fl b).lookup m = none := by
  unfold fl
  rw [lookup_putF, if_neg h]
  rfl
def alw (b : Bool) (c : Int) : Bool := decide (c = 1) || (decide (c = 0) && !b)
def spInitP (D : Addr) : Sp := fun vs H Q _ => ∃ (p dx : Addr) (b : Bool), vs = [.ref p, .bl b] ∧ H p = some (.ins D dx []) ∧ Q .non (upd H p (.ins D dx (fl b)))
def spAllows (D : Addr) : Sp := fun vs H Q _ => ∃ (p dx : Addr) (b : Bool) (c : Int), vs = [.ref p, .int c] ∧ H p = some (.ins D dx (fl b)) ∧ Q (.bl (alw b c)) H
def spFits (K : PySem.W.Frag) (C D : Addr) : Sp := fun vs H Q _ => ∃ (r p s dx : Addr) (b : Bool) (z : Int) (as : List (List Int)) (ms : List Int), vs = [.ref r, .ref p, .ref s] ∧ H r = some (.ins D dx (fl b)) ∧ WebAt K C H p z as ∧ rRow K H s ms ∧ 1 ≤ z ∧ z ≤ 10 ∧ as.length ≤ 12 ∧
  ∀ (H' : Hp), Same H H' → Q (.bl ((cnts as ms z.toNat).all (alw b))) H'
section
variable {P : Program} {w : World} {K : PySem.W.Frag} {mg : Str → Option Value} {base : Heap} {f C D R fP dt : Addr} {fd : FuncData} {items : Array Value}
theorem scInitP : FnScope ["self", "full"] ["self", "full"] (defScope sInitP) := ⟨rfl, rfl, rfl, by decide +kernel, rfl, by decide +kernel, by decide +kernel⟩
theorem ok_initP (F : FunD K "__init__" "Pairs.__init__" sInitP f fd dt items) (U : Rul K mg D R fP) : FnOk P w K mg base CX0 1 f fd ["self", "full"] (spInitP D) := by
  refine F.ok scInitP (fun vs H Q E h => ?_) (fun cdv A outer s H vs Q E hr h => ?_)
  · obtain ⟨p, dx, b, rfl, _⟩ := h
    rfl
  obtain ⟨p, dx, b, rfl, hP, q⟩ := h
  refine ⟨_, pss_one (ps_fld (pv 0) (pv 1) rfl), ?_⟩
  exact ⟨_, rfl, _, rfl, p, D, dx, [], rfl, hP, U.cl, U.nF, (by show 0 < 1000; decide), q⟩
theorem scAllows : FnScope ["self", "count"] ["self", "count"] (defScope sAllows) := ⟨rfl, rfl, rfl, by decide +kernel, rfl, by decide +kernel, by decide +kernel⟩
theorem ok_allows (F : Fun K "allows" "Pairs.allows" sAllows f fd) (U : Rul K mg D R fP) : FnOk P w K mg base CX0 1 f fd ["self", "count"] (spAllows D) := by
  refine F.ok scAllows (fun vs H Q E h => ?_) (fun cdv A outer s H vs Q E hr h => ?_)
  · obtain ⟨p, dx, b, c, rfl, _⟩ := h
    rfl
  obtain ⟨p, dx, b, c, rfl, hP, q⟩ := h
  refine ⟨_, pss_one (ps_ret (pe_or (pe_cmpR op_eq (pv 1) pe_int (nomark _)) (pe_one (pe_and (pe_cmpR op_eq (pv 1) pe_int (nomark _)) (pe_one (pe_not (pe_fld (pv 0) rfl))))))), ?_⟩
  unfold alw at q
  refine ⟨_, rfl, rfl, _, rfl, ?_⟩
  by_cases c1 : c = 1
  · subst c1
    exact iteP rfl q
  · refine iteN (fun z => c1 (V.int.inj z)) ?_
    rw [decide_eq_false c1, Bool.false_or] at q
    refine ⟨_, rfl, rfl, _, rfl, ?_⟩
    by_cases c0 : c = 0
    · subst c0
      refine iteP rfl ?_
      refine ⟨_, rfl, p, D, dx, _, _, rfl, hP, U.cl, U.nF, fl_full b, _, rfl, ?_⟩
      rw [decide_eq_true rfl, Bool.true_and] at q
      exact q
    · refine iteN (fun z => c0 (V.int.inj z)) ?_
      rw [decide_eq_false c0, Bool.false_and] at q
      exact q
theorem scFits : FnScope ["self", "web", "some"] ["self", "web", "some"] (defScope sFits) := ⟨rfl, rfl, rfl, by decide +kernel, rfl, by decide +kernel, by decide +kernel⟩
theorem ok_fits {fA fC : Addr} {fdA fdC : FuncData} (F : Fun K "fits" "TiedPoints.fits" sFits f fd) (U : Rul K mg D R fP)
    (GA : FnOk P w K mg base CX0 1 fA fdA ["self", "count"] (spAllows D)) (bA : Binds K fdA ["self", "count"] []) (mA : Meth K D "allows" fA)
    (GC : FnOk P w K mg base CX0 2 fC fdC ["web", "some"] (spCounts K C)) (bC : Binds K fdC ["web", "some"] []) (kC : PySem.W.keepIn K (.ref fC) = true) (mC : mg "tie_counts" = some (.ref fC)) :
    FnOk P w K mg base CX0 3 f fd ["self", "web", "some"] (spFits K C D) := by
  refine F.ok scFits (fun vs H Q E h => ?_) (fun cdv A outer s H vs Q E hr h => ?_)
  · obtain ⟨r, p, so, dx, b, z, as, ms, rfl, _⟩ := h
    rfl
  obtain ⟨r, p, so, dx, b, z, as, ms, rfl, hr0, hW, hso, z1, z10, h12, q⟩ := h
  have hr1 : Room 1 _ := hr.mono (by decide)
  refine ⟨_, pss_one (ps_ret (pe_callB (call_all_bools rfl) rfl U.all PyProof.Rows.boot_all (pa_cons (pe_comp (defScope sFits) ["count"] ["self"] [0] rfl rfl (by decide +kernel) ⟨⟨rfl, by decide +kernel⟩, trivial⟩ (pi_list (pe_call GC hr rfl mC kC bC .nil pass0 (pa_cons (pv 1) (pa_cons (pv 2) pa_nil))))
      (fun _ _ _ => pg_name (i := 0) (show ((["count"] : List Str) ++ (["self"] : List Str)).Nodup by decide +kernel) rfl (Or.inl rfl)) (fun _ _ _ => pifs_nil)
      (fun _ _ _ => pe_meth (pv 1) U.cl mA GA hr1 bA .nil pass0 (pa_cons (pv 0) pa_nil))) pa_nil))), ?_⟩
  refine ⟨_, rfl, _, rfl, p, so, z, as, ms, rfl, hW, hso, z1, z10, h12, fun L H1 s1 hL eL => ?_⟩
  have lc := cnts_len as ms z.toNat
  refine ⟨L, rfl, ⟨_, SqL.of eL⟩, fun Y hY => ?_⟩
  refine turns_list (K := K) (a := L) (xs := (cnts as ms z.toNat).map V.int) (fun j τ H2 => ∃ o : Option V, τ = [o, some (.ref r)] ∧ Same H1 H2 ∧ H2 Y = some (.lst ((((cnts as ms z.toNat).take j).map (alw b)).map V.bl))) ⟨none, rfl, Same.new hY _, upd_same⟩ (fun j τ H2 _ ⟨_, _, s2, _⟩ => s2.seq (SqL.of eL)) ?_ ?_
  · rintro j y τ H2 hy ⟨o, rfl, s2, eY⟩
    obtain ⟨c, hc, rfl⟩ := int_at hy
    have jl := (List.getElem?_eq_some_iff.mp hc).1
    have hr2 := s2 _ _ (s1 _ _ hr0)
    refine yesN ?_
    refine ⟨_, rfl, r, dx, _, rfl, hr2, fl_no b (by decide +kernel), _, rfl, r, dx, b, c, rfl, hr2, ?_⟩
    refine ⟨_, eY, small1000 (by rw [List.length_map, List.length_map, List.length_take]; omega), _, rfl, fun b o e => ?_, ?_⟩
    · rw [upd_ne (ne_of_none e hY)]
      exact s2 b o e
    · rw [upd_same, take_snoc hc, List.map_append, List.map_append]
      rfl
  · rintro τ H2 ⟨o, rfl, s2, eY⟩
    rw [List.length_map, List.take_length] at eY
    refine ⟨Y, _, rfl, SqL.of eY, ?_⟩
    rw [List.all_map]
    exact q _ (s1.trans s2)
end
end K51
end
section
namespace L2
open PySem PySem.Spec PyProof.Rows
open Sem (wp)
section
variable {prog : Program} {w : World} {A : Around} {E : Value → Shared → Prop} {s : Shared}
end
end L2
end
section
namespace L2
open PySem PySem.Spec PyProof.Rows
section
variable {X : Cx} {elts : List Expr} {k : Nat} {tp apos cpos : Pos}
end
end L2
end
section
namespace L2
open PySem PySem.Spec PyProof.Rows
open Sem (wp)
section
variable {prog : Program} {w : World} {A : Around} {R : Result → Shared → Prop} {I : Addr} {fp wr : List Addr} {n : Nat} {P : Nat → Value → Prop} {St : Nat → Heap → Prop}
end
section
variable {prog : Program} {w : World} {A : Around} {E : Value → Shared → Prop} {s : Shared}
end
end L2
end
section
namespace L2
open PySem PySem.Spec PyProof.Rows
section
variable {prog : Program} {w : World} {A : Around} {E : Value → Shared → Prop} {s : Shared}
end
end L2
end
section
namespace L2
open PySem PySem.Spec PyProof.Rows
section
open PySem.SeqAt
open PySem.AutoSeq1 (wpAny_loadPart')
open PySem.MeetsSeq PySem.MeetsSeq2 PySem.MeetsSeq3
end
end L2
end
section
namespace L2
open PySem PySem.Spec PyProof.Rows
section
variable {X : Cx}
end
end L2
end
section
namespace L2
open PySem PySem.Spec PyProof.Rows
section
variable {X : Cx} {ke ve : Expr} {pos : Pos} {tk tv : TE}
end
section
variable {X : Cx}
end
end L2
end
section
namespace NW
open PySem L2
def within (ns some : List Int) : List Int := ns.filter fun n => decide (n ∈ some)
def front (some ns : List Int) : Bool := decide (0 < (within ns some).length) && decide ((within ns some).length < ns.length)
def fb (pts : List (List Int)) (some : List Int) : Nat := (pts.filter (front some)).length
def wOf (pts : List (List Int)) (o : List Int) : Int := (List.range o.length).foldl (fun m i => max m ((fb pts (o.take i) : Nat) : Int)) 0
abbrev Ent := List Int × (Int × List Int)
structure Right (pts : List (List Int)) (many s : Nat) (e : Ent) : Prop where
  so : e.1.Pairwise (· < ·)
  mem : ∀ n ∈ e.1, 0 ≤ n ∧ n < many
  len : e.1.length = s
  perm : e.2.2.Perm e.1
  w : e.2.1 = wOf pts e.2.2
end NW
end
section
namespace NW
open PySem L2
section
variable {pts : List (List Int)} {many s : Nat} {fu es : List Ent} {ties j : List Int} {off : Int × List Int} {w : Int}
end
end NW
end
section
namespace NW
open PySem L2
end NW
end
section
namespace L2
open PySem PySem.Spec PyProof.Rows
open AutoSeq1 (wpAny_loadPart')
section
variable {prog : Program} {w : World} {A : Around} {E : Value → Shared → Prop} {s : Shared}
end
section
variable {X : Cx}
end
end L2
end
section
namespace ST
open PySem PySem.SetTable
def iter {α : Type} (f : α → α) : Nat → α → α
  | 0, x => x
  | n + 1, x => iter f n (f x)
def Mask (m : Nat) : Prop := m = 7 ∨ m = 31 ∨ m = 127
def step (M : Nat) (p : Probe) : Probe :=
  if p.more > 0 then { p with j := p.j + 1, more := p.more - 1 } else
  { p with j := (leap M p.i p.perturb).1, more := runEnd M (leap M p.i p.perturb).1 - (leap M p.i p.perturb).1, i := (leap M p.i p.perturb).1, perturb := (leap M p.i p.perturb).2 }
structure Fine (M : Nat) (p : Probe) : Prop where
  more : p.more ≤ 9
  i : p.i ≤ M
  j : p.j ≤ M
  jm : p.j + p.more ≤ M
  dummy : p.dummy = none
structure Tab (t : SetTable) : Prop where
  mask : Mask t.mask
  none : t.dummies = #[]
  size : t.place.size ≤ t.mask
  le : ∀ j ∈ t.place.toList, j ≤ t.mask
  rise : t.place.toList.Pairwise (· < ·)
def way (t : SetTable) (p : Probe) (m : Nat) : Nat := (ST.iter (step t.mask) m p).j
def Loc (t : SetTable) (hs : List Int) : Prop := ∀ (idx j : Nat) (h : Int), t.place[idx]? = some j → hs[idx]? = some h → ∃ m, way t (t.probeStart h) m = j ∧ ∀ m', m' < m → way t (t.probeStart h) m' ∈ t.place.toList
structure Put (t : SetTable) (j : Nat) : Prop where
  le : j ≤ t.mask
  new : j ∉ t.place.toList
  room : t.place.size + 1 ≤ t.mask
end ST
end
section
namespace ST
open PySem PySem.SetTable
def atBlock (M i perturb : Nat) : Probe := { j := i, more := runEnd M i - i, i := i, perturb := perturb, dummy := none }
def wayM (M : Nat) (p : Probe) (m : Nat) : Nat := (ST.iter (step M) m p).j
structure Own (M : Nat) (owner : Array (Option Nat)) (hs : List Int) : Prop where
  size : owner.size = M + 1
  has : ∀ idx, idx < hs.length → ∃ j : Nat, owner[j]? = some (some idx)
  at_ : ∀ (j idx : Nat), owner[j]? = some (some idx) → idx < hs.length ∧ ∃ m, wayM M (atBlock M (bits (hs.getD idx 0) % (M + 1)) (bits (hs.getD idx 0))) m = j ∧ ∀ m', m' < m → (owner.getD (wayM M (atBlock M (bits (hs.getD idx 0) % (M + 1)) (bits (hs.getD idx 0))) m') (some 0)).isSome = true
  one : ∀ (j j' idx : Nat), owner[j]? = some (some idx) → owner[j']? = some (some idx) → j = j'
end ST
end
section
namespace ST
open PySem PySem.SetTable
end ST
end
section
namespace ST
open PySem PySem.SetTable
section
variable {prog : Program} {w : World} {A : Around} {E : Value → Shared → Prop} {s : Shared}
abbrev IK (prog : Program) (w : World) (h : Heap) (ks : List Int) (a : Addr) : Prop := IsTupleKey (intKind prog w) h ks a
abbrev hsh (prog : Program) (w : World) (ks : List Int) : Int := tupleKeyHash (intKind prog w) ks
end
end ST
end
section
namespace ST
open PySem PySem.SetTable
def ledOf (w : World) : Bool := !w.params.followText "set-order"
structure TS (prog : Program) (w : World) (h : Heap) (S : Addr) (es : Array (Int × Value)) (t : SetTable) (ks : List (List Int × Addr)) : Prop where
  obj : ∃ o ep, h.get? S = some o ∧ o.ExactSet ∧ o.data = .set es ep t
  tab : Tab t
  len : es.size = t.place.size
  loc : Loc t (es.toList.map (·.1))
  els : es.toList = ks.map fun x => (hsh prog w x.1, Value.ref x.2)
  nd : (ks.map (·.1)).Nodup
  few : t.place.size * 5 < t.mask * 3
  pl : t.plain = true
  ld : t.led = ledOf w
section
variable {prog : Program} {w : World} {A : Around} {E : Value → Shared → Prop} {s : Shared} {S : Addr} {es : Array (Int × Value)} {t : SetTable} {ks : List (List Int × Addr)}
end
end ST
end
section
namespace ST
open PySem PySem.SetTable
section
variable {prog : Program} {w : World} {A : Around} {E : Value → Shared → Prop} {s : Shared} {S : Addr} {es : Array (Int × Value)} {t : SetTable} {ks : List (List Int × Addr)}
end
end ST
end
section
namespace ST
open PySem PySem.SetTable
section
variable {prog : Program} {w : World} {A : Around} {E : Value → Shared → Prop} {s : Shared} {S : Addr} {es : Array (Int × Value)} {t : SetTable} {ks : List (List Int × Addr)}
end
end ST
end
section
namespace ST
open PySem PySem.SetTable
structure Of (vals : Nat → List Int × Addr) (i : Nat) (ks : List (List Int × Addr)) : Prop where
  sub : ∀ x ∈ ks, ∃ j, j < i ∧ x = vals j
  sup : ∀ j, j < i → (vals j).1 ∈ ks.map (·.1)
  len : ks.length ≤ i
section
variable {prog : Program} {w : World} {A : Around} {s : Shared}
end
section
variable {prog : Program} {w : World} {A : Around} {E : Value → Shared → Prop} {s : Shared}
end
end ST
end
section
namespace ST
open PySem PySem.SetTable
namespace F
end F
section
variable {prog : Program} {w : World} {A : Around} {E : Value → Shared → Prop} {s : Shared} {S : Addr} {es : Array (Int × Value)} {t : SetTable} {ep : Nat} {o : Obj}
end
end ST
end
section
namespace ST
open PySem PySem.SetTable
section
variable {prog : Program} {w : World} {A : Around} {E : Value → Shared → Prop} {s : Shared} {S : Addr} {es : Array (Int × Value)} {t : SetTable} {ep : Nat} {o : Obj}
end
end ST
end
section
namespace ST
open PySem PySem.W PyProof.Rows
abbrev g (p : Array Nat) (k : Nat) : Nat := p.getD k 0
structure PP (n : Nat) (p : Array Nat) : Prop where
  size : p.size = n
  lt : ∀ k, k < n → g p k < n
  inj : ∀ k k', k < n → k' < n → g p k = g p k' → k = k'
structure Tot (n : Nat) (lt : Nat → Nat → Bool) : Prop where
  or : ∀ i j, i < n → j < n → i ≠ j → lt i j = false → lt j i = true
  as : ∀ i j, i < n → j < n → lt i j = true → lt j i = false
  tr : ∀ i j k, i < n → j < n → k < n → lt i j = true → lt j k = true → lt i k = true
section
variable {n : Nat} {lt : Nat → Nat → Bool} {p : Array Nat}
end
end ST
end
section
namespace ST
open PySem PySem.W PyProof.Rows
section
variable {prog : Program} {w : World} {A : Around} {E : Value → Shared → Prop} {s : Shared}
end
structure Row (prog : Program) (w : World) (h : Heap) (vs : List Value) (ks : List (List Int × Addr)) : Prop where
  vals : vs = ks.map fun x => Value.ref x.2
  keys : ∀ x ∈ ks, IK prog w h x.1 x.2
  full : ∀ x ∈ ks, x.1 ≠ []
  nd : (ks.map (·.1)).Nodup
section
variable {prog : Program} {w : World} {A : Around} {E : Value → Shared → Prop} {s : Shared} {vs : List Value} {ks : List (List Int × Addr)}
end
end ST
end
section
namespace ST
open PySem PySem.W PyProof.Rows
section
variable {prog : Program} {w : World} {A : Around} {E : Value → Shared → Prop} {s : Shared} {S : Addr} {es : Array (Int × Value)} {t : SetTable} {ks : List (List Int × Addr)}
end
end ST
end
section
namespace L2
open PySem PySem.Spec PyProof.Rows
section
variable {X : Cx} {e : Expr} {te : TE} {p1 p2 pos pos2 : Pos}
end
end L2
end
section
namespace ST
open PySem PySem.W PyProof.Rows
structure RowE (prog : Program) (w : World) (h : Heap) (vs : List Value) (ks : List (List Int × Addr)) : Prop where
  vals : vs = ks.map fun x => Value.ref x.2
  keys : ∀ x ∈ ks, IK prog w h x.1 x.2
  nd : (ks.map (·.1)).Nodup
section
variable {prog : Program} {w : World} {A : Around} {E : Value → Shared → Prop} {s : Shared} {vs : List Value} {ks : List (List Int × Addr)}
end
section
variable {prog : Program} {w : World} {A : Around} {E : Value → Shared → Prop} {s : Shared} {S : Addr} {es : Array (Int × Value)} {t : SetTable} {ks : List (List Int × Addr)}
end
end ST
end
section
namespace L2
open PySem PySem.Spec PyProof.Rows
section
variable {X : Cx} {e : Expr} {te : TE} {p1 p2 pos pos2 : Pos}
end
end L2
end
section
namespace L2
open PySem PySem.Spec PyProof.Rows
section
variable {X : Cx} {K : PySem.W.Frag}
def rNeT (K : PySem.W.Frag) {α : Type} [DecidableEq α] (R : Rep α) : R2 := fun x y H Q => ∃ as bs, rTup K R H as x ∧ rTup K R H bs y ∧ Q (.bl (!decide (as = bs))) H
theorem op_neT {α : Type} [DecidableEq α] {n : Nat} {R : Rep α} (D : Dat X n R) (hu : X.A.units + (n + 1) < cLine) : OpR X (compareOp .NotEq) (rNeT X.K R) := by
  intro pins s σ H x y v u Q I rx ry h
  obtain ⟨as, bs, ⟨p, xs, rfl, hp, pa⟩, ⟨q, ys, rfl, hq, pb⟩, h⟩ := h
  cases rx; cases ry
  obtain ⟨its, ra, ta, _⟩ := I.tuple hp
  obtain ⟨jts, rb, tb, _⟩ := I.tuple hq
  have l1 : as.length = its.toArray.size := by rw [List.size_toArray, ← ra.length]; exact Paired.length pa
  have l2 : bs.length = jts.toArray.size := by rw [List.size_toArray, ← rb.length]; exact Paired.length pb
  refine SeqAt.RcNeAt.tuples (e := fun j => decide (as[j]? = bs[j]?)) ta tb (by omega) (D.place (A := X.A.in1) I (by show X.A.units + 1 + n < cLine; omega) pa pb ra rb) X.prog X.w _ _ ?_
  rw [all_places l1 l2]
  exact ⟨.bl _, H, I, rfl, h⟩
end
end L2
end
section
namespace SI
open PySem PySem.SetTable ST PyProof.Rows
structure IS (prog : Program) (w : World) (h : Heap) (S : Addr) (es : Array (Int × Value)) (t : SetTable) (ks : List Int) : Prop where
  obj : ∃ o ep, h.get? S = some o ∧ o.ExactSet ∧ o.data = .set es ep t
  tab : Tab t
  len : es.size = t.place.size
  els : ElemsOf (intKind prog w) es.toList
  int : IntsAre (es.toList.map (·.2)) ks
  nd : ks.Nodup
  few : t.place.size * 5 < t.mask * 3
  pl : t.plain = true
  ld : t.led = ledOf w
section
variable {prog : Program} {w : World} {A : Around} {E : Value → Shared → Prop} {s : Shared} {S : Addr} {es : Array (Int × Value)} {t : SetTable} {ks : List Int}
end
end SI
end
section
namespace SI
open PySem PySem.SetTable ST
open PyProof.Rows (IntsAre)
section
variable {prog : Program} {w : World} {A : Around} {s : Shared}
end
section
variable {prog : Program} {w : World} {A : Around} {E : Value → Shared → Prop} {s : Shared}
end
end SI
end
section
namespace SI
open PySem PySem.SetTable ST PyProof.Rows
section
variable {prog : Program} {w : World} {A : Around} {E : Value → Shared → Prop} {s : Shared} {S : Addr} {es : Array (Int × Value)} {t : SetTable} {ks : List Int}
end
end SI
end
section
namespace L2
open PySem PySem.Spec PyProof.Rows
theorem nodup_len : ∀ {ks ns : List Int}, ks.Nodup → (∀ k ∈ ks, k ∈ ns) → ks.length ≤ ns.length
  | [], _, _, _ => Nat.zero_le _
  | k :: ks, ns, hd, hs => by
    obtain ⟨h1, h2⟩ := List.nodup_cons.mp hd
    have hk := hs k List.mem_cons_self
    have z := nodup_len (ks := ks) (ns := ns.erase k) h2 fun x hx => (List.mem_erase_of_ne (fun e => h1 (by rw [← e]; exact hx))).mpr (hs x (List.mem_cons_of_mem _ hx))
    rw [List.length_erase_of_mem hk] at z
    have := List.length_pos_of_mem hk
    simp only [List.length_cons]
    omega
section
variable {X : Cx} {e : Expr} {te : TE} {p1 p2 pos pos2 : Pos}
end
end L2
end
section
namespace K51
open PySem L2
theorem isi_bl {X : Cx} : CallR X (.builtin "isinstance") (fun xs H Q => ∃ b, xs = [.bl b, .ty "bool"] ∧ Q (.bl true) H) := by
  intro pins s σ H xs us Q I r h
  obtain ⟨i, rfl, q⟩ := h
  obtain ⟨u, v, rfl, ru, rv⟩ := r.two
  cases ru
  cases rv
  exact IsiPair.bool_bool ⟨.bl true, H, I, rfl, q⟩
theorem cut_ints (ns : List Int) (lo hi : Option Int) : ∃ cs : List Int, cutV (ns.map V.int) lo hi = cs.map V.int ∧ cs.length ≤ ns.length := by
  unfold cutV
  refine ⟨(ns.drop (HT.sIx (ns.map V.int).length 0 lo)).take (HT.sIx (ns.map V.int).length (ns.map V.int).length hi - HT.sIx (ns.map V.int).length 0 lo), by rw [List.map_take, List.map_drop], ?_⟩
  rw [List.length_take, List.length_drop]
  omega
theorem srt_minmax (a b : Int) : srt [a, b] = [if b < a then b else a, if b > a then b else a] := by
  rw [srt_pair]
  split
  · rw [if_neg (by omega)]
  · by_cases e : b > a
    · rw [if_pos e]
    · rw [if_neg e]
      have : b = a := by omega
      rw [this]
theorem tsX {H H' : Hp} {S : Addr} {xs : List V} (e : ∀ b o, b ≠ S → H b = some o → H' b = some o) (hS : H S = some (.lst xs)) : TSm H H' := fun b u hb t => e b u (fun z => by
  rw [z, hS] at hb
  cases hb
  obtain ⟨ys, q | ⟨o, q⟩⟩ := t
  · cases q
  · cases q) hb
def rWeb (K : PySem.W.Frag) (C W : Addr) (H : Hp) (w : Int × List (List Int)) (v : V) : Prop := ∃ t p l xs, v = .ref t ∧ SqT K H t [.ref p, .int w.1, .ref l] ∧ WebAt K C H p w.1 (w.2.map srt) ∧ l ≠ W ∧ H l = some (.lst xs) ∧ Paired (rPair K H) w.2 xs ∧ 1 ≤ w.1 ∧ w.1 ≤ 10 ∧ w.2.length ≤ 12 ∧ OkTies w.1 w.2
theorem rWeb.keep {K : PySem.W.Frag} {C W : Addr} {H H' : Hp} {w : Int × List (List Int)} {v : V} {ys : List V} (e : ∀ b o, b ≠ W → H b = some o → H' b = some o) (hW : H W = some (.lst ys)) (h : rWeb K C W H w v) : rWeb K C W H' w v := by
  obtain ⟨t, p, l, xs, rfl, h1, ⟨dx, j, h2, h3⟩, h4, h5, h6, h7⟩ := h
  have ts := tsX e hW
  have pW : p ≠ W := fun z => by
    rw [z, hW] at h2
    cases h2
  exact ⟨t, p, l, xs, rfl, ts.seq h1, ⟨dx, j, e _ _ pW h2, trep_tup (trep_tup trep_int) _ _ _ _ ts h3⟩, h4, e _ _ h4 h5, Paired.imp (fun _ _ r => trep_tup trep_int _ _ _ _ ts r) h6, h7⟩
theorem rWeb.same {K : PySem.W.Frag} {C W : Addr} {H H' : Hp} {w : Int × List (List Int)} {v : V} (e : Same H H') (h : rWeb K C W H w v) : rWeb K C W H' w v := by
  obtain ⟨t, p, l, xs, rfl, h1, h2, h4, h5, h6, h7⟩ := h
  exact ⟨t, p, l, xs, rfl, e.ts.seq h1, h2.same e, h4, e _ _ h5, Paired.imp (fun _ _ r => trep_tup trep_int _ _ _ _ e.ts r) h6, h7⟩
theorem seqB {K : PySem.W.Frag} {H H' : Hp} {W l : Addr} {xs : List V} (e : ∀ b o, b ≠ W → H b = some o → H' b = some o) (ne : l ≠ W) (h : SqL K H l xs) : SqL K H' l xs := by
  rcases h with (h | ⟨u, h⟩) | h
  · exact .inl (.inl (e _ _ ne h))
  · exact .inl (.inr ⟨u, e _ _ ne h⟩)
  · exact .inr h
def rOut (K : PySem.W.Frag) (W : Addr) (H : Hp) (as : List (List Int)) (v : V) : Prop := ∃ l xs, v = .ref l ∧ l ≠ W ∧ SqL K H l xs ∧ Paired (rPair K H) as xs
theorem rOut.keep {K : PySem.W.Frag} {W : Addr} {H H' : Hp} {as : List (List Int)} {v : V} {ys : List V} (e : ∀ b o, b ≠ W → H b = some o → H' b = some o) (hW : H W = some (.lst ys)) (h : rOut K W H as v) : rOut K W H' as v := by
  obtain ⟨l, xs, rfl, ne, h1, h2⟩ := h
  exact ⟨l, xs, rfl, ne, seqB e ne h1, Paired.imp (fun _ _ r => trep_tup trep_int _ _ _ _ (tsX e hW) r) h2⟩
theorem rOut.lst {K : PySem.W.Frag} {W : Addr} {H : Hp} {as : List (List Int)} {v : V} (h : rOut K W H as v) : rLst K (rPair K) H as v := let ⟨l, xs, e, _, h1, h2⟩ := h; ⟨l, xs, e, h1, h2⟩
def rhsScope (st : Stmt) : Scope := match st with
  | .Return (some (.Compare _ _ [.ListComp _ _ sc _] _)) _ => sc
  | _ => defScope st
section
variable {X : Cx} {tg elt iter : Expr} {ifs : List Expr} {scope : Scope} {pos : Pos} {g : TG} {tc : TT} {te : TE} {wi : TI}
end
def relab (o sc : Scope) : Scope := { sc with names := sc.names.map fun (n, k) => if (k == NameKind.free && o.kind == .function && o.names.lookup n == some .cell) then (n, NameKind.cell) else (n, k) }
def compScope (st : Stmt) : Scope := match st with
  | .Assign _ (.ListComp _ _ sc _) _ => sc
  | _ => defScope st
def cntL (as : List (List Int)) (ms : List Int) (p : Nat) : Int := ((ms.filter fun k => (as.getD k.toNat []).contains (p : Int)).length : Nat)
def cntsL (as : List (List Int)) (ms : List Int) (m : Nat) : List Int := (List.range m).map (cntL as ms)
theorem cntsL_succ (as : List (List Int)) (ms : List Int) (m : Nat) : cntsL as ms (m + 1) = cntsL as ms m ++ [cntL as ms m] := by unfold cntsL; rw [List.range_succ, List.map_append]; rfl
theorem cntsL_len (as : List (List Int)) (ms : List Int) (m : Nat) : (cntsL as ms m).length = m := by unfold cntsL; rw [List.length_map, List.length_range]
theorem cnts_same {as : List (List Int)} {ms : List Int} (pw : ms.Pairwise (· < ·)) (hr : ∀ k ∈ ms, 0 ≤ k ∧ k < (as.length : Int)) : ∀ m, cnts (as.map srt) ms m = cntsL as ms m
  | 0 => rfl
  | m + 1 => by
    show cnts (as.map srt) ms m ++ [_] = _
    rw [cnts_same pw hr m, cntsL_succ]
    congr 2
    show ((((hits (m : Int) (as.map srt)).filter fun k => decide (k ∈ ms)).length : Nat) : Int) = _
    have e : hits (m : Int) (as.map srt) = hits (m : Int) as := hits_srt _ 0 as
    rw [e]
    have nd1 : ((hits (m : Int) as).filter fun k => decide (k ∈ ms)).Nodup := ((hits_rise (m : Int) 0 as).filter _).imp fun {a b} h => by omega
    have nd2 : (ms.filter fun k => (as.getD k.toNat []).contains (m : Int)).Nodup := (pw.filter _).imp fun {a b} h => by omega
    have iff : ∀ x, x ∈ (hits (m : Int) as).filter (fun k => decide (k ∈ ms)) ↔ x ∈ ms.filter fun k => (as.getD k.toNat []).contains (m : Int) := fun x => by
      rw [List.mem_filter, List.mem_filter]
      constructor
      · rintro ⟨h1, h2⟩
        obtain ⟨i, t, e1, e2, e3⟩ := L2.mem_hits.mp h1
        have ex : x.toNat = i := by omega
        refine ⟨of_decide_eq_true h2, ?_⟩
        rw [ex, List.getD_eq_getElem?_getD, e1]
        exact List.contains_iff_mem.mpr e2
      · rintro ⟨h1, h2⟩
        obtain ⟨k0, k1⟩ := hr x h1
        have kl : x.toNat < as.length := by omega
        rw [List.getD_eq_getElem?_getD, List.getElem?_eq_getElem kl] at h2
        exact ⟨L2.mem_hits.mpr ⟨x.toNat, as[x.toNat], List.getElem?_eq_getElem kl, List.contains_iff_mem.mp h2, by omega⟩, decide_eq_true h1⟩
    have l1 := nodup_len nd1 fun k hk => (iff k).mp hk
    have l2 := nodup_len nd2 fun k hk => (iff k).mpr hk
    unfold cntL
    omega
theorem all_loose {cs : List Int} {m : Int} (h0 : ∀ c ∈ cs, 0 ≤ c) (hm : m ∈ cs) (hg : ∀ c ∈ cs, c ≤ m) : cs.all (alw false) = decide (m < 2) := by
  rw [Bool.eq_iff_iff, List.all_eq_true, decide_eq_true_iff]
  constructor
  · intro h
    have := h m hm
    unfold alw at this
    simp at this
    omega
  · intro h c hc
    have := hg c hc
    have := h0 c hc
    unfold alw
    simp
    omega
theorem all_full {cs : List Int} {n : Nat} (h : cs.length = n) : cs.all (alw true) = decide (cs = List.replicate n 1) := by
  rw [Bool.eq_iff_iff, List.all_eq_true, decide_eq_true_iff, List.eq_replicate_iff]
  unfold alw
  simp [h]
def spThin (K : PySem.W.Frag) : Sp := fun vs H Q _ => ∃ (l s : Addr) (z : Int) (as : List (List Int)) (ms : List Int), vs = [.int z, .ref l, .ref s] ∧ rLst K (rPair K) H as (.ref l) ∧ OkTies z as ∧ SqT K H s (ms.map V.int) ∧ ms.length ≤ 12 ∧ (∀ k ∈ ms, 0 ≤ k ∧ k < (as.length : Int)) ∧
  ∀ (t : Addr) (fs : List Int) (H' : Hp), Same H H' → SqT K H' t (fs.map V.int) → fs.Sublist ms → Q (.ref t) H'
def spRight (K : PySem.W.Frag) (C D : Addr) : Sp := fun vs H Q _ => ∃ (r1 r2 p l hd d1 d2 : Addr) (z : Int) (as : List (List Int)) (ms : List Int), vs = [.ref r1, .ref r2, .ref p, .int z, .ref l, .ref hd] ∧ H r1 = some (.ins D d1 (fl false)) ∧ H r2 = some (.ins D d2 (fl true)) ∧
  WebAt K C H p z (as.map srt) ∧ rLst K (rPair K) H as (.ref l) ∧ rRow K H hd ms ∧ 1 ≤ z ∧ z ≤ 10 ∧ as.length ≤ 12 ∧ ms.Pairwise (· < ·) ∧ (∀ k ∈ ms, 0 ≤ k ∧ k < (as.length : Int)) ∧ ms.length ≤ 12 ∧ ∀ (H' : Hp), Same H H' → Q (.bl true) H'
section
variable {P : Program} {w : World} {K : PySem.W.Frag} {mg : Str → Option Value} {base : Heap} {f C D R fP : Addr} {fd : FuncData}
theorem scThin : FnScope ["_law_points", "_law_ties", "_law_some_here", "_law_found", "_law_k"] ["_law_points", "_law_ties", "_law_some_here"] (defScope sThin) := ⟨rfl, rfl, rfl, by decide +kernel, rfl, by decide +kernel, by decide +kernel⟩
theorem ok_thin (F : Fun K "_law_thinned" "_law_thinned" sThin f fd) (T : Txt K mg C) : FnOk P w K mg base CX0 1 f fd ["_law_points", "_law_ties", "_law_some_here"] (spThin K) := by
  refine F.ok scThin (fun vs H Q E h => ?_) (fun cdv A outer s H vs Q E hr h => ?_)
  · obtain ⟨l, so, z, as, ms, rfl, _⟩ := h
    rfl
  obtain ⟨l, so, z, as, ms, rfl, hl, ok, hso, m12, rng, q⟩ := h
  refine ⟨_, pss_cons (ps_set (i := 3) scThin.nd rfl (Or.inl rfl) (pe_lst pa_nil))
    (pss_cons (ps_for PassesOwn.never rfl (pi_tup (pv 2)) (pg_name (i := 4) scThin.nd rfl (Or.inr rfl))
      (pss_one (ps_if (pt_cmpR (op_eqL dat_int (un_of hr)) (pe_comp (defScope sThin) ["_law_j"] ["_law_k", "_law_ties"] [4, 1] rfl rfl (by decide +kernel) ⟨⟨rfl, by decide +kernel⟩, ⟨rfl, by decide +kernel⟩, trivial⟩ (pi_list (pv 3))
          (fun _ _ _ => pg_name (i := 0) (show ((["_law_j"] : List Str) ++ (["_law_k", "_law_ties"] : List Str)).Nodup by decide +kernel) rfl (Or.inl rfl))
          (fun _ _ _ => pifs_one (PW.pt (pw_or (pt_cmpR (op_in_seqK (K := K) rfl) (pe_ix (ix_tupK (K := K) rfl) (pe_ix (ix_listK (K := K) rfl) (pv 2) (pv 0) (fun _ _ => rfl)) pe_int (fun _ _ => rfl)) (pe_ix (ix_listK (K := K) rfl) (pv 2) (pv 1) (fun _ _ => rfl)) rfl)
            (pw_or1 (pt_cmpR (op_in_seqK (K := K) rfl) (pe_ix (ix_tupK (K := K) rfl) (pe_ix (ix_listK (K := K) rfl) (pv 2) (pv 0) (fun _ _ => rfl)) pe_int (fun _ _ => rfl)) (pe_ix (ix_listK (K := K) rfl) (pv 2) (pv 1) (fun _ _ => rfl)) rfl))))) (fun _ _ _ => pv 0)) (pe_lst pa_nil) (nomark _))
        (pss_one (ps_expr (pe_bm PySem.F.plainAttrs_list PySem.F.slot_list_append PySem.F.type_list_append mt_append (pv 3) (pa_cons (pv 4) pa_nil)))) pss_nil)))
    (pss_one (ps_ret (pe_callTy call_tuple_of rfl T.tuple PyProof.Rows.boot_tuple (pa_cons (pv 3) pa_nil))))), ?_⟩
  refine ⟨Nat.zero_le _, fun F0 hF0 => ?_⟩
  have s0 := Same.new hF0 (.lst [])
  have e0 : (upd H F0 (.lst [])) F0 = some (.lst []) := upd_same
  generalize upd H F0 (.lst []) = H0 at s0 e0 ⊢
  obtain ⟨l', xs, el, hX, px⟩ := id hl
  cases el
  have tie : ∀ (k : Int), 0 ≤ k → k < (as.length : Int) → ∀ {H' : Hp}, Same H H' → ∃ (b : Addr) (u v : Int), atI xs k = some (.ref b) ∧ SqT K H' b [.int u, .int v] := fun k k0 k1 {H'} s' => by
    have kl : k.toNat < as.length := by omega
    obtain ⟨v, hv, rt⟩ := Paired.getL px (List.getElem?_eq_getElem kl)
    obtain ⟨b, rfl, hb⟩ := rPair_seq rt
    obtain ⟨u, v, e, _⟩ := ok.ok as[k.toNat] (List.getElem_mem kl)
    rw [e] at hb
    have := atI_nat hv
    rw [show ((k.toNat : Nat) : Int) = k by omega] at this
    exact ⟨b, u, v, this, s'.ts.seq hb⟩
  refine ⟨_, rfl, so, rfl, ⟨_, s0.ts.seq hso⟩, for_tup (K := K) (a := so) (xs := ms.map V.int) (fun i σ H2 => ∃ (fs : List Int) (o : Option V), σ = [some (.int z), some (.ref l), some (.ref so), some (.ref F0), o] ∧ Same H H2 ∧ H2 F0 = some (.lst (fs.map V.int)) ∧ fs.Sublist (ms.take i))
    ⟨[], none, rfl, s0, e0, List.nil_sublist _⟩ (fun i σ H2 _ ⟨_, _, _, s2, _⟩ => s2.ts.seq hso) ?_ ?_⟩
  · rintro i v σ H2 hv ⟨fs, o, rfl, s2, eF, sub⟩
    obtain ⟨k, hk, rfl⟩ := int_at hv
    obtain ⟨k0, k1⟩ := rng k (List.mem_of_getElem? hk)
    have fl12 : fs.length ≤ 12 := Nat.le_trans (sub.trans (List.take_sublist _ _)).length_le m12
    refine ⟨_, rfl, F0, rfl, ⟨_, SqL.of eF⟩, fun Y hY => ?_⟩
    refine turns_list (K := K) (a := F0) (xs := fs.map V.int) (fun j τ H3 => ∃ (o : Option V) (ys : List Int), τ = [o, some (.int k), some (.ref l)] ∧ Same H2 H3 ∧ H3 Y = some (.lst (ys.map V.int)) ∧ ys.length ≤ j) ⟨none, [], rfl, Same.new hY _, upd_same, Nat.le_refl _⟩ (fun j τ H3 _ ⟨_, _, _, s3, _⟩ => s3.seq (SqL.of eF)) ?_ ?_
    · rintro j y τ H3 hy ⟨o, ys, rfl, s3, eY, yl⟩
      obtain ⟨x, hx, rfl⟩ := int_at hy
      have jl := (List.getElem?_eq_some_iff.mp hx).1
      obtain ⟨x0, x1⟩ := rng x (List.mem_of_mem_take (sub.subset (List.mem_of_getElem? hx)))
      have s23 := s2.trans s3
      obtain ⟨b, u, v, ab, hb⟩ := tie x x0 x1 s23
      obtain ⟨b', u', v', ab', hb'⟩ := tie k k0 k1 s23
      have hX3 := s23.seq hX
      have a0 : atI [V.int u, V.int v] 0 = some (.int u) := rfl
      have a1 : atI [V.int u, V.int v] 1 = some (.int v) := rfl
      have fin : ∀ (c : Bool), (if c = true then (tVar 0) [some (.int x), some (.int k), some (.ref l)] H3 (fun v H4 => ∃ ys', H4 Y = some (.lst ys') ∧ ys'.length < sizeLine ∧ ∃ (o : Option V) (ys2 : List Int), [some (.int x), some (.int k), some (V.ref l)] = [o, some (.int k), some (V.ref l)] ∧ Same H2 (upd H4 Y (.lst (ys' ++ [v]))) ∧ (upd H4 Y (.lst (ys' ++ [v]))) Y = some (.lst (ys2.map V.int)) ∧ ys2.length ≤ j + 1) else ∃ (o : Option V) (ys2 : List Int), [some (.int x), some (.int k), some (V.ref l)] = [o, some (.int k), some (V.ref l)] ∧ Same H2 H3 ∧ H3 Y = some (.lst (ys2.map V.int)) ∧ ys2.length ≤ j + 1) := fun c => by
        cases c with
        | true =>
          rw [if_pos rfl]
          refine ⟨_, rfl, _, eY, small1000 (by rw [List.length_map]; omega), _, ys ++ [x], rfl, fun b o e => ?_, by rw [upd_same, List.map_append]; rfl, by rw [List.length_append, List.length_singleton]; omega⟩
          rw [upd_ne (ne_of_none e hY)]
          exact s3 b o e
        | false =>
          rw [if_neg (by decide)]
          exact ⟨_, ys, rfl, s3, eY, by omega⟩
      refine ⟨_, rfl, _, rfl, l, xs, _, _, rfl, rfl, hX3, ab, b, _, _, _, rfl, rfl, hb, a0, _, rfl, _, rfl, l, xs, _, _, rfl, rfl, hX3, ab', b', _, rfl, .inr hb', rfl, rfl, _, rfl, ?_⟩
      refine ite2 (fun _ => ?_) (fun _ => ?_)
      · exact fin true
      · refine ⟨_, rfl, _, rfl, l, xs, _, _, rfl, rfl, hX3, ab, b, _, _, _, rfl, rfl, hb, a1, _, rfl, _, rfl, l, xs, _, _, rfl, rfl, hX3, ab', b', _, rfl, .inr hb', rfl, rfl, _, rfl, ?_⟩
        exact fin _
    rintro τ H3 ⟨o, ys, rfl, s3, eY, yl⟩
    refine ⟨Nat.zero_le _, fun L0 hL0 => ?_⟩
    have s4 := Same.new hL0 (.lst [])
    refine ⟨ys, [], ⟨Y, _, rfl, SqL.of (s4 _ _ eY), paired_ints _⟩, ⟨L0, [], rfl, SqL.of upd_same, .nil⟩, _, rfl, ?_⟩
    have sA := s3.trans s4
    generalize upd H3 L0 (.lst []) = H4 at sA ⊢
    have eF4 := sA _ _ eF
    refine ite2 (fun _ => ?_) (fun _ => ?_)
    · refine ⟨_, rfl, .inl ⟨rfl, _, SqL.of eF4⟩, _, rfl, F0, _, _, rfl, rfl, eF4, small1000 (by rw [List.length_map]; omega), ?_⟩
      refine ⟨fs ++ [k], _, rfl, fun b o e => ?_, by rw [upd_same, List.map_append]; rfl, ?_⟩
      · rw [upd_ne (ne_of_none e hF0)]
        exact sA _ _ (s2 b o e)
      · rw [take_snoc hk]
        exact List.Sublist.append sub (List.Sublist.refl _)
    · refine ⟨fs, _, rfl, s2.trans sA, eF4, ?_⟩
      rw [take_snoc hk]
      exact sub.trans (List.sublist_append_left _ _)
  · rintro σ H2 ⟨fs, o, rfl, s2, eF, sub⟩
    rw [List.length_map, List.take_length] at sub
    refine ⟨_, rfl, F0, _, rfl, .inl ⟨SqL.of eF, fun t ht => ?_⟩⟩
    exact q t fs _ (s2.trans (Same.new ht _)) (SqT.of upd_same) sub
end
end K51
end
section
namespace K51
open PySem L2
section
variable {X : Cx} {tg elt iter : Expr} {ifs : List Expr} {scope : Scope} {pos : Pos} {g : TG} {tc : TT} {te : TE} {wi : TI}
theorem ps_compO {i : Nat} {x : Str} {pos' spos : Pos} (osc : Scope) (own fr : List Str) (ix : List Nat) (hN : X.N.Nodup) (hx : X.N[i]? = some x) (hl : Loc X.env.scope x) (hc : X.calm = true) (ho : X.env.scope = osc) (hok : compOkC osc scope = true) (hfr : FreeAt X scope fr ix) (hit : PI X tg iter wi)
    (hg : ∀ fp s H, PG (cxCompC X (own ++ fr) scope fp s H) tg g) (hi : ∀ fp s H, PIfs (cxCompC X (own ++ fr) scope fp s H) ifs tc) (he : ∀ fp s H, PE (cxCompC X (own ++ fr) scope fp s H) elt te)
    (hsw : swapsWith (.ListComp elt [⟨tg, iter, ifs, 0⟩] scope pos) (some (.Name x pos')) spos.line X.env = pure true := by rfl) (hs : ∀ x, foldedSetIterable iter X.env x = pure x := by intro _; rfl)
    (hf : X.fn x = true ∨ X.env.scope.names.lookup x = some .local := by first | exact .inl rfl | exact .inr rfl | assumption) :
    PS X (.Assign [.Name x pos'] (.ListComp elt [⟨tg, iter, ifs, 0⟩] scope pos) spos) (tAsg (tComp own ix wi g tc te) (gName i)) :=
  ps_compC own fr ix hN hx hl hc (ho ▸ hok) hfr hit hg hi he hsw hs hf
end
theorem flat_rep (k : Nat) (x : Int) : (List.replicate k [V.int x]).flatten = (List.replicate k x).map V.int := by
  induction k with
  | zero => rfl
  | succ k ih => rw [List.replicate_succ, List.flatten_cons, ih, List.replicate_succ, List.map_cons]; rfl
section
variable {P : Program} {w : World} {K : PySem.W.Frag} {mg : Str → Option Value} {base : Heap} {f C D R fP : Addr} {fd : FuncData}
theorem scRight : FnScope ["_law_pairs", "_law_full", "_law_web_here", "_law_points", "_law_ties", "_law_handed", "_law_counts", "_law_some_here", "_law_once"] ["_law_pairs", "_law_full", "_law_web_here", "_law_points", "_law_ties", "_law_handed"] (defScope sRight) := ⟨rfl, rfl, rfl, by decide +kernel, rfl, by decide +kernel, by decide +kernel⟩
theorem ok_right {fF : Addr} {fdF : FuncData} (F : Fun K "_law_right" "_law_right" sRight f fd) (T : Txt K mg C) (U : Rul K mg D R fP)
    (GF : FnOk P w K mg base CX0 3 fF fdF ["self", "web", "some"] (spFits K C D)) (bF : Binds K fdF ["self", "web", "some"] []) (mF : Meth K D "fits" fF) :
    FnOk P w K mg base CX0 4 f fd ["_law_pairs", "_law_full", "_law_web_here", "_law_points", "_law_ties", "_law_handed"] (spRight K C D) := by
  refine F.ok scRight (fun vs H Q E h => ?_) (fun cdv A outer s H vs Q E hr h => ?_)
  · obtain ⟨r1, r2, p, l, hd, d1, d2, z, as, ms, rfl, _⟩ := h
    rfl
  obtain ⟨r1, r2, p, l, hd, d1, d2, z, as, ms, rfl, h1, h2, hW, hl, hrow, z1, z10, h12, pw, rng, m12, q⟩ := h
  refine ⟨_, pss_cons (ps_compO (i := 6) (defScope sRight) ["_law_point"] ["_law_handed", "_law_ties"] [5, 4] scRight.nd rfl (Or.inl rfl) rfl rfl (by decide +kernel) ⟨⟨rfl, by decide +kernel⟩, ⟨rfl, by decide +kernel⟩, trivial⟩ (pi_range1 rfl T.range (pa_cons (pv 3) pa_nil))
      (fun _ _ _ => pg_name (i := 0) (show ((["_law_point"] : List Str) ++ (["_law_handed", "_law_ties"] : List Str)).Nodup by decide +kernel) rfl (Or.inr rfl)) (fun _ _ _ => pifs_nil)
      (fun _ _ _ => pe_callB (call_len_seqK (K := K) rfl) rfl T.len PySem.boot_len (pa_cons (pe_comp (relab (defScope sRight) (compScope ((defBody sRight).getD 0 sRight))) ["_law_k"] ["_law_point", "_law_ties"] [0, 2] rfl rfl (by decide +kernel) ⟨⟨rfl, by decide +kernel⟩, ⟨rfl, by decide +kernel⟩, trivial⟩ (pi_seqK (K := K) rfl (pv 1))
        (fun _ _ _ => pg_name (i := 0) (show ((["_law_k"] : List Str) ++ (["_law_point", "_law_ties"] : List Str)).Nodup by decide +kernel) rfl (Or.inl rfl))
        (fun _ _ _ => pifs_one (pt_cmpR (op_in_seqK (K := K) rfl) (pv 1) (pe_ix (ix_listK (K := K) rfl) (pv 2) (pv 0) (fun _ _ => rfl)) rfl)) (fun _ _ _ => pv 0)) pa_nil)))
    (pss_mid (ps_set (i := 7) scRight.nd rfl (Or.inl rfl) (pe_callTy call_tuple_of rfl T.tuple PyProof.Rows.boot_tuple (pa_cons (pv 5) pa_nil)))
    (pss_cons (ps_set (i := 8) scRight.nd rfl (Or.inl rfl) (pe_lst (pa_cons (pe_meth (pv 0) U.cl mF GF hr bF .nil pass0 (pa_cons (pv 2) (pa_cons (pv 5) pa_nil))) (pa_cons (pe_meth (pv 1) U.cl mF GF hr bF .nil pass0 (pa_cons (pv 2) (pa_cons (pv 5) pa_nil))) pa_nil))))
    (pss_mid (ps_if (PW.pt (pw_or (pt_cmpR (op_neL dat_bl (un_of hr)) (pv 8) (pe_lst (pa_cons (pe_cmpR op_lt (pe_callB (max_list rfl) rfl T.max PyProof.Rows.boot_max (pa_cons (pv 6) pa_nil)) pe_int (nomark _)) (pa_cons (pe_cmpR (op_eqL dat_int (un_of hr)) (pv 6) (pe_op op_rep (pe_lst (pa_cons pe_int pa_nil)) (pv 3)) (nomark _)) pa_nil))) (nomark _))
        (pw_or1 (pt_cmpR (op_neT dat_int (un_of hr)) (pe_callTy call_tuple_of rfl T.tuple PyProof.Rows.boot_tuple (pa_cons (pv 5) pa_nil)) (pv 7) (nomark _))))) (pss_one (ps_ret pe_bl)) pss_nil)
    (pss_one (ps_ret (pe_and (pe_callB isi_bl rfl T.isi PyProof.Rows.boot_isinstance (pa_cons (pe_ix ix_list (pv 8) pe_int (fun _ _ => rfl)) (pa_cons (pe_bltn (v := .ty "bool") rfl T.bool PyProof.Rows.boot_bool rfl) pa_nil)))
      (pe_one (pe_callB isi_bl rfl T.isi PyProof.Rows.boot_isinstance (pa_cons (pe_ix ix_list (pv 8) pe_int (fun _ _ => rfl)) (pa_cons (pe_bltn (v := .ty "bool") rfl T.bool PyProof.Rows.boot_bool rfl) pa_nil)))))))))), ?_⟩
  obtain ⟨l', xs, el, hX, px⟩ := id hl
  cases el
  refine ⟨_, rfl, z, rfl, by omega, by omega, fun N hN => ?_⟩
  refine turns_range (lo := 0) (n := z.toNat) (fun i τ H2 => ∃ o : Option V, τ = [o, some (.ref hd), some (.ref l)] ∧ Same H H2 ∧ H2 N = some (.lst ((cntsL as ms i).map V.int))) ⟨none, rfl, Same.new hN _, upd_same⟩ ?_ ?_
  · rintro i τ H2 hi ⟨o, rfl, s2, eN⟩
    have ei : (0 : Int) + i = (i : Int) := by omega
    rw [ei]
    refine yesN ?_
    have row2 := hrow.same s2
    refine ⟨_, rfl, hd, rfl, seq_turns row2 fun Y hY => ⟨fun j τ H3 => ∃ o : Option V, τ = [o, some (.int i), some (.ref l)] ∧ Same H2 H3 ∧ H3 Y = some (.lst (((ms.take j).filter fun k => (as.getD k.toNat []).contains (i : Int)).map V.int)), ⟨none, rfl, Same.new hY _, upd_same⟩, fun j τ H3 _ ⟨_, _, s3, _⟩ => s3, ?_, ?_⟩⟩
    · rintro j y τ H3 hy ⟨o, rfl, s3, eY⟩
      obtain ⟨k, hk, rfl⟩ := int_at hy
      obtain ⟨k0, k1⟩ := rng k (List.mem_of_getElem? hk)
      have jl := (List.getElem?_eq_some_iff.mp hk).1
      have kl : k.toNat < as.length := by omega
      obtain ⟨v, hv, rt⟩ := Paired.getL px (List.getElem?_eq_getElem kl)
      obtain ⟨b, rfl, hb⟩ := rPair_seq rt
      have s23 := s2.trans s3
      have av : atI xs k = some (.ref b) := by
        have := atI_nat hv
        rw [show ((k.toNat : Nat) : Int) = k by omega] at this
        exact this
      refine ⟨_, rfl, _, rfl, _, rfl, l, xs, _, _, rfl, rfl, s23.seq hX, av, b, _, rfl, .inr (s23.ts.seq hb), rfl, flat_ints _, _, rfl, ?_⟩
      rw [if_neg (show ¬ (false = true) by decide), inV_ints]
      have eg : as.getD k.toNat [] = as[k.toNat] := by rw [List.getD_eq_getElem?_getD, List.getElem?_eq_getElem kl]; rfl
      have ef : (ms.take (j + 1)).filter (fun k => (as.getD k.toNat []).contains (i : Int)) = (ms.take j).filter (fun k => (as.getD k.toNat []).contains (i : Int)) ++ (if (i : Int) ∈ as[k.toNat] then [k] else []) := by
        rw [take_snoc hk, List.filter_append]
        congr 1
        by_cases c : (i : Int) ∈ as[k.toNat]
        · rw [if_pos c, List.filter_cons, eg, if_pos (List.contains_iff_mem.mpr c)]; rfl
        · rw [if_neg c, List.filter_cons, eg, if_neg (fun z => c (List.contains_iff_mem.mp z))]; rfl
      show putD Y _ _ _ (decide ((i : Int) ∈ as[k.toNat])) _
      by_cases c : (i : Int) ∈ as[k.toNat]
      · refine iteP c ⟨_, rfl, _, eY, ?_, _, rfl, fun b o e => ?_, ?_⟩
        · have := List.length_filter_le (fun k : Int => (as.getD k.toNat []).contains (i : Int)) (ms.take j)
          rw [List.length_take] at this
          rw [List.length_map]
          exact small1000 (by omega)
        · rw [upd_ne (ne_of_none e hY)]
          exact s3 b o e
        · rw [upd_same, ef, if_pos c, List.map_append]
          rfl
      · refine iteN c ⟨_, rfl, s3, ?_⟩
        rw [eY, ef, if_neg c, List.append_nil]
    · rintro τ H3 ⟨o, rfl, s3, eY⟩
      rw [List.length_map, List.take_length] at eY
      refine ⟨Y, _, rfl, .inl (SqL.of eY), _, s3 _ _ eN, small1000 (by rw [List.length_map, cntsL_len]; omega), _, rfl, fun b o e => ?_, ?_⟩
      · rw [upd_ne (ne_of_none e hN)]
        exact s3 _ _ (s2 b o e)
      · rw [upd_same, cntsL_succ, List.map_append, List.length_map]
        rfl
  rintro τ H2 ⟨o, rfl, s2, eN⟩
  have lc := cntsL_len as ms z.toNat
  refine ⟨fun σ H3 => ∃ s' : Addr, σ = [some (.ref r1), some (.ref r2), some (.ref p), some (.int z), some (.ref l), some (.ref hd), some (.ref N), some (.ref s'), none] ∧ Same H2 H3 ∧ SqT K H3 s' (ms.map V.int), ?_, ?_⟩
  · rcases hrow.same s2 with h | h
    · refine ⟨_, rfl, hd, _, rfl, .inl ⟨h, fun t ht => ?_⟩⟩
      exact ⟨t, rfl, Same.new ht _, SqT.of upd_same⟩
    · exact ⟨_, rfl, hd, _, rfl, .inr ⟨h, hd, rfl, Same.refl _, h⟩⟩
  rintro σ H3 ⟨s', rfl, s3, hs'⟩
  have s03 := s2.trans s3
  have lm : (as.map srt).length ≤ 12 := by rw [List.length_map]; exact h12
  refine ⟨_, rfl, r1, d1, _, rfl, s03 _ _ h1, fl_no false (by decide +kernel), _, rfl, _, rfl, r1, p, hd, d1, false, z, as.map srt, ms, rfl, s03 _ _ h1, hW.same s03, hrow.same s03, z1, z10, lm, fun H4 s4 => ?_⟩
  have s04 := s03.trans s4
  refine ⟨_, rfl, r2, d2, _, rfl, s04 _ _ h2, fl_no true (by decide +kernel), _, rfl, _, rfl, r2, p, hd, d2, true, z, as.map srt, ms, rfl, s04 _ _ h2, hW.same s04, hrow.same s04, z1, z10, lm, fun H5 s5 => ?_⟩
  rw [cnts_same pw rng]
  refine ⟨(by show 2 ≤ sizeLine; decide), fun O hO => ?_⟩
  have sO := Same.new hO (.lst [V.bl ((cntsL as ms z.toNat).all (alw false)), V.bl ((cntsL as ms z.toNat).all (alw true))])
  have eO : (upd H5 O (.lst [V.bl ((cntsL as ms z.toNat).all (alw false)), V.bl ((cntsL as ms z.toNat).all (alw true))])) O = some (.lst ([(cntsL as ms z.toNat).all (alw false), (cntsL as ms z.toNat).all (alw true)].map V.bl)) := upd_same
  generalize upd H5 O (.lst [V.bl ((cntsL as ms z.toNat).all (alw false)), V.bl ((cntsL as ms z.toNat).all (alw true))]) = H6 at sO eO ⊢
  have s36 := s4.trans (s5.trans sO)
  have eN6 := s36 _ _ (s3 _ _ eN)
  have hs6 := s36.ts.seq hs'
  refine ⟨fun σ H7 => σ = [some (.ref r1), some (.ref r2), some (.ref p), some (.int z), some (.ref l), some (.ref hd), some (.ref N), some (.ref s'), some (.ref O)] ∧ Same H6 H7, ?_, ?_⟩
  · refine ⟨_, rfl, _, rfl, N, cntsL as ms z.toNat, rfl, SqL.of eN6, by omega, fun m hm hg => ?_⟩
    refine ⟨_, _, rfl, rfl, ?_⟩
    refine ⟨_, rfl, (by show 1 ≤ sizeLine; decide), fun B1 hB1 => ?_⟩
    have sB1 := Same.new hB1 (.lst [V.int 1])
    have eB1 : (upd H6 B1 (.lst [V.int 1])) B1 = some (.lst [V.int 1]) := upd_same
    generalize upd H6 B1 (.lst [V.int 1]) = H7 at sB1 eB1 ⊢
    refine ⟨_, rfl, B1, z, _, rfl, rfl, eB1, by omega, by omega, Nat.le_of_lt (small1000 (by show 1 * z.toNat ≤ 1000; omega)), fun B2 hB2 => ?_⟩
    rw [flat_rep]
    have sB2 := Same.new hB2 (.lst ((List.replicate z.toNat (1 : Int)).map V.int))
    have eB2 : (upd H7 B2 (.lst ((List.replicate z.toNat (1 : Int)).map V.int))) B2 = some (.lst ((List.replicate z.toNat (1 : Int)).map V.int)) := upd_same
    generalize upd H7 B2 (.lst ((List.replicate z.toNat (1 : Int)).map V.int)) = H8 at sB2 eB2 ⊢
    have s68 := sB1.trans sB2
    have LN : rLst K rInt H8 (cntsL as ms z.toNat) (.ref N) := ⟨N, _, rfl, SqL.of (s68 _ _ eN6), paired_ints _⟩
    have LB : rLst K rInt H8 (List.replicate z.toNat (1 : Int)) (.ref B2) := ⟨B2, _, rfl, SqL.of eB2, paired_ints _⟩
    refine ⟨_, _, LN, LB, ?_⟩
    have el : (fun (i j : Int) => V.bl (decide (i < j))) m 2 = V.bl ((cntsL as ms z.toNat).all (alw false)) := congrArg V.bl (all_loose (fun c hc => by
      unfold cntsL at hc
      obtain ⟨p', _, rfl⟩ := List.mem_map.mp hc
      unfold cntL
      omega) hm hg).symm
    rw [← all_full lc, el]
    · refine ⟨(by show 2 ≤ sizeLine; decide), fun B3 hB3 => ?_⟩
      have sB3 := Same.new hB3 (.lst [V.bl ((cntsL as ms z.toNat).all (alw false)), V.bl ((cntsL as ms z.toNat).all (alw true))])
      have eB3 : (upd H8 B3 (.lst [V.bl ((cntsL as ms z.toNat).all (alw false)), V.bl ((cntsL as ms z.toNat).all (alw true))])) B3 = some (.lst ([(cntsL as ms z.toNat).all (alw false), (cntsL as ms z.toNat).all (alw true)].map V.bl)) := upd_same
      generalize upd H8 B3 (.lst [V.bl ((cntsL as ms z.toNat).all (alw false)), V.bl ((cntsL as ms z.toNat).all (alw true))]) = H9 at sB3 eB3 ⊢
      have s69 := s68.trans sB3
      have LO : rLst K rBl H9 [(cntsL as ms z.toNat).all (alw false), (cntsL as ms z.toNat).all (alw true)] (.ref O) := ⟨O, _, rfl, SqL.of (s69 _ _ eO), paired_bls _⟩
      have LD : rLst K rBl H9 [(cntsL as ms z.toNat).all (alw false), (cntsL as ms z.toNat).all (alw true)] (.ref B3) := ⟨B3, _, rfl, SqL.of eB3, paired_bls _⟩
      refine ⟨_, _, LO, LD, _, rfl, ?_⟩
      refine ite2 (fun c => ?_) (fun _ => ?_)
      · rw [decide_eq_true rfl] at c
        cases c
      have hs9 := s69.ts.seq hs6
      rcases hrow.same (s03.trans (s36.trans s69)) with h | h
      · refine ⟨_, rfl, hd, _, rfl, .inl ⟨h, fun t6 ht6 => ?_⟩⟩
        have s6' := Same.new ht6 (.tup (ms.map V.int))
        refine ⟨_, rfl, ms, ms, rPair_of upd_same, ⟨s', _, rfl, s6'.ts.seq hs9, paired_ints _⟩, _, rfl, ?_⟩
        refine ite2 (fun c => ?_) (fun _ => ?_)
        · rw [decide_eq_true rfl] at c
          cases c
        exact ⟨rfl, s69.trans s6'⟩
      · refine ⟨_, rfl, hd, _, rfl, .inr ⟨h, ?_⟩⟩
        refine ⟨_, rfl, ms, ms, ⟨hd, _, rfl, h, paired_ints _⟩, ⟨s', _, rfl, hs9, paired_ints _⟩, _, rfl, ?_⟩
        refine ite2 (fun c => ?_) (fun _ => ?_)
        · rw [decide_eq_true rfl] at c
          cases c
        exact ⟨rfl, s69⟩
  rintro σ H7 ⟨rfl, s7⟩
  have eO7 := s7 _ _ eO
  have b0 : atI ([(cntsL as ms z.toNat).all (alw false), (cntsL as ms z.toNat).all (alw true)].map V.bl) 0 = some (.bl ((cntsL as ms z.toNat).all (alw false))) := rfl
  have b1 : atI ([(cntsL as ms z.toNat).all (alw false), (cntsL as ms z.toNat).all (alw true)].map V.bl) 1 = some (.bl ((cntsL as ms z.toNat).all (alw true))) := rfl
  refine ⟨_, rfl, O, _, _, _, rfl, rfl, SqL.of eO7, b0, _, rfl, true, rfl, iteT ?_⟩
  exact ⟨_, rfl, O, _, _, _, rfl, rfl, SqL.of eO7, b1, _, rfl, q _ (s03.trans (s36.trans s7))⟩
end
end K51
end
section
namespace K51
open PySem L2
section
variable {P : Program} {w : World} {K : PySem.W.Frag} {mg : Str → Option Value} {base : Heap} {f C D R fP : Addr} {fd : FuncData}
theorem scLaw : FnScope ["_law_script", "_law_webs", "_law_at", "_law_points", "_law_ties", "_law_pairs", "_law_full", "_law_cell_here", "_law_web_here", "_law_handed"] ["_law_script"] (defScope sLaw) := ⟨rfl, rfl, rfl, by decide +kernel, rfl, by decide +kernel, by decide +kernel⟩
theorem ok_law {fC fW fI fT fS fH fR : Addr} {fdC fdW fdI fdT fdS fdH fdR fdP : FuncData} (F : Fun K "law" "law" sLaw f fd) (T : Txt K mg C) (U : Rul K mg D R fP) (M : Mk K C fI)
    (GC : FnOk P w K mg base CX0 1 fC fdC ["_law_script", "_law_k"] (spCell K)) (bC : Binds K fdC ["_law_script", "_law_k"] []) (kC : PySem.W.keepIn K (.ref fC) = true) (mC : mg "_law_cell" = some (.ref fC))
    (GW : FnOk P w K mg base CX0 3 fW fdW ["_law_script", "_law_at"] (spWeb K)) (bW : Binds K fdW ["_law_script", "_law_at"] []) (kW : PySem.W.keepIn K (.ref fW) = true) (mW : mg "_law_web" = some (.ref fW))
    (GI : FnOk P w K mg base CX0 3 fI fdI ["self", "many", "ties"] (spInit K C)) (bI : Binds K fdI ["self", "many", "ties"] [])
    (GT : FnOk P w K mg base CX0 1 fT fdT ["self"] (spTies K C)) (bT : Binds K fdT ["self"] []) (mT : Meth K C "ties" fT)
    (GS : FnOk P w K mg base CX0 1 fS fdS ["_law_cell_here", "_law_n"] spSome) (bS : Binds K fdS ["_law_cell_here", "_law_n"] []) (kS : PySem.W.keepIn K (.ref fS) = true) (mS : mg "_law_some" = some (.ref fS))
    (GP : FnOk P w K mg base CX0 1 fP fdP ["self", "full"] (spInitP D)) (bP0 : Binds K fdP ["self", "full"] [.bool false]) (bP1 : Binds K fdP ["self", "full"] [])
    (GH : FnOk P w K mg base CX0 1 fH fdH ["_law_points", "_law_ties", "_law_some_here"] (spThin K)) (bH : Binds K fdH ["_law_points", "_law_ties", "_law_some_here"] []) (kH : PySem.W.keepIn K (.ref fH) = true) (mH : mg "_law_thinned" = some (.ref fH))
    (GR : FnOk P w K mg base CX0 4 fR fdR ["_law_pairs", "_law_full", "_law_web_here", "_law_points", "_law_ties", "_law_handed"] (spRight K C D)) (bR : Binds K fdR ["_law_pairs", "_law_full", "_law_web_here", "_law_points", "_law_ties", "_law_handed"] []) (kR : PySem.W.keepIn K (.ref fR) = true) (mR : mg "_law_right" = some (.ref fR)) :
    FnOk P w K mg base CX0 5 f fd ["_law_script"] (spLaw K) := by
  refine F.ok scLaw (fun vs H Q E h => ?_) (fun cdv A outer s H vs Q E hr h => ?_)
  · obtain ⟨a, ns, rfl, _⟩ := h
    rfl
  obtain ⟨a, ns, rfl, hS, n63, q⟩ := h
  have hr1 : Room 1 _ := hr.mono (by decide)
  have hr2 : Room 2 _ := hr.mono (by decide)
  have hr3 : Room 3 _ := hr.mono (by decide)
  refine ⟨_, pss_cons (ps_set (i := 1) scLaw.nd rfl (Or.inl rfl) (pe_lst pa_nil))
    (pss_cons (ps_for PassesOwn.never rfl (pi_tup (pe_tup (pa_cons pe_int (pa_cons pe_int pa_nil)))) (pg_name (i := 2) scLaw.nd rfl (Or.inl rfl))
      (pss_cons (ps_asg (pe_call GW hr3 rfl mW kW bW .nil pass0 (pa_cons (pv 0) (pa_cons (pv 2) pa_nil))) (pg_tup rfl (pgs_cons (pg_name (i := 3) scLaw.nd rfl (Or.inl rfl)) (pgs_cons (pg_name (i := 4) scLaw.nd rfl (Or.inl rfl)) pgs_nil))))
      (pss_one (ps_expr (pe_bm PySem.F.plainAttrs_list PySem.F.slot_list_append PySem.F.type_list_append mt_append (pv 1) (pa_cons (pe_tup (pa_cons (pe_make M GI hr rfl T.mgC bI .nil pass0 (pa_cons (pv 3) (pa_cons (pv 4) pa_nil))) (pa_cons (pv 3) (pa_cons (pv 4) pa_nil)))) pa_nil))))))
    (pss_cons (ps_set (i := 5) scLaw.nd rfl (Or.inl rfl) (pe_make0 U.make GP hr2 rfl U.mgD bP0 (show Vals [V.bl false] [Value.bool false] from .cons rfl .nil) pass0))
    (pss_mid (ps_if (pt_cmpR op_eq (pe_op op_mod (pe_op op_fdiv (pe_call GC hr1 rfl mC kC bC .nil pass0 (pa_cons (pv 0) (pa_cons pe_int pa_nil))) pe_int) pe_int) pe_int (nomark _)) (pss_one (ps_set (i := 5) scLaw.nd rfl (Or.inl rfl) (pe_make U.make GP hr2 rfl U.mgD bP1 .nil pass0 (pa_cons pe_bl pa_nil)))) pss_nil)
    (pss_cons (ps_set (i := 6) scLaw.nd rfl (Or.inl rfl) (pe_make U.make GP hr2 rfl U.mgD bP1 .nil pass0 (pa_cons pe_bl pa_nil)))
    (pss_cons (ps_if (PW.pt (pw_or (pt_not (pt_val (pe_callB (isi_base U.cl U.own U.is) rfl T.isi PyProof.Rows.boot_isinstance (pa_cons (pv 5) (pa_cons (pe_glob (v := .ref R) rfl U.mgR rfl) pa_nil))))) (pw_or1 (pt_not (pt_val (pe_callB (isi_base U.cl U.own U.is) rfl T.isi PyProof.Rows.boot_isinstance (pa_cons (pv 6) (pa_cons (pe_glob (v := .ref R) rfl U.mgR rfl) pa_nil)))))))) (pss_one (ps_ret pe_bl)) pss_nil)
    (pss_cons (ps_for PassesOwn.never rfl (pi_list (pe_op op_cat (pe_lst (pa_cons pe_int (pa_cons pe_int (pa_cons (pe_un un_neg pe_int) pa_nil)))) (pe_slice sl_list (pv 0) (po_some pe_int) (po_some pe_int)))) (pg_name (i := 7) scLaw.nd rfl (Or.inl rfl))
      (pss_one (ps_for PassesOwn.never rfl (pi_list (pv 1)) (pg_tup (n := 3) rfl (pgs_cons (pg_name (i := 8) scLaw.nd rfl (Or.inl rfl)) (pgs_cons (pg_name (i := 3) scLaw.nd rfl (Or.inl rfl)) (pgs_cons (pg_name (i := 4) scLaw.nd rfl (Or.inl rfl)) pgs_nil))))
        (pss_cons (ps_set (i := 9) scLaw.nd rfl (Or.inl rfl) (pe_call GS hr1 rfl mS kS bS .nil pass0 (pa_cons (pe_op op_fdiv (pv 7) pe_int) (pa_cons (pe_callB call_len_seq rfl T.len PySem.boot_len (pa_cons (pv 4) pa_nil)) pa_nil))))
        (pss_mid (ps_if (pt_cmpR op_eq (pe_op op_mod (pv 7) pe_int) pe_int (nomark _)) (pss_one (ps_set (i := 9) scLaw.nd rfl (Or.inl rfl) (pe_call GH hr1 rfl mH kH bH .nil pass0 (pa_cons (pv 3) (pa_cons (pv 4) (pa_cons (pv 9) pa_nil)))))) pss_nil)
        (pss_mid (ps_if (pt_cmpR op_eq (pe_op op_mod (pe_op op_fdiv (pv 7) pe_int) pe_int) pe_int (nomark _)) (pss_one (ps_set (i := 9) scLaw.nd rfl (Or.inl rfl) (pe_callTy call_list_of rfl T.list PyProof.Rows.boot_list (pa_cons (pv 9) pa_nil)))) pss_nil)
        (pss_one (ps_if (pt_not (pt_val (pe_call GR hr rfl mR kR bR .nil pass0 (pa_cons (pv 5) (pa_cons (pv 6) (pa_cons (pv 8) (pa_cons (pv 3) (pa_cons (pv 4) (pa_cons (pv 9) pa_nil))))))))) (pss_one (ps_ret pe_bl)) pss_nil))))))))
    (pss_one (ps_ret (pe_cmpR (op_eqL (dat_lst (dat_tup dat_int)) (un_of hr)) (pe_comp (defScope sLaw) ["_law_web_here", "_law_points", "_law_ties"] [] [] rfl rfl (by decide +kernel) trivial (pi_list (pv 1))
        (fun _ _ _ => pg_tupK (K := K) (n := 3) rfl rfl (pgs_cons (pg_name (i := 0) (show ((["_law_web_here", "_law_points", "_law_ties"] : List Str) ++ ([] : List Str)).Nodup by decide +kernel) rfl (Or.inl rfl)) (pgs_cons (pg_name (i := 1) (show ((["_law_web_here", "_law_points", "_law_ties"] : List Str) ++ ([] : List Str)).Nodup by decide +kernel) rfl (Or.inl rfl)) (pgs_cons (pg_name (i := 2) (show ((["_law_web_here", "_law_points", "_law_ties"] : List Str) ++ ([] : List Str)).Nodup by decide +kernel) rfl (Or.inl rfl)) pgs_nil))))
        (fun _ _ _ => pifs_nil) (fun _ _ _ => pe_meth0 (pv 0) T.cl mT GT hr1 bT .nil pass0))
      (pe_comp (defScope sLaw) ["_law_row"] [] [] rfl rfl (by decide +kernel) trivial (pi_list (pv 1))
        (fun _ _ _ => pg_name (i := 0) (show ((["_law_row"] : List Str) ++ ([] : List Str)).Nodup by decide +kernel) rfl (Or.inl rfl)) (fun _ _ _ => pifs_nil)
        (fun _ _ _ => pe_comp (rhsScope ((defBody sLaw).getD 7 sLaw)) ["_law_tie"] [] [] rfl rfl (by decide +kernel) trivial (pi_listK (K := K) rfl (pe_ix (ix_tupK (K := K) rfl) (pv 0) pe_int (fun _ _ => rfl)))
          (fun _ _ _ => pg_name (i := 0) (show ((["_law_tie"] : List Str) ++ ([] : List Str)).Nodup by decide +kernel) rfl (Or.inl rfl)) (fun _ _ _ => pifs_nil)
          (fun _ _ _ => pe_tup (pa_cons (pe_callB (min_pairK (K := K) rfl rfl) rfl T.min PyProof.Rows.boot_min (pa_cons (pv 0) pa_nil)) (pa_cons (pe_callB (max_pairK (K := K) rfl rfl) rfl T.max PyProof.Rows.boot_max (pa_cons (pv 0) pa_nil)) pa_nil))))) (nomark _)))))))))), ?_⟩
  refine ⟨Nat.zero_le _, fun W hW => ?_⟩
  have s0 := Same.new hW (.lst [])
  have eW0 : (upd H W (.lst [])) W = some (.lst []) := upd_same
  generalize upd H W (.lst []) = H0 at s0 eW0 ⊢
  refine ⟨(by show 2 ≤ sizeLine; decide), fun TT hTT => ?_⟩
  have sT0 := Same.new hTT (.tup [V.int 0, V.int 2])
  have eTT : (upd H0 TT (.tup [V.int 0, V.int 2])) TT = some (.tup [V.int 0, V.int 2]) := upd_same
  generalize upd H0 TT (.tup [V.int 0, V.int 2]) = H1 at sT0 eTT ⊢
  have eW1 := sT0 _ _ eW0
  have s1 := s0.trans sT0
  refine ⟨TT, rfl, ⟨_, SqT.of eTT⟩, for_tup (K := K) (a := TT) (xs := [V.int 0, V.int 2]) (fun i σ H2 => ∃ (o2 o3 o4 : Option V) (xs : List V) (ws : List (Int × List (List Int))), σ = [some (.ref a), some (.ref W), o2, o3, o4, none, none, none, none, none] ∧ (∀ b u, b ≠ W → H1 b = some u → H2 b = some u) ∧ H2 W = some (.lst xs) ∧ Paired (rWeb K C W H2) ws xs ∧ ws.length = i)
    ⟨none, none, none, [], [], rfl, fun b u _ e => e, eW1, .nil, rfl⟩ (fun i σ H2 _ ⟨_, _, _, _, _, _, sm, _⟩ => (tsX sm eW1).seq (SqT.of eTT)) ?_ ?_⟩
  · rintro i v σ H2 hv ⟨o2, o3, o4, xs, ws, rfl, sm, eW, pw, wl⟩
    have hk : ∃ k : Int, v = .int k ∧ 0 ≤ k ∧ i < 2 := by
      match i, hv with
      | 0, hv => exact ⟨0, by simpa using hv.symm, by decide, by decide⟩
      | 1, hv => exact ⟨2, by simpa using hv.symm, by decide, by decide⟩
      | i + 2, hv => simp at hv
    obtain ⟨k, rfl, k0, i2⟩ := hk
    have s02 : Same H H2 := fun b o e => sm b o (ne_of_none e hW) (s1 b o e)
    refine ⟨_, rfl, _, rfl, a, ns, k, rfl, s02.seq hS, k0, fun t l z xl as H3 s3 et el nl pl z1 z10 h12 ok => ?_⟩
    refine ⟨t, _, rfl, SqT.of et, rfl, _, _, rfl, _, _, rfl, rfl, ?_⟩
    have eW3 := s3 _ _ eW
    refine ⟨_, rfl, .inl ⟨rfl, _, SqL.of eW3⟩, _, rfl, _, rfl, fun p dx np ndx npd => ?_⟩
    have sp : Same H3 (upd (upd H3 dx (.own p)) p (.ins C dx [])) := fun b o e => by
      rw [upd_ne (ne_of_none e np), upd_ne (ne_of_none e ndx)]
      exact e
    have pL : Paired (rSeq K (upd (upd H3 dx (.own p)) p (.ins C dx []))) as xl := Paired.imp (fun t x h => .inr (trep_tup trep_int _ _ _ _ sp.ts h)) pl
    refine ⟨p, dx, l, z, xl, as, rfl, upd_same, SqL.of (sp _ _ el), pL, ok, h12, z1, z10, fun H4 s4' hWb => ⟨rfl, ?_⟩⟩
    have s34 : Same H3 H4 := fun b o e => s4' b o (sp b o e) (ne_of_none e np)
    refine ⟨_, rfl, _, rfl, (by show 3 ≤ sizeLine; decide), fun T1 hT1 => ?_⟩
    have sT := Same.new hT1 (.tup [.ref p, .int z, .ref l])
    have eT : (upd H4 T1 (.tup [.ref p, .int z, .ref l])) T1 = some (.tup [.ref p, .int z, .ref l]) := upd_same
    generalize upd H4 T1 (.tup [.ref p, .int z, .ref l]) = H5 at sT eT ⊢
    have s35 := s34.trans sT
    have s25 := s3.trans s35
    have eW5 := s25 _ _ eW
    have lx := Paired.length pw
    refine ⟨W, _, _, rfl, rfl, eW5, small1000 (by omega), ?_⟩
    have kp : ∀ b o, b ≠ W → H5 b = some o → (upd H5 W (.lst (xs ++ [.ref T1]))) b = some o := fun b o hb e => by
      rw [upd_ne hb]
      exact e
    have lW : l ≠ W := fun e => by
      rw [e, eW] at nl
      cases nl
    refine ⟨_, _, _, _, ws ++ [(z, as)], rfl, fun b u hb e => ?_, upd_same, ?_, by rw [List.length_append, wl]; rfl⟩
    · exact kp _ _ hb (s25 _ _ (sm b u hb e))
    · refine Paired.app (Paired.imp (fun _ _ r => rWeb.keep kp eW5 (rWeb.same s25 r)) pw) (Paired.one (rWeb.keep kp eW5 ?_))
      exact ⟨T1, p, l, xl, rfl, SqT.of eT, hWb.same sT, lW, s35 _ _ el, Paired.imp (fun _ _ r => trep_tup trep_int _ _ _ _ s35.ts r) pl, z1, z10, h12, ok⟩
  rintro σ H2 ⟨o2, o3, o4, xs, ws, rfl, sm, eW, pw, wl⟩
  have s02 : Same H H2 := fun b o e => sm b o (ne_of_none e hW) (s1 b o e)
  have lx := Paired.length pw
  have wl2 : ws.length = 2 := wl
  clear sm eTT eW1 s1 sT0 hTT s0 eW0
  have made : ∀ {Hx : Hp} {cv dv : Addr}, Hx cv = none → Hx dv = none → Same Hx (upd (upd Hx dv (.own cv)) cv (.ins D dv [])) := fun {Hx cv dv} h1 h2 b o e => by
    rw [upd_ne (ne_of_none e h1), upd_ne (ne_of_none e h2)]
    exact e
  intro c1 v1 hc1 hv1 ne1
  refine ⟨c1, v1, false, rfl, upd_same, rfl, ?_⟩
  have sc1 : Same H2 (upd (upd (upd H2 v1 (.own c1)) c1 (.ins D v1 [])) c1 (.ins D v1 (fl false))) := fun b o e => by
    rw [upd_ne (ne_of_none e hc1)]
    exact made hc1 hv1 b o e
  have ec1 : (upd (upd (upd H2 v1 (.own c1)) c1 (.ins D v1 [])) c1 (.ins D v1 (fl false))) c1 = some (.ins D v1 (fl false)) := upd_same
  generalize upd (upd (upd H2 v1 (.own c1)) c1 (.ins D v1 [])) c1 (.ins D v1 (fl false)) = Ha at sc1 ec1 ⊢
  refine ⟨fun σ Hb => ∃ (c v : Addr), σ = [some (.ref a), some (.ref W), o2, o3, o4, some (.ref c), none, none, none, none] ∧ Same H2 Hb ∧ Hb c = some (.ins D v (fl false)), ?_, ?_⟩
  · refine ⟨_, rfl, a, ns, 0, rfl, sc1.seq (s02.seq hS), by decide, fun c => ⟨_, _, rfl, rfl, ⟨by decide, by decide⟩, _, _, rfl, rfl, (by show (0 : Int) < 2; decide), rfl, _, rfl, ?_⟩⟩
    refine ite2 (fun _ => ?_) (fun _ => ?_)
    · intro c2 v2 hc2 hv2 ne2
      refine ⟨c2, v2, false, rfl, upd_same, rfl, c2, v2, rfl, fun b o e => ?_, upd_same⟩
      have e' := sc1 b o e
      rw [upd_ne (ne_of_none e' hc2)]
      exact made hc2 hv2 b o e'
    · exact ⟨c1, v1, rfl, sc1, ec1⟩
  rintro σ Hb ⟨cv, dv, rfl, sb, ecb⟩
  clear ec1 sc1 hc1 hv1 ne1
  intro cf df hcf hdf nef
  refine ⟨cf, df, true, rfl, upd_same, rfl, ?_⟩
  have scf : Same Hb (upd (upd (upd Hb df (.own cf)) cf (.ins D df [])) cf (.ins D df (fl true))) := fun b o e => by
    rw [upd_ne (ne_of_none e hcf)]
    exact made hcf hdf b o e
  have ecf : (upd (upd (upd Hb df (.own cf)) cf (.ins D df [])) cf (.ins D df (fl true))) cf = some (.ins D df (fl true)) := upd_same
  generalize upd (upd (upd Hb df (.own cf)) cf (.ins D df [])) cf (.ins D df (fl true)) = H3 at scf ecf ⊢
  have sc := sb.trans scf
  have ecv := scf _ _ ecb
  refine ⟨_, rfl, cv, dv, _, rfl, ecv, true, rfl, iteF ?_⟩
  refine ⟨_, rfl, cf, df, _, rfl, ecf, true, rfl, iteF ?_⟩
  refine ⟨2, rfl, (by show 3 ≤ sizeLine; decide), fun l3 hl3 => ?_⟩
  have s3' := Same.new hl3 (.lst [.int 0, .int 4, .int (-2)])
  have e3' : (upd H3 l3 (.lst [.int 0, .int 4, .int (-2)])) l3 = some (.lst [.int 0, .int 4, .int (-2)]) := upd_same
  generalize upd H3 l3 (.lst [.int 0, .int 4, .int (-2)]) = H4 at s3' e3' ⊢
  refine ⟨_, rfl, _, rfl, _, rfl, a, _, rfl, s3'.seq (sc.seq (s02.seq hS)), fun l4 hl4 => ?_⟩
  obtain ⟨cs, ecs, lcs⟩ := cut_ints ns (some 4) (some 12)
  rw [ecs]
  have s4 := Same.new hl4 (.lst (cs.map V.int))
  have e4 : (upd H4 l4 (.lst (cs.map V.int))) l4 = some (.lst (cs.map V.int)) := upd_same
  generalize upd H4 l4 (.lst (cs.map V.int)) = H5 at s4 e4 ⊢
  refine ⟨l3, l4, _, cs.map V.int, rfl, rfl, s4 _ _ e3', e4, Nat.le_of_lt (small1000 (by rw [List.length_map]; show 3 + _ ≤ 1000; omega)), fun l5 hl5 => ?_⟩
  have s5 := Same.new hl5 (.lst ([.int 0, .int 4, .int (-2)] ++ cs.map V.int))
  have e5 : (upd H5 l5 (.lst ([.int 0, .int 4, .int (-2)] ++ cs.map V.int))) l5 = some (.lst (([0, 4, -2] ++ cs).map V.int)) := by
    rw [upd_same, List.map_append]
    rfl
  generalize upd H5 l5 (.lst ([.int 0, .int 4, .int (-2)] ++ cs.map V.int)) = H6 at s5 e5 ⊢
  have s26 : Same H2 H6 := sc.trans (s3'.trans (s4.trans s5))
  have eW6 := s26 _ _ eW
  have ecv6 := (s3'.trans (s4.trans s5)) _ _ ecv
  have ecf6 := (s3'.trans (s4.trans s5)) _ _ ecf
  have pw6 : Paired (rWeb K C W H6) ws xs := Paired.imp (fun _ _ r => rWeb.same s26 r) pw
  clear s5 s4 e4 e3' s3' hl5 hl4 hl3 ecv ecf sc pw eW
  refine ⟨l5, rfl, ⟨_, SqL.of e5⟩, for_list (K := K) (a := l5) (xs := ([0, 4, -2] ++ cs).map V.int) (fun i σ H7 => ∃ (o2 o3 o4 o7 o8 o9 : Option V), σ = [some (.ref a), some (.ref W), o2, o3, o4, some (.ref cv), some (.ref cf), o7, o8, o9] ∧ Same H6 H7)
    ⟨_, _, _, none, none, none, rfl, Same.refl _⟩ (fun i σ H7 _ ⟨_, _, _, _, _, _, _, s7⟩ => s7.seq (SqL.of e5)) ?_ ?_⟩
  · rintro i y σ H7 hy ⟨p2, p3, p4, p7, p8, p9, rfl, s7⟩
    obtain ⟨c, _, rfl⟩ := int_at hy
    refine ⟨_, rfl, W, rfl, ⟨_, SqL.of (s7 _ _ eW6)⟩, for_list (K := K) (a := W) (xs := xs) (fun j σ H8 => ∃ (o2 o3 o4 o8 o9 : Option V), σ = [some (.ref a), some (.ref W), o2, o3, o4, some (.ref cv), some (.ref cf), some (.int c), o8, o9] ∧ Same H6 H8)
      ⟨_, _, _, _, _, rfl, s7⟩ (fun j σ H8 _ ⟨_, _, _, _, _, _, s8⟩ => s8.seq (SqL.of eW6)) ?_ ?_⟩
    · rintro j v σ H8 hv ⟨p2, p3, p4, p8, p9, rfl, s8⟩
      obtain ⟨⟨z, as⟩, hw, rw8⟩ := Paired.get pw6 hv
      obtain ⟨t, p, l, xl, rfl, ht, hWb, lW, el, pl, z1, z10, h12, ok⟩ := rWeb.same s8 rw8
      dsimp only at ht hWb pl z1 z10 h12 ok
      refine ⟨t, _, rfl, ht, rfl, _, _, rfl, _, _, rfl, _, _, rfl, rfl, ?_⟩
      have ll := Paired.length pl
      refine ⟨_, rfl, _, _, rfl, rfl, ⟨by decide, by decide⟩, _, rfl, l, xl, rfl, .inl (SqL.of el), _, _, rfl, by omega, by omega, fun so ms H9 s9 e9 rise rng m12 => ?_⟩
      have el9 := s9 _ _ el
      have rl : ∀ {Hx : Hp}, Same H8 Hx → rLst K (rPair K) Hx as (.ref l) := fun {Hx} sx => ⟨l, xl, rfl, SqL.of (sx _ _ el), Paired.imp (fun _ _ r => trep_tup trep_int _ _ _ _ sx.ts r) pl⟩
      have rg0 : ∀ k ∈ ms, 0 ≤ k ∧ k < (as.length : Int) := fun k hk => by have := rng k hk; omega
      refine ⟨fun σ HA => ∃ (s' : Addr) (ms' : List Int), σ = [some (.ref a), some (.ref W), p2, some (.int z), some (.ref l), some (.ref cv), some (.ref cf), some (.int c), some (.ref p), some (.ref s')] ∧ Same H9 HA ∧ SqT K HA s' (ms'.map V.int) ∧ ms'.Sublist ms, ?_, ?_⟩
      · refine ⟨_, rfl, _, _, rfl, rfl, (by show (0 : Int) < 2; decide), rfl, _, rfl, ?_⟩
        refine ite2 (fun _ => ?_) (fun _ => ?_)
        · refine ⟨_, rfl, _, rfl, _, rfl, l, so, z, as, ms, rfl, rl s9, ok, SqT.of e9, m12, rg0, fun t5 fs HA sA hT sub => ?_⟩
          exact ⟨t5, fs, rfl, sA, hT, sub⟩
        · exact ⟨so, ms, rfl, Same.refl _, SqT.of e9, List.Sublist.refl _⟩
      rintro σ HA ⟨s', ms', rfl, sA, hs', sub⟩
      refine ⟨fun σ HB => ∃ (hd : Addr), σ = [some (.ref a), some (.ref W), p2, some (.int z), some (.ref l), some (.ref cv), some (.ref cf), some (.int c), some (.ref p), some (.ref hd)] ∧ Same HA HB ∧ rRow K HB hd ms', ?_, ?_⟩
      · refine ⟨_, rfl, _, _, rfl, rfl, ⟨by decide, by decide⟩, _, _, rfl, rfl, (by show (0 : Int) < 2; decide), rfl, _, rfl, ?_⟩
        refine ite2 (fun _ => ?_) (fun _ => ?_)
        · refine ⟨_, rfl, s', _, rfl, .inr hs', fun hd hhd => ?_⟩
          exact ⟨hd, rfl, Same.new hhd _, .inl (SqL.of upd_same)⟩
        · exact ⟨s', rfl, Same.refl _, .inr hs'⟩
      rintro σ HB ⟨hd, rfl, sB, hrow⟩
      have s8B := s9.trans (sA.trans sB)
      have s6B := s8.trans s8B
      refine ⟨_, rfl, _, rfl, _, rfl, _, rfl, _, rfl, _, rfl, cv, cf, p, l, hd, dv, df, z, as, ms', rfl, s6B _ _ ecv6, s6B _ _ ecf6, hWb.same s8B, rl s8B, hrow, z1, z10, h12, rise.sublist sub, fun k hk => rg0 k (sub.subset hk), Nat.le_trans sub.length_le m12, fun HC sC => ⟨true, rfl, iteF ?_⟩⟩
      exact ⟨_, _, _, _, _, rfl, s6B.trans sC⟩
    · rintro σ H8 ⟨p2, p3, p4, p8, p9, rfl, s8⟩
      exact ⟨_, _, _, _, _, _, rfl, s8⟩
  rintro σ H7 ⟨p2, p3, p4, p7, p8, p9, rfl, s7⟩
  have eW7 := s7 _ _ eW6
  have pw7 : Paired (rWeb K C W H7) ws xs := Paired.imp (fun _ _ r => rWeb.same s7 r) pw6
  refine ⟨_, rfl, W, rfl, ⟨_, SqL.of eW7⟩, fun D2 hD2 => ?_⟩
  refine turns_list (K := K) (a := W) (xs := xs) (fun j τ H8 => ∃ (o1 o2 o3 : Option V) (ys : List V), τ = [o1, o2, o3] ∧ Same H7 H8 ∧ H8 D2 = some (.lst ys) ∧ Paired (rOut K D2 H8) ((ws.take j).map fun w => w.2.map srt) ys) ⟨none, none, none, [], rfl, Same.new hD2 _, upd_same, .nil⟩ (fun j τ H8 _ ⟨_, _, _, _, _, s8, _⟩ => s8.seq (SqL.of eW7)) ?_ ?_
  · rintro j v τ H8 hv ⟨o1, o2, o3, ys, rfl, s8, eD, py⟩
    obtain ⟨⟨z, as⟩, hw, rw8⟩ := Paired.get pw7 hv
    obtain ⟨t, p, l, xl, rfl, ht, hWb, lW, el, pl, z1, z10, h12, ok⟩ := rWeb.same s8 rw8
    dsimp only at ht hWb pl z1 z10 h12 ok
    have jl := (List.getElem?_eq_some_iff.mp hw).1
    have ly := Paired.length py
    rw [List.length_map, List.length_take] at ly
    refine ⟨t, _, rfl, ht, rfl, _, _, rfl, _, _, rfl, _, _, rfl, rfl, ?_⟩
    refine yesD ?_
    obtain ⟨dx, jj, hpp, _⟩ := id hWb
    refine ⟨_, rfl, p, dx, _, rfl, hpp, flds_no _ _ (by decide +kernel) (by decide +kernel), p, z, _, rfl, hWb, fun l9 HE sE nl9 r9 => ?_⟩
    obtain ⟨l9', x9, e9', h9, p9'⟩ := id r9
    cases e9'
    have eDE := sE _ _ eD
    have l9D : l9 ≠ D2 := fun e => by
      rw [e, eD] at nl9
      cases nl9
    have kp : ∀ b o, b ≠ D2 → HE b = some o → (upd HE D2 (.lst (ys ++ [.ref l9]))) b = some o := fun b o hb e => by
      rw [upd_ne hb]
      exact e
    refine ⟨_, eDE, small1000 (by omega), _, _, _, _, rfl, fun b o e => ?_, upd_same, ?_⟩
    · rw [upd_ne (ne_of_none e hD2)]
      exact sE _ _ (s8 b o e)
    · rw [take_snoc hw, List.map_append]
      have kE : ∀ b o, b ≠ D2 → H8 b = some o → (upd HE D2 (.lst (ys ++ [.ref l9]))) b = some o := fun b o hb e => kp b o hb (sE _ _ e)
      exact Paired.app (Paired.imp (fun _ _ r => rOut.keep kE eD r) py) (Paired.one (rOut.keep kp eDE ⟨l9, x9, rfl, l9D, h9, p9'⟩))
  rintro τ H8 ⟨o1, o2, o3, ys, rfl, s8, eD, py⟩
  rw [← lx, List.take_length] at py
  have pw8 : Paired (rWeb K C W H8) ws xs := Paired.imp (fun _ _ r => rWeb.same s8 r) pw7
  refine ⟨_, rfl, W, rfl, ⟨_, SqL.of (s8 _ _ eW7)⟩, fun D4 hD4 => ?_⟩
  refine turns_list (K := K) (a := W) (xs := xs) (fun j τ H9 => ∃ (o1 : Option V) (zs : List V), τ = [o1] ∧ Same H8 H9 ∧ H9 D4 = some (.lst zs) ∧ Paired (rOut K D4 H9) ((ws.take j).map fun w => w.2.map srt) zs) ⟨none, [], rfl, Same.new hD4 _, upd_same, .nil⟩ (fun j τ H9 _ ⟨_, _, _, s9, _⟩ => s9.seq (SqL.of (s8 _ _ eW7))) ?_ ?_
  · rintro j v τ H9 hv ⟨o1, zs, rfl, s9, eD9, pz⟩
    obtain ⟨⟨z, as⟩, hw, rw9⟩ := Paired.get pw8 hv
    obtain ⟨t, p, l, xl, rfl, ht, hWb, lW, el, pl, z1, z10, h12, ok⟩ := rWeb.same s9 rw9
    dsimp only at ht hWb pl z1 z10 h12 ok
    have jl := (List.getElem?_eq_some_iff.mp hw).1
    have lz := Paired.length pz
    rw [List.length_map, List.length_take] at lz
    have ll := Paired.length pl
    refine yesN ?_
    have a2 : atI [V.ref p, V.int z, V.ref l] 2 = some (.ref l) := rfl
    refine ⟨_, rfl, t, _, _, _, rfl, rfl, ht, a2, l, rfl, ⟨_, SqL.of el⟩, fun Y hY => ?_⟩
    refine turns_list (K := K) (a := l) (xs := xl) (fun i τ H2 => ∃ (n : Option V) (us : List V), τ = [n] ∧ Same H9 H2 ∧ H2 Y = some (.lst us) ∧ Paired (rPair K H2) ((as.take i).map srt) us) ⟨none, [], rfl, Same.new hY _, upd_same, .nil⟩
      (fun i τ H2 _ ⟨_, _, _, s2, _⟩ => s2.seq (SqL.of el)) ?_ ?_
    · rintro i y τ H10 hy ⟨n, us, rfl, s10, e10, p10⟩
      obtain ⟨tie, ht', rt⟩ := Paired.get pl hy
      obtain ⟨q1, rfl, hq1⟩ := rPair_seq rt
      obtain ⟨u, v, rfl, _⟩ := ok.ok tie (List.mem_of_getElem? ht')
      have hq10 : SqT K H10 q1 [.int u, .int v] := s10.ts.seq hq1
      refine yesN ?_
      refine ⟨_, rfl, q1, u, v, rfl, hq10, _, rfl, q1, u, v, rfl, hq10, (by show 2 ≤ sizeLine; decide), fun t1 ht1 => ?_⟩
      have s11 := Same.new ht1 (.tup [.int (if v < u then v else u), .int (if v > u then v else u)])
      have e11 := s11 _ _ e10
      have lu : us.length ≤ 12 := by rw [← Paired.length p10, List.length_map, List.length_take]; omega
      refine ⟨us, e11, small1000 (by omega), _, _, rfl, fun b o e => ?_, upd_same, ?_⟩
      · rw [upd_ne (ne_of_none e hY)]
        exact s11 _ _ (s10 b o e)
      · have e : as.take (i + 1) = as.take i ++ [[u, v]] := by rw [List.take_add_one, ht']; rfl
        rw [e, List.map_append, List.map_singleton, srt_minmax]
        have ts := TSm.lst (o := .lst (us ++ [.ref t1])) e11
        have r1 : rPair K (upd H10 t1 (.tup [.int (if v < u then v else u), .int (if v > u then v else u)])) [if v < u then v else u, if v > u then v else u] (.ref t1) := rPair_of upd_same
        exact Paired.app (Paired.imp (fun a b => trep_tup trep_int _ _ a b (s11.ts.trans ts)) p10) (Paired.one (trep_tup trep_int _ _ _ _ ts r1))
    rintro τ H10 ⟨n, us, rfl, s10, e10, p10⟩
    rw [← ll, List.take_length] at p10
    have eD10 := s10 _ _ eD9
    have YD : Y ≠ D4 := fun e => by
      rw [e, eD9] at hY
      cases hY
    have kp : ∀ b o, b ≠ D4 → H10 b = some o → (upd H10 D4 (.lst (zs ++ [.ref Y]))) b = some o := fun b o hb e => by
      rw [upd_ne hb]
      exact e
    refine ⟨_, eD10, small1000 (by omega), _, _, rfl, fun b o e => ?_, upd_same, ?_⟩
    · rw [upd_ne (ne_of_none e hD4)]
      exact s10 _ _ (s9 b o e)
    · rw [take_snoc hw, List.map_append]
      have kE : ∀ b o, b ≠ D4 → H9 b = some o → (upd H10 D4 (.lst (zs ++ [.ref Y]))) b = some o := fun b o hb e => kp b o hb (s10 _ _ e)
      exact Paired.app (Paired.imp (fun _ _ r => rOut.keep kE eD9 r) pz) (Paired.one (rOut.keep kp eD10 ⟨Y, us, rfl, YD, SqL.of e10, p10⟩))
  rintro τ H9 ⟨o1, zs, rfl, s9, eD9, pz⟩
  rw [← lx, List.take_length] at pz
  have L1 : rLst K (rLst K (rPair K)) H9 (ws.map fun w => w.2.map srt) (.ref D2) := ⟨D2, ys, rfl, SqL.of (s9 _ _ eD), Paired.imp (fun _ _ r => rLst_same (trep_tup trep_int) s9 (rOut.lst r)) py⟩
  have L2' : rLst K (rLst K (rPair K)) H9 (ws.map fun w => w.2.map srt) (.ref D4) := ⟨D4, zs, rfl, SqL.of eD9, Paired.imp (fun _ _ r => rOut.lst r) pz⟩
  refine ⟨_, _, L1, L2', ?_⟩
  rw [decide_eq_true rfl]
  exact q _
end
end K51
end
def PySem.W.Fast.tw10944486914920351143 : Unit := ()
def PySem.W.Fast.tw10997231883969358295 : Unit := ()
def PySem.W.Fast.tw11856921476844965357 : Unit := ()
def PySem.W.Fast.tw12352231208221652554 : Unit := ()
def PySem.W.Fast.tw13109422778006439463 : Unit := ()
def PySem.W.Fast.tw13399606092678557277 : Unit := ()
def PySem.W.Fast.tw13505927844645150993 : Unit := ()
def PySem.W.Fast.tw5689746602845250071 : Unit := ()
def PySem.W.Fast.tw6096601785916437177 : Unit := ()
def PySem.W.Fast.tw7092486675523157293 : Unit := ()
def PySem.W.Fast.tw7684799526037249858 : Unit := ()
def PySem.W.Fast.tw8253808333556512900 : Unit := ()
def PySem.W.Fast.tw8556812439219843369 : Unit := ()
def PySem.W.Fast.tw8753972992284943708 : Unit := ()
def PySem.W.Fast.tw9520508759697373765 : Unit := ()
namespace K51
open PySem L2
theorem all_mk {l : PySem.W.OpenLaw} {w : World} {K : PySem.W.Frag} {h : Heap} {mg : Str → Option Value} {fa C : Addr} (X : K.In h) (G : h.Ns mainGlobals mg) (hfa : mg "law" = some (.ref fa))
    {f1 : Addr} {od1 an1 : Option Addr} {sl1 : Array (Option Value)} {oc1 kV1 dc1 pm1 cd1 ct1 : Value}
    {f2 : Addr} {od2 an2 : Option Addr} {sl2 : Array (Option Value)} {oc2 kV2 dc2 pm2 cd2 ct2 : Value}
    {f3 : Addr} {od3 an3 : Option Addr} {sl3 : Array (Option Value)} {oc3 kV3 dc3 pm3 cd3 ct3 : Value}
    {f4 : Addr} {od4 an4 : Option Addr} {sl4 : Array (Option Value)} {oc4 kV4 dc4 pm4 cd4 ct4 : Value}
    {f5 : Addr} {od5 an5 : Option Addr} {sl5 : Array (Option Value)} {oc5 kV5 dc5 pm5 cd5 ct5 : Value}
    {f6 : Addr} {od6 an6 : Option Addr} {sl6 : Array (Option Value)} {oc6 kV6 dc6 pm6 cd6 ct6 : Value}
    {f7 : Addr} {od7 an7 : Option Addr} {sl7 : Array (Option Value)} {oc7 kV7 dc7 pm7 cd7 ct7 : Value}
    {f8 : Addr} {od8 an8 : Option Addr} {sl8 : Array (Option Value)} {oc8 kV8 dc8 pm8 cd8 ct8 : Value}
    {f9 : Addr} {od9 an9 : Option Addr} {sl9 : Array (Option Value)} {oc9 kV9 dc9 pm9 cd9 ct9 : Value}
    {f10 : Addr} {od10 an10 : Option Addr} {sl10 : Array (Option Value)} {oc10 kV10 dc10 pm10 cd10 ct10 : Value}
    {f11 : Addr} {od11 an11 : Option Addr} {sl11 : Array (Option Value)} {oc11 kV11 dc11 pm11 cd11 ct11 : Value}
    {f12 : Addr} {od12 an12 : Option Addr} {sl12 : Array (Option Value)} {oc12 kV12 dc12 pm12 cd12 ct12 : Value}
    {f13 : Addr} {od13 an13 : Option Addr} {sl13 : Array (Option Value)} {oc13 kV13 dc13 pm13 cd13 ct13 : Value}
    {f14 : Addr} {od14 an14 : Option Addr} {sl14 : Array (Option Value)} {oc14 kV14 dc14 pm14 cd14 ct14 : Value}
    {f15 : Addr} {od15 an15 : Option Addr} {sl15 : Array (Option Value)} {oc15 kV15 dc15 pm15 cd15 ct15 : Value}
    {f16 : Addr} {od16 an16 : Option Addr} {sl16 : Array (Option Value)} {oc16 kV16 dc16 pm16 cd16 ct16 : Value}
    {f17 : Addr} {od17 an17 : Option Addr} {sl17 : Array (Option Value)} {oc17 kV17 dc17 pm17 cd17 ct17 : Value}
    (aC : PySem.W.nsIn K mainGlobals "Web" = some (some (.ref C)))
    (a1 : PySem.W.findIn K (.ref C) "__init__" = some (some (.ref f1))) (i1 : PySem.W.isFn K (.ref f1) = true) (l1 : K.lookup f1 = some ⟨oc1, od1, .func (PySem.W.fnOf "__init__" "Web.__init__" (defArgs sInit) (defBody sInit) (defScope sInit) .none kV1 dc1 pm1 an1 cd1 ct1), sl1⟩) (c1 : PySem.W.codeIn K cd1 "Web.__init__" = true) (k1 : PySem.W.keepIn K (.ref f1) = true)
    (a2 : PySem.W.findIn K (.ref C) "size" = some (some (.ref f2))) (i2 : PySem.W.isFn K (.ref f2) = true) (l2 : K.lookup f2 = some ⟨oc2, od2, .func (PySem.W.fnOf "size" "Web.size" (defArgs sSize) (defBody sSize) (defScope sSize) .none kV2 dc2 pm2 an2 cd2 ct2), sl2⟩) (c2 : PySem.W.codeIn K cd2 "Web.size" = true) (k2 : PySem.W.keepIn K (.ref f2) = true)
    (a3 : PySem.W.findIn K (.ref C) "ties" = some (some (.ref f3))) (i3 : PySem.W.isFn K (.ref f3) = true) (l3 : K.lookup f3 = some ⟨oc3, od3, .func (PySem.W.fnOf "ties" "Web.ties" (defArgs sTies) (defBody sTies) (defScope sTies) .none kV3 dc3 pm3 an3 cd3 ct3), sl3⟩) (c3 : PySem.W.codeIn K cd3 "Web.ties" = true) (k3 : PySem.W.keepIn K (.ref f3) = true)
    (a4 : PySem.W.findIn K (.ref C) "at" = some (some (.ref f4))) (i4 : PySem.W.isFn K (.ref f4) = true) (l4 : K.lookup f4 = some ⟨oc4, od4, .func (PySem.W.fnOf "at" "Web.at" (defArgs sAt) (defBody sAt) (defScope sAt) .none kV4 dc4 pm4 an4 cd4 ct4), sl4⟩) (c4 : PySem.W.codeIn K cd4 "Web.at" = true) (k4 : PySem.W.keepIn K (.ref f4) = true)
    (a5 : PySem.W.nsIn K mainGlobals "refuse_amounts" = some (some (.ref f5))) (l5 : K.lookup f5 = some ⟨oc5, od5, .func (PySem.W.fnOf "refuse_amounts" "refuse_amounts" (defArgs sAmt) (defBody sAmt) (defScope sAmt) .none kV5 dc5 pm5 an5 cd5 ct5), sl5⟩) (c5 : PySem.W.codeIn K cd5 "refuse_amounts" = true) (k5 : PySem.W.keepIn K (.ref f5) = true)
    (a6 : PySem.W.nsIn K mainGlobals "checked_ties" = some (some (.ref f6))) (l6 : K.lookup f6 = some ⟨oc6, od6, .func (PySem.W.fnOf "checked_ties" "checked_ties" (defArgs sChk) (defBody sChk) (defScope sChk) .none kV6 dc6 pm6 an6 cd6 ct6), sl6⟩) (c6 : PySem.W.codeIn K cd6 "checked_ties" = true) (k6 : PySem.W.keepIn K (.ref f6) = true)
    (a7 : PySem.W.nsIn K mainGlobals "refuse_points" = some (some (.ref f7))) (l7 : K.lookup f7 = some ⟨oc7, od7, .func (PySem.W.fnOf "refuse_points" "refuse_points" (defArgs sPts) (defBody sPts) (defScope sPts) .none kV7 dc7 pm7 an7 cd7 ct7), sl7⟩) (c7 : PySem.W.codeIn K cd7 "refuse_points" = true) (k7 : PySem.W.keepIn K (.ref f7) = true)
    (a8 : PySem.W.nsIn K mainGlobals "tie_counts" = some (some (.ref f8))) (l8 : K.lookup f8 = some ⟨oc8, od8, .func (PySem.W.fnOf "tie_counts" "tie_counts" (defArgs sCounts) (defBody sCounts) (defScope sCounts) .none kV8 dc8 pm8 an8 cd8 ct8), sl8⟩) (c8 : PySem.W.codeIn K cd8 "tie_counts" = true) (k8 : PySem.W.keepIn K (.ref f8) = true)
    (a9 : PySem.W.nsIn K mainGlobals "ties_within" = some (some (.ref f9))) (l9 : K.lookup f9 = some ⟨oc9, od9, .func (PySem.W.fnOf "ties_within" "ties_within" (defArgs sWithin) (defBody sWithin) (defScope sWithin) .none kV9 dc9 pm9 an9 cd9 ct9), sl9⟩) (c9 : PySem.W.codeIn K cd9 "ties_within" = true) (k9 : PySem.W.keepIn K (.ref f9) = true)
    (a10 : PySem.W.nsIn K mainGlobals "_law_cell" = some (some (.ref f10))) (l10 : K.lookup f10 = some ⟨oc10, od10, .func (PySem.W.fnOf "_law_cell" "_law_cell" (defArgs sCell) (defBody sCell) (defScope sCell) .none kV10 dc10 pm10 an10 cd10 ct10), sl10⟩) (c10 : PySem.W.codeIn K cd10 "_law_cell" = true) (k10 : PySem.W.keepIn K (.ref f10) = true)
    (a11 : PySem.W.nsIn K mainGlobals "_law_mixed" = some (some (.ref f11))) (l11 : K.lookup f11 = some ⟨oc11, od11, .func (PySem.W.fnOf "_law_mixed" "_law_mixed" (defArgs sMix) (defBody sMix) (defScope sMix) .none kV11 dc11 pm11 an11 cd11 ct11), sl11⟩) (c11 : PySem.W.codeIn K cd11 "_law_mixed" = true) (k11 : PySem.W.keepIn K (.ref f11) = true)
    (a12 : PySem.W.nsIn K mainGlobals "_law_draws" = some (some (.ref f12))) (l12 : K.lookup f12 = some ⟨oc12, od12, .func (PySem.W.fnOf "_law_draws" "_law_draws" (defArgs sDraw) (defBody sDraw) (defScope sDraw) .none kV12 dc12 pm12 an12 cd12 ct12), sl12⟩) (c12 : PySem.W.codeIn K cd12 "_law_draws" = true) (k12 : PySem.W.keepIn K (.ref f12) = true)
    (a13 : PySem.W.nsIn K mainGlobals "_law_web" = some (some (.ref f13))) (l13 : K.lookup f13 = some ⟨oc13, od13, .func (PySem.W.fnOf "_law_web" "_law_web" (defArgs sWeb) (defBody sWeb) (defScope sWeb) .none kV13 dc13 pm13 an13 cd13 ct13), sl13⟩) (c13 : PySem.W.codeIn K cd13 "_law_web" = true) (k13 : PySem.W.keepIn K (.ref f13) = true)
    (a14 : PySem.W.nsIn K mainGlobals "_law_some" = some (some (.ref f14))) (l14 : K.lookup f14 = some ⟨oc14, od14, .func (PySem.W.fnOf "_law_some" "_law_some" (defArgs sSome) (defBody sSome) (defScope sSome) .none kV14 dc14 pm14 an14 cd14 ct14), sl14⟩) (c14 : PySem.W.codeIn K cd14 "_law_some" = true) (k14 : PySem.W.keepIn K (.ref f14) = true)
    (a15 : PySem.W.nsIn K mainGlobals "_law_thinned" = some (some (.ref f15))) (l15 : K.lookup f15 = some ⟨oc15, od15, .func (PySem.W.fnOf "_law_thinned" "_law_thinned" (defArgs sThin) (defBody sThin) (defScope sThin) .none kV15 dc15 pm15 an15 cd15 ct15), sl15⟩) (c15 : PySem.W.codeIn K cd15 "_law_thinned" = true) (k15 : PySem.W.keepIn K (.ref f15) = true)
    (a16 : PySem.W.nsIn K mainGlobals "_law_right" = some (some (.ref f16))) (l16 : K.lookup f16 = some ⟨oc16, od16, .func (PySem.W.fnOf "_law_right" "_law_right" (defArgs sRight) (defBody sRight) (defScope sRight) .none kV16 dc16 pm16 an16 cd16 ct16), sl16⟩) (c16 : PySem.W.codeIn K cd16 "_law_right" = true) (k16 : PySem.W.keepIn K (.ref f16) = true)
    (a17 : PySem.W.nsIn K mainGlobals "law" = some (some (.ref f17))) (l17 : K.lookup f17 = some ⟨oc17, od17, .func (PySem.W.fnOf "law" "law" (defArgs sLaw) (defBody sLaw) (defScope sLaw) .none kV17 dc17 pm17 an17 cd17 ct17), sl17⟩) (c17 : PySem.W.codeIn K cd17 "law" = true) (k17 : PySem.W.keepIn K (.ref f17) = true)
    (pg : PySem.W.plainGet K C Str.empty = true) (hd : PySem.W.hasDictIn K C = true) (po : PySem.W.plainOver K C = true) (sa : PySem.W.findIn K (.ref C) "__setattr__" = some (some (.builtin "object.__setattr__"))) (mk : PySem.W.makesIn K C = true) (kc : PySem.W.keepIn K (.ref C) = true)
    (n0 : PySem.W.findIn K (.ref C) "amount" = some none)
    (n1 : PySem.W.findIn K (.ref C) "joints" = some none)
    {t0 : Tok} (v0 : PySem.W.nsIn K mainGlobals "MOST_POINTS" = some (some (.int 10 t0)))
    {t1 : Tok} (v1 : PySem.W.nsIn K mainGlobals "MOST_TIES" = some (some (.int 12 t1)))
    (z0 : PySem.W.nsIn K mainGlobals "len" = some none)
    (z1 : PySem.W.nsIn K mainGlobals "range" = some none)
    (z2 : PySem.W.nsIn K mainGlobals "int" = some none)
    (z3 : PySem.W.nsIn K mainGlobals "max" = some none)
    (z4 : PySem.W.nsIn K mainGlobals "min" = some none)
    (z5 : PySem.W.nsIn K mainGlobals "sorted" = some none)
    (z6 : PySem.W.nsIn K mainGlobals "tuple" = some none)
    (z7 : PySem.W.nsIn K mainGlobals "list" = some none)
    (z8 : PySem.W.nsIn K mainGlobals "bool" = some none)
    (z9 : PySem.W.nsIn K mainGlobals "enumerate" = some none)
    (z10 : PySem.W.nsIn K mainGlobals "isinstance" = some none)
    {D : Addr} (y_D : PySem.W.nsIn K mainGlobals "Pairs" = some (some (.ref D)))
    (pg_D : PySem.W.plainGet K D Str.empty = true)
    (hd_D : PySem.W.hasDictIn K D = true)
    (po_D : PySem.W.plainOver K D = true)
    (sa_D : PySem.W.findIn K (.ref D) "__setattr__" = some (some (.builtin "object.__setattr__")))
    (mk_D : PySem.W.makesIn K D = true)
    (kp_D : PySem.W.keepIn K (.ref D) = true)
    (ha_D : PySem.W.findIn K (.ref D) "__class__" = some (some (.builtin "object.__class__")))
    (hn_D : PySem.W.specialIn K (.builtin "object.__class__") "__get__" = some (some (.builtin "getset_descriptor.__get__")))
    (tk_D : PySem.W.takesIn K (.builtin "object.__class__") = some true)
    (hm_D : PySem.W.mroIn K D (.type "object") = some true)
    (is_D : PySem.W.kitOne K (.ref D) (.ref D) = some true)
    (nF_D : PySem.W.findIn K (.ref D) "full" = some none)
    {R : Addr} (y_R : PySem.W.nsIn K mainGlobals "Rule" = some (some (.ref R)))
    (is_R : PySem.W.kitOne K (.ref D) (.ref R) = some true)
    (x_all : PySem.W.nsIn K mainGlobals "all" = some none)
    {f_ip dt : Addr} {od_ip an_ip od_dt : Option Addr} {sl_ip sl_dt : Array (Option Value)} {oc_ip kV_ip dc_ip pm_ip cd_ip ct_ip oc_dt : Value} {n_dt : Nat} (a_ip : PySem.W.findIn K (.ref D) "__init__" = some (some (.ref f_ip)))
    (i_ip : PySem.W.isFn K (.ref f_ip) = true)
    (l_ip : K.lookup f_ip = some ⟨oc_ip, od_ip, .func (PySem.W.fnOf "__init__" "Pairs.__init__" (defArgs sInitP) (defBody sInitP) (defScope sInitP) (.ref dt) kV_ip dc_ip pm_ip an_ip cd_ip ct_ip), sl_ip⟩)
    (c_ip : PySem.W.codeIn K cd_ip "Pairs.__init__" = true)
    (d_ip : K.lookup dt = some ⟨oc_dt, od_dt, .seq #[.bool false] n_dt, sl_dt⟩)
    {f_allows : Addr} {od_allows an_allows : Option Addr} {sl_allows : Array (Option Value)} {oc_allows kV_allows dc_allows pm_allows cd_allows ct_allows : Value} (a_allows : PySem.W.findIn K (.ref D) "allows" = some (some (.ref f_allows)))
    (i_allows : PySem.W.isFn K (.ref f_allows) = true)
    (l_allows : K.lookup f_allows = some ⟨oc_allows, od_allows, .func (PySem.W.fnOf "allows" "Pairs.allows" (defArgs sAllows) (defBody sAllows) (defScope sAllows) .none kV_allows dc_allows pm_allows an_allows cd_allows ct_allows), sl_allows⟩)
    (c_allows : PySem.W.codeIn K cd_allows "Pairs.allows" = true)
    (q_allows : PySem.W.keepIn K (.ref f_allows) = true)
    {f_fits : Addr} {od_fits an_fits : Option Addr} {sl_fits : Array (Option Value)} {oc_fits kV_fits dc_fits pm_fits cd_fits ct_fits : Value} (a_fits : PySem.W.findIn K (.ref D) "fits" = some (some (.ref f_fits)))
    (i_fits : PySem.W.isFn K (.ref f_fits) = true)
    (l_fits : K.lookup f_fits = some ⟨oc_fits, od_fits, .func (PySem.W.fnOf "fits" "TiedPoints.fits" (defArgs sFits) (defBody sFits) (defScope sFits) .none kV_fits dc_fits pm_fits an_fits cd_fits ct_fits), sl_fits⟩)
    (c_fits : PySem.W.codeIn K cd_fits "TiedPoints.fits" = true)
    (q_fits : PySem.W.keepIn K (.ref f_fits) = true) :
    ∃ fd : FuncData, (∀ (s : Shared) (v : Value), BindsTo s fd ⟨[v], []⟩ [("_law_script", v)]) ∧ ∀ base : Heap, K.In base → base.Ns mainGlobals mg → FnOk l.prog w K mg base CX0 5 fa fd ["_law_script"] (spLaw K) := by
  have e := hfa.symm.trans (PySem.W.mg_of X G a17)
  cases e
  have F_init := fun_mk (st := sInit) l1 c1 k1
  have b_init := F_init.binds (ps := ["self", "many", "ties"]) fun _ _ _ _ _ _ us hl => match us, hl with | [_, _, _], _ => rfl
  have m_init : Meth K C "__init__" f1 := ⟨a1, i1, k1⟩
  have k_init := k1
  have F_size := fun_mk (st := sSize) l2 c2 k2
  have b_size := F_size.binds (ps := ["self"]) fun _ _ _ _ _ _ us hl => match us, hl with | [_], _ => rfl
  have m_size : Meth K C "size" f2 := ⟨a2, i2, k2⟩
  have k_size := k2
  have F_ties := fun_mk (st := sTies) l3 c3 k3
  have b_ties := F_ties.binds (ps := ["self"]) fun _ _ _ _ _ _ us hl => match us, hl with | [_], _ => rfl
  have m_ties : Meth K C "ties" f3 := ⟨a3, i3, k3⟩
  have k_ties := k3
  have F_at := fun_mk (st := sAt) l4 c4 k4
  have b_at := F_at.binds (ps := ["self", "point"]) fun _ _ _ _ _ _ us hl => match us, hl with | [_, _], _ => rfl
  have m_at : Meth K C "at" f4 := ⟨a4, i4, k4⟩
  have k_at := k4
  have F_amt := fun_mk (st := sAmt) l5 c5 k5
  have b_amt := F_amt.binds (ps := ["points", "ties"]) fun _ _ _ _ _ _ us hl => match us, hl with | [_, _], _ => rfl
  have m_amt := PySem.W.mg_of X G a5
  have k_amt := k5
  have F_chk := fun_mk (st := sChk) l6 c6 k6
  have b_chk := F_chk.binds (ps := ["many", "ties"]) fun _ _ _ _ _ _ us hl => match us, hl with | [_, _], _ => rfl
  have m_chk := PySem.W.mg_of X G a6
  have k_chk := k6
  have F_pts := fun_mk (st := sPts) l7 c7 k7
  have b_pts := F_pts.binds (ps := ["many", "tie"]) fun _ _ _ _ _ _ us hl => match us, hl with | [_, _], _ => rfl
  have m_pts := PySem.W.mg_of X G a7
  have k_pts := k7
  have F_counts := fun_mk (st := sCounts) l8 c8 k8
  have b_counts := F_counts.binds (ps := ["web", "some"]) fun _ _ _ _ _ _ us hl => match us, hl with | [_, _], _ => rfl
  have m_counts := PySem.W.mg_of X G a8
  have k_counts := k8
  have F_within := fun_mk (st := sWithin) l9 c9 k9
  have b_within := F_within.binds (ps := ["numbers", "some"]) fun _ _ _ _ _ _ us hl => match us, hl with | [_, _], _ => rfl
  have m_within := PySem.W.mg_of X G a9
  have k_within := k9
  have F_cell := fun_mk (st := sCell) l10 c10 k10
  have b_cell := F_cell.binds (ps := ["_law_script", "_law_k"]) fun _ _ _ _ _ _ us hl => match us, hl with | [_, _], _ => rfl
  have m_cell := PySem.W.mg_of X G a10
  have k_cell := k10
  have F_mix := fun_mk (st := sMix) l11 c11 k11
  have b_mix := F_mix.binds (ps := ["_law_cell_here", "_law_k"]) fun _ _ _ _ _ _ us hl => match us, hl with | [_, _], _ => rfl
  have m_mix := PySem.W.mg_of X G a11
  have k_mix := k11
  have F_draw := fun_mk (st := sDraw) l12 c12 k12
  have b_draw := F_draw.binds (ps := ["_law_cell_here", "_law_many", "_law_most"]) fun _ _ _ _ _ _ us hl => match us, hl with | [_, _, _], _ => rfl
  have m_draw := PySem.W.mg_of X G a12
  have k_draw := k12
  have F_web := fun_mk (st := sWeb) l13 c13 k13
  have b_web := F_web.binds (ps := ["_law_script", "_law_at"]) fun _ _ _ _ _ _ us hl => match us, hl with | [_, _], _ => rfl
  have m_web := PySem.W.mg_of X G a13
  have k_web := k13
  have F_some := fun_mk (st := sSome) l14 c14 k14
  have b_some := F_some.binds (ps := ["_law_cell_here", "_law_n"]) fun _ _ _ _ _ _ us hl => match us, hl with | [_, _], _ => rfl
  have m_some := PySem.W.mg_of X G a14
  have k_some := k14
  have F_thin := fun_mk (st := sThin) l15 c15 k15
  have b_thin := F_thin.binds (ps := ["_law_points", "_law_ties", "_law_some_here"]) fun _ _ _ _ _ _ us hl => match us, hl with | [_, _, _], _ => rfl
  have m_thin := PySem.W.mg_of X G a15
  have k_thin := k15
  have F_right := fun_mk (st := sRight) l16 c16 k16
  have b_right := F_right.binds (ps := ["_law_pairs", "_law_full", "_law_web_here", "_law_points", "_law_ties", "_law_handed"]) fun _ _ _ _ _ _ us hl => match us, hl with | [_, _, _, _, _, _], _ => rfl
  have m_right := PySem.W.mg_of X G a16
  have k_right := k16
  have F_law := fun_mk (st := sLaw) l17 c17 k17
  have b_law := F_law.binds (ps := ["_law_script"]) fun _ _ _ _ _ _ us hl => match us, hl with | [_], _ => rfl
  have m_law := PySem.W.mg_of X G a17
  have k_law := k17
  have law_all : ∀ base : Heap, FnOk l.prog w K mg base CX0 5 _ _ ["_law_script"] (spLaw K) := fun base => by
    have T : Txt K mg C := ⟨⟨pg, hd, po, sa⟩, n0, n1, PySem.W.mg_of X G aC, ⟨_, PySem.W.mg_of X G v0⟩, ⟨_, PySem.W.mg_of X G v1⟩, PySem.W.mg_none_of X G z0, PySem.W.mg_none_of X G z1, PySem.W.mg_none_of X G z2, PySem.W.mg_none_of X G z3, PySem.W.mg_none_of X G z4, PySem.W.mg_none_of X G z5, PySem.W.mg_none_of X G z6, PySem.W.mg_none_of X G z7, PySem.W.mg_none_of X G z8, PySem.W.mg_none_of X G z9, PySem.W.mg_none_of X G z10⟩
    have GCell := ok_cell (P := l.prog) (w := w) (base := base) F_cell T
    have GMix := ok_mix (P := l.prog) (w := w) (mg := mg) (base := base) F_mix
    have GDraw := ok_draw F_draw T GMix b_mix k_mix m_mix
    have GWeb := ok_web F_web T GCell b_cell k_cell m_cell GDraw b_draw k_draw m_draw
    have GAmt := ok_amt (P := l.prog) (w := w) (base := base) F_amt T
    have GPts := ok_pts (P := l.prog) (w := w) (mg := mg) (base := base) F_pts
    have GChk := ok_chk F_chk T GPts b_pts k_pts m_pts
    have GInit := ok_init F_init T GAmt b_amt k_amt m_amt GChk b_chk k_chk m_chk
    have GSize := ok_size (P := l.prog) (w := w) (base := base) F_size T
    have GTies := ok_ties (P := l.prog) (w := w) (base := base) F_ties T
    have GAt := ok_at (P := l.prog) (w := w) (base := base) F_at T
    have GWithin := ok_within (P := l.prog) (w := w) (mg := mg) (base := base) F_within
    have GCounts := ok_counts F_counts T GSize b_size m_size GAt b_at m_at GWithin b_within k_within m_within
    have GSome := ok_some (P := l.prog) (w := w) (base := base) F_some T
    have F_ip : FunD K "__init__" "Pairs.__init__" sInitP f_ip _ dt #[.bool false] := ⟨⟨_, _, _, _, _, _, _, _, _, rfl, l_ip, c_ip⟩, ⟨_, _, _, _, d_ip⟩⟩
    have b_ip0 : Binds K _ ["self", "full"] [.bool false] := F_ip.binds fun _ _ _ _ _ _ us hl => match us, hl with | [_], _ => ⟨_, rfl, rfl⟩ | [], h => by simp at h | _ :: _ :: _, h => by simp at h
    have b_ip1 : Binds K _ ["self", "full"] [] := F_ip.binds fun _ _ _ _ _ _ us hl => match us, hl with | [_, _], _ => ⟨_, rfl, rfl⟩
    have F_allows := fun_mk (st := sAllows) l_allows c_allows q_allows
    have b_allows := F_allows.binds (ps := ["self", "count"]) fun _ _ _ _ _ _ us hl => match us, hl with | [_, _], _ => rfl
    have m_allows : Meth K D "allows" f_allows := ⟨a_allows, i_allows, q_allows⟩
    have F_fits := fun_mk (st := sFits) l_fits c_fits q_fits
    have b_fits := F_fits.binds (ps := ["self", "web", "some"]) fun _ _ _ _ _ _ us hl => match us, hl with | [_, _, _], _ => rfl
    have m_fits : Meth K D "fits" f_fits := ⟨a_fits, i_fits, q_fits⟩
    have U : Rul K mg D R f_ip := ⟨⟨pg_D, hd_D, po_D, sa_D⟩, ⟨mk_D, a_ip, i_ip, kp_D⟩, PySem.W.mg_of X G y_D, ⟨ha_D, hn_D, tk_D, hm_D, is_D⟩, PySem.W.mg_of X G y_R, is_R, PySem.W.mg_none_of X G x_all, nF_D⟩
    have GIp := ok_initP (P := l.prog) (w := w) (base := base) F_ip U
    have GAllows := ok_allows (P := l.prog) (w := w) (base := base) F_allows U
    have GFits := ok_fits F_fits U GAllows b_allows m_allows GCounts b_counts k_counts m_counts
    have GThin := ok_thin (P := l.prog) (w := w) (base := base) F_thin T
    have GRight := ok_right F_right T U GFits b_fits m_fits
    exact ok_law F_law T U ⟨mk, a1, i1, kc⟩ GCell b_cell k_cell m_cell GWeb b_web k_web m_web GInit b_init GTies b_ties m_ties GSome b_some k_some m_some GIp b_ip0 b_ip1 GThin b_thin k_thin m_thin GRight b_right k_right m_right
  exact ⟨_, fun s v => .of_eq rfl, fun base _ _ => law_all base⟩
theorem walk {l : PySem.W.OpenLaw} {q : Program} {loose : List Str} {XP : (Str → Option Value) → Heap → Prop} {YP : World → Heap → Prop} {d : DefRec} {K : Params → PySem.W.Frag} (hn : l.most = some 63) (hdf : d.params.defaults = [])
    (hY : ∀ (w : World) (h : Heap), YP w h → (K w.params).In h)
    (F : ∀ (w : World) (mg : Str → Option Value) (fa : Addr) (h : Heap), (K w.params).In h → h.Ns mainGlobals mg → mg d.name = some (.ref fa) →
      ∃ fd : FuncData, (∀ (s : Shared) (u : Value), BindsTo s fd ⟨[u], []⟩ [("_law_script", u)]) ∧ ∀ base : Heap, (K w.params).In base → base.Ns mainGlobals mg → FnOk l.prog w (K w.params) mg base CX0 5 fa fd ["_law_script"] (spLaw (K w.params))) :
    PySem.W.WalkO q loose XP YP l.row.toRowW d [] (fun f vs => PySem.call f vs) :=
  L2.walk_of (n := 63) (k := 5) (x := "_law_script") (CX := fun _ => CX0) (sp := fun w => spLaw (K w.params)) hn (by decide) hdf ⟨rfl, by decide, by decide, rfl⟩ hY F (fun _ _ a ns hl _ hS => ⟨a, ns, rfl, hS, hl, fun _ => rfl⟩) fun _ _ _ _ _ z => z
end K51
open PySem PySem.W PyProof.Rows
set_option maxRecDepth 100000 in
set_option maxHeartbeats 0 in
theorem PySem.Challenge.cw_frontways_k51_pairs_told_apart_holds : PySem.Challenge.rw_frontways_k51_pairs_told_apart.Holds := by
  w_on; o_law; k_head; (case hw => w_witness2)
  k_fill
  refine K51.walk (l := PySem.Challenge.rw_frontways_k51_pairs_told_apart) rfl rfl (fun w h Y => PySem.W.kIn_of Y) ?F
  case F =>
    intro w mg fa h KX G hmg
    refine' K51.all_mk KX G hmg ?aC ?a1 ?i1 ?l1 ?c1 ?k1 ?a2 ?i2 ?l2 ?c2 ?k2 ?a3 ?i3 ?l3 ?c3 ?k3 ?a4 ?i4 ?l4 ?c4 ?k4 ?a5 ?l5 ?c5 ?k5 ?a6 ?l6 ?c6 ?k6 ?a7 ?l7 ?c7 ?k7 ?a8 ?l8 ?c8 ?k8 ?a9 ?l9 ?c9 ?k9 ?a10 ?l10 ?c10 ?k10 ?a11 ?l11 ?c11 ?k11 ?a12 ?l12 ?c12 ?k12 ?a13 ?l13 ?c13 ?k13 ?a14 ?l14 ?c14 ?k14 ?a15 ?l15 ?c15 ?k15 ?a16 ?l16 ?c16 ?k16 ?a17 ?l17 ?c17 ?k17 ?pg ?hd ?po ?sa ?mk ?kc ?n0 ?n1 ?v0 ?v1 ?z0 ?z1 ?z2 ?z3 ?z4 ?z5 ?z6 ?z7 ?z8 ?z9 ?z10 ?y_D ?pg_D ?hd_D ?po_D ?sa_D ?mk_D ?kp_D ?ha_D ?hn_D ?tk_D ?hm_D ?is_D ?nF_D ?y_R ?is_R ?x_all ?a_ip ?i_ip ?l_ip ?c_ip ?d_ip ?a_allows ?i_allows ?l_allows ?c_allows ?q_allows ?a_fits ?i_fits ?l_fits ?c_fits ?q_fits
    (case aC => k_is)
    (case a1 => k_is)
    (case i1 => k_is)
    (case l1 => k_is)
    (case c1 => k_is)
    (case k1 => k_is)
    (case a2 => k_is)
    (case i2 => k_is)
    (case l2 => k_is)
    (case c2 => k_is)
    (case k2 => k_is)
    (case a3 => k_is)
    (case i3 => k_is)
    (case l3 => k_is)
    (case c3 => k_is)
    (case k3 => k_is)
    (case a4 => k_is)
    (case i4 => k_is)
    (case l4 => k_is)
    (case c4 => k_is)
    (case k4 => k_is)
    (case a5 => k_is)
    (case l5 => k_is)
    (case c5 => k_is)
    (case k5 => k_is)
    (case a6 => k_is)
    (case l6 => k_is)
    (case c6 => k_is)
    (case k6 => k_is)
    (case a7 => k_is)
    (case l7 => k_is)
    (case c7 => k_is)
    (case k7 => k_is)
    (case a8 => k_is)
    (case l8 => k_is)
    (case c8 => k_is)
    (case k8 => k_is)
    (case a9 => k_is)
    (case l9 => k_is)
    (case c9 => k_is)
    (case k9 => k_is)
    (case a10 => k_is)
    (case l10 => k_is)
    (case c10 => k_is)
    (case k10 => k_is)
    (case a11 => k_is)
    (case l11 => k_is)
    (case c11 => k_is)
    (case k11 => k_is)
    (case a12 => k_is)
    (case l12 => k_is)
    (case c12 => k_is)
    (case k12 => k_is)
    (case a13 => k_is)
    (case l13 => k_is)
    (case c13 => k_is)
    (case k13 => k_is)
    (case a14 => k_is)
    (case l14 => k_is)
    (case c14 => k_is)
    (case k14 => k_is)
    (case a15 => k_is)
    (case l15 => k_is)
    (case c15 => k_is)
    (case k15 => k_is)
    (case a16 => k_is)
    (case l16 => k_is)
    (case c16 => k_is)
    (case k16 => k_is)
    (case a17 => k_is)
    (case l17 => k_is)
    (case c17 => k_is)
    (case k17 => k_is)
    (case pg => k_is)
    (case hd => k_is)
    (case po => k_is)
    (case sa => k_is)
    (case mk => k_is)
    (case kc => k_is)
    (case n0 => k_is)
    (case n1 => k_is)
    (case v0 => k_is)
    (case v1 => k_is)
    (case z0 => k_is)
    (case z1 => k_is)
    (case z2 => k_is)
    (case z3 => k_is)
    (case z4 => k_is)
    (case z5 => k_is)
    (case z6 => k_is)
    (case z7 => k_is)
    (case z8 => k_is)
    (case z9 => k_is)
    (case z10 => k_is)
    (case y_D => k_is)
    (case pg_D => k_is)
    (case hd_D => k_is)
    (case po_D => k_is)
    (case sa_D => k_is)
    (case mk_D => k_is)
    (case kp_D => k_is)
    (case ha_D => k_is)
    (case hn_D => k_is)
    (case tk_D => k_is)
    (case hm_D => k_is)
    (case is_D => kit_is)
    (case nF_D => k_is)
    (case y_R => k_is)
    (case is_R => kit_is)
    (case x_all => k_is)
    (case a_ip => k_is)
    (case i_ip => k_is)
    (case l_ip => k_is)
    (case c_ip => k_is)
    (case d_ip => k_is)
    (case a_allows => k_is)
    (case i_allows => k_is)
    (case l_allows => k_is)
    (case c_allows => k_is)
    (case q_allows => k_is)
    (case a_fits => k_is)
    (case i_fits => k_is)
    (case l_fits => k_is)
    (case c_fits => k_is)
    (case q_fits => k_is)
