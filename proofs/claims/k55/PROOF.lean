import PyProof.Rows.All
import Wide.All
import OpenK.AllK
import Wide.FinOn
import PyProof.EqAt
import PyProof.EqKinds
import PyProof.NeKinds
import PyProof.TupleCall
import KE.KIsAll
import KE.KIsNot
import KE.RegKIsAll
import OpenK.KOwn
import PyProof.NsDelKeeps
import PyProof.ReprRoads
import PyProof.ExcArgsOwn
import PyProof.IsiH_list
import Lean
import OpenK.KMake
import PyProof.DictIter
import KE.KDictList
import PyProof.DictItems
import PyProof.DictWalks
import PyProof.TupleOfSeq
import PySem.SetTable
import PyProof.SetKind
import PyProof.IsRules
import PyProof.Rows.SetFrom
import PyProof.FactsAll.set
import KE.KSortTup
import PyProof.Meets
import PyProof.AutoListH
import PyProof.Rows.Range3
import PyProof.CallType
import PyProof.EnumMake
import PyProof.Rows.CallKwBuiltin
import KE.LcSums
import PyProof.ListMulRoad
import PyProof.FactsAll.tuple_2
import KE.KRevIter
import PySem.Challenge.RW_frontways_k55_whole_covers_counted
set_option Elab.async false
set_option linter.all false
set_option maxRecDepth 100000
set_option maxHeartbeats 4000000
namespace L2
open PySem PySem.Spec PyProof.Rows
abbrev Key := Sum Int Str
def keyIs : Key → Value → Bool
  | .inl k, v => Value.isInt k v
  | .inr x, v => Value.isStrOf x v
def keyH (w : World) : Key → Int
  | .inl k => hashInt k
  | .inr x => hashStr w x
theorem keyIs_shape : ∀ {k : Key} {v : Value}, keyIs k v = true → (∃ i t, k = Sum.inl i ∧ v = Value.int i t) ∨ (∃ x t, k = Sum.inr x ∧ v = Value.str x t)
  | .inl i, v, h => by
    obtain ⟨t, e⟩ := Value.isInt_shape (k := i) (v := v) h
    exact .inl ⟨i, t, rfl, e⟩
  | .inr x, v, h => by
    obtain ⟨t, e⟩ := Value.isStrOf_shape (x := x) (v := v) h
    exact .inr ⟨x, t, rfl, e⟩
theorem keyIs_int (i : Int) (t : Tok) : keyIs (.inl i) (.int i t) = true := by simp [keyIs, Value.isInt]
theorem keyIs_str (x : Str) (t : Tok) : keyIs (.inr x) (.str x t) = true := by simp [keyIs, Value.isStrOf]
theorem key_ll (a b : Int) : decide ((Sum.inl a : Key) = Sum.inl b) = (a == b) := by
  by_cases e : a = b
  · subst e; simp
  · have h : ¬ (Sum.inl a : Key) = Sum.inl b := fun q => e (Sum.inl.inj q)
    rw [decide_eq_false h]
    exact (beq_eq_false_iff_ne.mpr e).symm
theorem key_rr (a b : Str) : decide ((Sum.inr a : Key) = Sum.inr b) = decide (a = b) := by
  by_cases e : a = b
  · subst e; simp
  · have h : ¬ (Sum.inr a : Key) = Sum.inr b := fun q => e (Sum.inr.inj q)
    rw [decide_eq_false h, decide_eq_false e]
theorem key_lr (a : Int) (b : Str) : decide ((Sum.inl a : Key) = Sum.inr b) = false := decide_eq_false (fun q => nomatch q)
theorem key_rl (a : Str) (b : Int) : decide ((Sum.inr a : Key) = Sum.inl b) = false := decide_eq_false (fun q => nomatch q)
def mixKind (prog : Program) (w : World) : PySem.KeyKind prog w Key where
  is := keyIs
  hash := keyH w
  inj := fun v a b ha hb => by
    rcases keyIs_shape ha with ⟨i, t, rfl, rfl⟩ | ⟨x, t, rfl, rfl⟩
    · rcases keyIs_shape hb with ⟨j, u, rfl, e⟩ | ⟨y, u, rfl, e⟩
      · injection e with e1 _; rw [e1]
      · exact nomatch e
    · rcases keyIs_shape hb with ⟨j, u, rfl, e⟩ | ⟨y, u, rfl, e⟩
      · exact nomatch e
      · injection e with e1 _; rw [e1]
  byValue := fun k v h => by
    rcases keyIs_shape h with ⟨i, t, rfl, rfl⟩ | ⟨x, t, rfl, rfl⟩ <;> rfl
  pyHash := fun hv h => by
    rcases keyIs_shape hv with ⟨i, t, rfl, rfl⟩ | ⟨x, t, rfl, rfl⟩
    · exact wpAny_pyHash_int h
    · exact wpAny_pyHash_str h
  eqBool := fun hu hv h => by
    rcases keyIs_shape hu with ⟨i, t, rfl, rfl⟩ | ⟨x, t, rfl, rfl⟩
    · rcases keyIs_shape hv with ⟨j, u, rfl, rfl⟩ | ⟨y, u, rfl, rfl⟩
      · rw [key_ll] at h; exact wpAny_eqBool_int h
      · rw [key_lr] at h; exact SeqAt.EqAt.int_str i t y u _ _ _ _ h
    · rcases keyIs_shape hv with ⟨j, u, rfl, rfl⟩ | ⟨y, u, rfl, rfl⟩
      · rw [key_rl] at h; exact SeqAt.EqAt.str_int x t j u _ _ _ _ h
      · rw [key_rr] at h; exact wpAny_eqBool_str h
  «strs» := fun k x t v h => by
    rcases keyIs_shape h with ⟨i, u, rfl, e⟩ | ⟨y, u, rfl, e⟩
    · exact nomatch e
    · injection e with e1 _
      subst e1
      cases v <;> rfl
theorem mixKind_int (prog : Program) (w : World) (i : Int) (t : Tok) : (mixKind prog w).is (.inl i) (.int i t) = true := keyIs_int i t
theorem mixKind_str (prog : Program) (w : World) (x : Str) (t : Tok) : (mixKind prog w).is (.inr x) (.str x t) = true := keyIs_str x t
end L2
namespace L2
open PySem PySem.Spec PyProof.Rows
inductive V where
  | non | bl (b : Bool) | int (i : Int) | str (x : Str) | byt (b : Array UInt8) | flt (b : UInt64) | ref (a : Addr) | ty (n : String)
  deriving DecidableEq
def RelV : V → Value → Prop
  | .non, u => u = Value.none
  | .bl b, u => u = Value.bool b
  | .int i, u => ∃ t, u = Value.int i t
  | .str x, u => ∃ t, u = Value.str x t
  | .byt b, u => ∃ t, u = Value.bytes b t
  | .flt b, u => ∃ t, u = Value.float b t
  | .ref a, u => u = Value.ref a
  | .ty n, u => u = Value.type n
abbrev Vals : List V → List Value → Prop := Paired RelV
theorem Vals.length {xs : List V} {us : List Value} (r : Vals xs us) : xs.length = us.length := Paired.length r
theorem Vals.get : ∀ {xs : List V} {us : List Value} {i : Nat} {x : V}, Vals xs us → xs[i]? = some x → ∃ u, us[i]? = some u ∧ RelV x u
  | _, _, _, _, .nil, e => by simp at e
  | _, _, 0, _, .cons r _, e => by simp at e; subst e; exact ⟨_, rfl, r⟩
  | _, _, i + 1, x, .cons _ t, e => by
    obtain ⟨u, h1, h2⟩ := Vals.get (i := i) (x := x) t (by simpa using e)
    exact ⟨u, by simpa using h1, h2⟩
theorem Vals.append : ∀ {xs ys : List V} {us ws : List Value}, Vals xs us → Vals ys ws → Vals (xs ++ ys) (us ++ ws)
  | _, _, _, _, .nil, s => s
  | _, _, _, _, .cons r t, s => .cons r (Vals.append t s)
theorem Vals.take : ∀ {xs : List V} {us : List Value} (n : Nat), Vals xs us → Vals (xs.take n) (us.take n)
  | _, _, 0, _ => .nil
  | _, _, _ + 1, .nil => .nil
  | _, _, n + 1, .cons r t => .cons r (Vals.take n t)
theorem Vals.drop : ∀ {xs : List V} {us : List Value} (n : Nat), Vals xs us → Vals (xs.drop n) (us.drop n)
  | _, _, 0, r => r
  | _, _, _ + 1, .nil => .nil
  | _, _, n + 1, .cons _ t => Vals.drop n t
def RelO : Option V → Option Value → Prop
  | some v, some u => RelV v u
  | none, none => True
  | _, _ => False
def KV {κ : Type} : List (κ × V) → List (κ × Value) → Prop := Paired fun (p : κ × V) (q : κ × Value) => p.1 = q.1 ∧ RelV p.2 q.2
def kV : Key → V
  | .inl i => .int i
  | .inr x => .str x
inductive HO where
  | lst (xs : List V)
  | tup (xs : List V)
  | dK (kvs : List (Key × V)) | dT (kvs : List (List Key × V))
  | set (S : Int → Bool) (n : Nat)
  | ins (C dx : Addr) (fs : List (Str × V))
  | own (x : Addr)
  | xd (fs : List (Str × V))
  | met (f x : Addr)
  | rng (lo hi : Int)
  | frz (o : Obj) (u : HO)
  | tbl (ps : Array Value)
  | ext (φ : Heap → Prop)
abbrev Hp := Addr → Option HO
def upd (H : Hp) (a : Addr) (o : HO) : Hp := fun b => if b = a then some o else H b
theorem upd_same {H : Hp} {a : Addr} {o : HO} : upd H a o a = some o := by unfold upd; rw [if_pos rfl]
theorem upd_ne {H : Hp} {a b : Addr} {o : HO} (h : b ≠ a) : upd H a o b = H b := by unfold upd; rw [if_neg h]
theorem upd_upd {H : Hp} {a : Addr} {o u : HO} : upd (upd H a o) a u = upd H a u := by
  funext b; unfold upd; split <;> rfl
theorem ne_of {H : Hp} {a b : Addr} {o u : HO} (h : H a = some o) (h' : H b = some u) (d : o ≠ u) : a ≠ b := by
  intro e; subst e; rw [h] at h'; exact d (Option.some.inj h')
theorem ne_of_none {H : Hp} {a b : Addr} {o : HO} (h : H a = some o) (h' : H b = none) : a ≠ b := by
  intro e; subst e; rw [h] at h'; cases h'
section
variable (P : Program) (w : World)
def ObjOk (H : Hp) (h : Heap) (a : Addr) : HO → Prop
  | .lst xs => xs.length ≤ sizeLine ∧ ∃ (its : List Value) (n : Nat), Vals xs its ∧ h.get? a = some { cls := .type "list", data := .seq its.toArray n }
  | .tup xs => xs.length ≤ sizeLine ∧ ∃ its : List Value, Vals xs its ∧ IsTup h a its.toArray
  | .dK kvs => kvs.length ≤ sizeLine ∧ (a == sysModules) = false ∧ ∃ vs, KV kvs vs ∧ h.DictOf (mixKind P w) a vs
  | .dT kvs => kvs.length ≤ sizeLine ∧ (a == sysModules) = false ∧ ∃ xs : List (List Key × Addr × Value),
      Paired (fun (p : List Key × V) (q : List Key × Addr × Value) => p.1 = q.1 ∧ H q.2.1 = some (.tup (p.1.map kV)) ∧ RelV p.2 q.2.2) kvs xs ∧
      ∃ o es ep, h.get? a = some o ∧ o.ExactDict ∧ o.data = .dict es ep ∧ es.toList = xs.map (entryOfKey (tupleKind (mixKind P w))) ∧ (xs.map (·.1)).Nodup
  | .set S n => h.SetOf (intKind P w) a S n
  | .ins C dx fs => H dx = some (.own a) ∧ fs.length ≤ 1000 ∧ dx ≠ a ∧ h.get? a = some (PySem.W.instObj C dx) ∧
      ∃ mA, h.Ns1 dx mA ∧ (∀ f, RelO (fs.lookup f) (mA f)) ∧ PySem.Within mA (fs.map (·.1))
  | .own _ => ∃ o, h.get? a = some o
  | .xd fs => ∃ mA, h.Ns1 a mA ∧ ∀ f, RelO (fs.lookup f) (mA f)
  | .rng lo hi => ∃ t u v, h.get? a = some { cls := .type "range", data := .fields #[.int lo t, .int hi u, .int 1 v] }
  | .frz o u => h.get? a = some o ∧ ObjOk H h a u
  | .tbl ps => h.get? a = some { cls := .none, data := .fields ps }
  | .met f x => h.get? a = some (PySem.W.methodObj (.ref f) (.ref x))
  | .ext φ => φ h ∧ (∃ o, h.get? a = some o) ∧ ∀ h1 h2 : Heap, φ h1 → (∀ o, h1.get? a = some o → h2.get? a = some o) → φ h2
def HOk (H : Hp) (h : Heap) : Prop := ∀ a o, H a = some o → ObjOk P w H h a o
end
section
variable {P : Program} {w : World} {H H' : Hp} {h h' : Heap} {a : Addr} {o : HO}
theorem ObjOk.lt (x : ObjOk P w H h a o) : a < h.objs.size := by
  cases o with
  | lst xs => obtain ⟨_, _, _, _, e⟩ := x; exact Heap.lt_size e
  | tup xs => obtain ⟨_, _, _, p⟩ := x; exact p.lt
  | dK kvs => obtain ⟨_, _, _, _, o, _, _, e, _⟩ := x; exact Heap.lt_size e
  | dT kvs => obtain ⟨_, _, _, _, o, _, _, e, _⟩ := x; exact Heap.lt_size e
  | set S n => obtain ⟨o, _, _, _, e, _⟩ := x; exact Heap.lt_size e
  | ins C dx fs => obtain ⟨_, _, _, e, _⟩ := x; exact Heap.lt_size e
  | own y => obtain ⟨_, e⟩ := x; exact Heap.lt_size e
  | xd fs => obtain ⟨_, ⟨_, _, _, e, _⟩, _⟩ := x; exact Heap.lt_size e
  | rng lo hi => obtain ⟨_, _, _, e⟩ := x; exact Heap.lt_size e
  | frz ob u => obtain ⟨e, _⟩ := x; exact Heap.lt_size e
  | tbl ps => exact Heap.lt_size (show h.get? a = some _ from x)
  | met f y => exact Heap.lt_size (show h.get? a = some _ from x)
  | ext φ => obtain ⟨_, ⟨_, e⟩, _⟩ := x; exact Heap.lt_size e
theorem Paired.mapP {α β : Type} {F G : α → β → Prop} : ∀ {l₁ : List α} {l₂ : List β}, Paired F l₁ l₂ → (∀ a b, F a b → G a b) → Paired G l₁ l₂
  | _, _, .nil, _ => .nil
  | _, _, .cons r t, f => .cons (f _ _ r) (Paired.mapP t f)
theorem ObjOk.stay (x : ObjOk P w H h a o) (k : ∀ b u, (b = a ∨ H b = some (.own a)) → h.get? b = some u → h'.get? b = some u)
    (ho : ∀ b, H b = some (.own a) → H' b = some (.own a)) (ht : ∀ b xs, H b = some (.tup xs) → H' b = some (.tup xs)) : ObjOk P w H' h' a o := by
  induction o with
  | lst xs => obtain ⟨z, its, n, r, e⟩ := x; exact ⟨z, its, n, r, k _ _ (.inl rfl) e⟩
  | tup xs => obtain ⟨z, its, r, ob, e, c⟩ := x; exact ⟨z, its, r, ob, k _ _ (.inl rfl) e, c⟩
  | dK kvs => obtain ⟨z, y, vs, r, ob, es, ep, e, c⟩ := x; exact ⟨z, y, vs, r, ob, es, ep, k _ _ (.inl rfl) e, c⟩
  | dT kvs =>
    obtain ⟨z, y, xs, r, ob, es, ep, e, c⟩ := x
    exact ⟨z, y, xs, Paired.mapP r fun p q z => ⟨z.1, ht _ _ z.2.1, z.2.2⟩, ob, es, ep, k _ _ (.inl rfl) e, c⟩
  | set S n => obtain ⟨ob, es, ep, t, e, c⟩ := x; exact ⟨ob, es, ep, t, k _ _ (.inl rfl) e, c⟩
  | ins C dx fs =>
    obtain ⟨d, z, ne, e, mA, ⟨od, es, ep, e2, c⟩, r⟩ := x
    exact ⟨ho _ d, z, ne, k _ _ (.inl rfl) e, mA, ⟨od, es, ep, k _ _ (.inr d) e2, c⟩, r⟩
  | own y => obtain ⟨ob, e⟩ := x; exact ⟨ob, k _ _ (.inl rfl) e⟩
  | xd fs => obtain ⟨mA, ⟨od, es, ep, e, c⟩, r⟩ := x; exact ⟨mA, ⟨od, es, ep, k _ _ (.inl rfl) e, c⟩, r⟩
  | rng lo hi => obtain ⟨t, u, v, e⟩ := x; exact ⟨t, u, v, k _ _ (.inl rfl) e⟩
  | frz ob u ih => obtain ⟨e, q⟩ := x; exact ⟨k _ _ (.inl rfl) e, ih q⟩
  | tbl ps =>
    have e : h.get? a = some { cls := .none, data := .fields ps } := x
    show h'.get? a = some { cls := .none, data := .fields ps }
    exact k a _ (.inl rfl) e
  | met f y =>
    have e : h.get? a = some (PySem.W.methodObj (.ref f) (.ref y)) := x
    show h'.get? a = some (PySem.W.methodObj (.ref f) (.ref y))
    exact k a _ (.inl rfl) e
  | ext φ => obtain ⟨p, ⟨o, e⟩, st⟩ := x; exact ⟨st _ _ p fun o q => k _ _ (.inl rfl) q, ⟨o, k _ _ (.inl rfl) e⟩, st⟩
theorem HOk.lt (x : HOk P w H h) (e : H a = some o) : a < h.objs.size := (x a o e).lt
theorem HOk.fresh (x : HOk P w H h) (e : h.objs.size ≤ a) : H a = none := by
  cases q : H a with
  | none => rfl
  | some u => exact absurd (Nat.lt_of_lt_of_le (x.lt q) e) (Nat.lt_irrefl _)
theorem HOk.kept (x : HOk P w H h) (k : ∀ b u, h.get? b = some u → h'.get? b = some u) : HOk P w H h' := fun a o e =>
  (x a o e).stay (fun b u _ q => k b u q) (fun _ q => q) fun _ _ q => q
theorem HOk.laid (x : HOk P w H h) (k : ∀ b u, h.get? b = some u → h'.get? b = some u) (hp : h.objs.size ≤ a) (new : ObjOk P w (upd H a o) h' a o) : HOk P w (upd H a o) h' := fun b u e => by
  have hn := x.fresh hp
  by_cases hb : b = a
  · subst hb; rw [upd_same] at e; cases e; exact new
  · rw [upd_ne hb] at e
    exact (x b u e).stay (fun c v _ q => k c v q) (fun c q => by rw [upd_ne (ne_of_none q hn)]; exact q) fun c xs q => by rw [upd_ne (ne_of_none q hn)]; exact q
end
def Rd (H : Hp) (a : Addr) (u : HO) : Prop := H a = some u ∨ ∃ o, H a = some (.frz o u)
theorem Rd.ok {P : Program} {w : World} {H : Hp} {h : Heap} {a : Addr} {u : HO} (r : Rd H a u) (x : HOk P w H h) : ObjOk P w H h a u := by
  rcases r with r | ⟨o, r⟩
  · exact x a u r
  · obtain ⟨_, q⟩ := x a _ r
    exact q
def Mut : Option HO → Prop
  | some (.lst _) => True
  | some (.dK _) => True
  | some (.dT _) => True
  | some (.set _ _) => True
  | some (.ins _ _ _) => True
  | some (.ext _) => True
  | _ => False
section
variable {P : Program} {w : World} {H : Hp} {h h' : Heap} {x e : Addr} {o' : HO}
theorem HOk.write (ok : HOk P w H h) (mu : Mut (H x)) (he : e = x ∨ H e = some (.own x)) (k : ∀ b u, b ≠ e → h.get? b = some u → h'.get? b = some u) (heo : ∃ u, h'.get? e = some u)
    (new : ObjOk P w (upd H x o') h' x o') : HOk P w (upd H x o') h' := fun b u q => by
  have nown : ∀ c y, H c = some (.own y) → c ≠ x := fun c y r z => by subst z; rw [r] at mu; exact mu
  have ntup : ∀ c xs, H c = some (.tup xs) → c ≠ x := fun c xs r z => by subst z; rw [r] at mu; exact mu
  by_cases hb : b = x
  · subst hb; rw [upd_same] at q; cases q; exact new
  · rw [upd_ne hb] at q
    by_cases hbe : b = e
    · have q' : H b = some (.own x) := by
        rcases he with z | z
        · exact absurd (hbe.trans z) hb
        · rw [hbe]; exact z
      rw [q] at q'; cases q'
      obtain ⟨v, hv⟩ := heo
      exact ⟨v, by rw [hbe]; exact hv⟩
    · refine (ok b u q).stay (fun c v hc r => k c v ?_ r) (fun c r => by rw [upd_ne (nown c b r)]; exact r) fun c xs r => by rw [upd_ne (ntup c xs r)]; exact r
      rcases hc with rfl | hc
      · exact hbe
      · rintro rfl
        rcases he with z | z
        · exact nown c b hc z
        · rw [hc] at z; cases z; exact hb rfl
end
structure Un (fs ex : List Addr) (H H' : Hp) (h h' : Heap) : Prop where
  keep : ∀ b o, h.get? b = some o → H b = none → b ∉ fs → b ∉ ex → h'.get? b = some o
  slot : ∀ b o, h.get? b = some o → H b = none → b ∈ fs → b ∉ ex → ∃ sl, h'.get? b = some { o with slots := sl }
  free : ∀ b o, h.get? b = some o → H b = none → b ∉ ex → H' b = none
  there : ∀ b o, h.get? b = some o → b ∉ ex → ∃ o', h'.get? b = some o'
  tups : ∀ b xs, H b = some (.tup xs) → H' b = some (.tup xs)
  frzs : ∀ b o u, H b = some (.frz o u) → H' b = some (.frz o u)
  tbls : ∀ b ps, H b = some (.tbl ps) → ∃ more, H' b = some (.tbl (ps ++ more))
section
variable {fs fs' ex ex' : List Addr} {H H1 H2 : Hp} {h h1 h2 h' : Heap} {a x e : Addr} {o : HO}
theorem Un.any (u : Un fs ex H H1 h h1) {b : Addr} {ob : Obj} (q : h.get? b = some ob) (n : H b = none) (hx : b ∉ ex) : ∃ sl, h1.get? b = some { ob with slots := sl } := by
  by_cases hb : b ∈ fs
  · exact u.slot b ob q n hb hx
  · exact ⟨ob.slots, u.keep b ob q n hb hx⟩
theorem Un.kept (k : ∀ b u, h.get? b = some u → h'.get? b = some u) : Un fs ex H H h h' :=
  ⟨fun b ob q _ _ _ => k b ob q, fun b ob q _ _ _ => ⟨ob.slots, k b ob q⟩, fun _ _ _ n _ => n, fun b ob q _ => ⟨ob, k b ob q⟩, fun _ _ q => q, fun _ _ _ q => q, fun _ ps q => ⟨#[], by rw [q]; simp⟩⟩
theorem Un.refl : Un fs ex H H h h := Un.kept fun _ _ q => q
theorem Un.laid (k : ∀ b u, h.get? b = some u → h'.get? b = some u) (hp : h.objs.size ≤ a) (hn : H a = none) : Un fs ex H (upd H a o) h h' where
  keep := fun b u q _ _ _ => k b u q
  slot := fun b u q _ _ _ => ⟨u.slots, k b u q⟩
  free := fun b u q n _ => by rw [upd_ne (Nat.ne_of_lt (Nat.lt_of_lt_of_le (Heap.lt_size q) hp))]; exact n
  there := fun b u q _ => ⟨u, k b u q⟩
  tups := fun b xs q => by rw [upd_ne (ne_of_none q hn)]; exact q
  frzs := fun b u xs q => by rw [upd_ne (ne_of_none q hn)]; exact q
  tbls := fun b ps q => ⟨#[], by rw [upd_ne (ne_of_none q hn), q]; simp⟩
theorem Un.write (mu : Mut (H x)) (he : e = x ∨ H e = some (.own x)) (k : ∀ b u, b ≠ e → h.get? b = some u → h'.get? b = some u) (heo : ∃ u, h'.get? e = some u) : Un fs ex H (upd H x o) h h' := by
  have hx : ∀ b, H b = none → b ≠ x := fun b n z => by subst z; rw [n] at mu; exact mu
  have hb : ∀ b, H b = none → b ≠ e := fun b n z => by
    subst z
    rcases he with r | r
    · exact hx b n r
    · rw [n] at r; cases r
  have hm : ∀ b u, H b = some u → ¬ Mut (some u) → b ≠ x := fun b u q nm z => by subst z; rw [q] at mu; exact nm mu
  refine ⟨fun b u q n _ _ => k b u (hb b n) q, fun b u q n _ _ => ⟨u.slots, k b u (hb b n) q⟩, fun b u q n _ => by rw [upd_ne (hx b n)]; exact n, fun b u q _ => ?_,
    fun b xs q => by rw [upd_ne (hm b _ q fun z => z)]; exact q, fun b u xs q => by rw [upd_ne (hm b _ q fun z => z)]; exact q, fun b ps q => ⟨#[], by rw [upd_ne (hm b _ q fun z => z), q]; simp⟩⟩
  by_cases hbe : b = e
  · subst hbe; exact heo
  · exact ⟨u, k b u hbe q⟩
end
def trk (h : Heap) (H : Hp) : List Addr := (List.range h.objs.size).filter fun a => (H a).isSome
def hidT (h : Heap) (H : Hp) : Heap := PySem.W.hideAll h (trk h H)
theorem hidT_size (h : Heap) (H : Hp) : (hidT h H).objs.size = h.objs.size := PySem.W.hideAll_size _ _
theorem hidT_get {h : Heap} {H : Hp} {b : Addr} {o : Obj} (e : h.get? b = some o) (n : H b = none) : (hidT h H).get? b = some o :=
  PySem.W.hideAll_get _ e fun hm => by
    have q : (H b).isSome = true := (List.mem_filter.mp hm).2
    rw [n] at q; simp at q
theorem of_hidT {h : Heap} {H : Hp} {b : Addr} {o : Obj} (e : (hidT h H).get? b = some o) : h.get? b = some o ∧ H b = none := by
  have e' : h.get? b = some o := PySem.W.of_hideAll (trk h H) e
  refine ⟨e', ?_⟩
  cases q : H b with
  | none => rfl
  | some x =>
    have hm : b ∈ trk h H := List.mem_filter.mpr ⟨List.mem_range.mpr (Heap.lt_size e'), by simp [q]⟩
    have z : (hidT h H).get? b = none := PySem.W.hideAll_none (trk h H) hm
    rw [z] at e; cases e
end L2
namespace L2
open PySem PySem.Spec PyProof.Rows
structure Mod (K : PySem.W.Frag) (mg : Str → Option Value) (base : Heap) : Prop where
  kin : K.In base
  glob : base.Ns mainGlobals mg
  blt : ∃ mb, base.Ns builtinsNs mb ∧ ∀ x : Str, x ≠ "__name__" → mb x = bootBuiltins x
  nolimit : base.NoLimit
structure Cx where
  prog : Program
  w : World
  K : PySem.W.Frag
  mg : Str → Option Value
  base : Heap
  A : Around
  N : List Str
  s₀ : Shared
  H₀ : Hp
  env : Env
  outer : List Env
  stack : List Env
  ex : List Addr
  fn : Str → Bool
  calm : Bool
  pn : List (Addr × Obj)
  xe : Value → Shared → Prop
def frs (l : List Env) : List Addr := l.filterMap (·.frame)
abbrev Cx.fs (X : Cx) : List Addr := frs X.outer
def Vis (sc : Scope) (x : Str) : Prop := sc.names.lookup x = some .local ∨ sc.names.lookup x = some .cell ∨ sc.names.lookup x = some .free
def Loc (sc : Scope) (x : Str) : Prop := sc.names.lookup x = some .local ∨ sc.names.lookup x = some .cell
def Look (env : Env) (h : Heap) (m : Str → Option Value) (x : Str) (u : Value) : Prop :=
  (env.kindOf x = some .local ∧ m x = some u) ∨ ((env.kindOf x = some .cell ∨ env.kindOf x = some .free) ∧ ∃ c, env.cells.lookup x = some c ∧ h.IsCell c (some u))
structure Cx.Ok (X : Cx) : Prop where
  mod : Mod X.K X.mg X.base
  kind : X.env.scope.kind = .function
  glob : X.env.globals = mainGlobals
  blt : X.env.builtins = builtinsNs
  above : X.s₀.heap.objs.size ≤ X.env.locals
  inj : ∀ x y c, X.env.cells.lookup x = some c → X.env.cells.lookup y = some c → x = y
  has : ∀ x, (X.env.kindOf x = some .cell ∨ X.env.kindOf x = some .free) → ∃ c, X.env.cells.lookup x = some c
  cab : ∀ x c, X.fn x = true → X.env.cells.lookup x = some c → X.s₀.heap.objs.size ≤ c
  hd : X.calm = true → X.A.handled = none
  frames : X.A.frames = some X.stack
  stk : X.stack = X.outer ∨ (X.stack = X.env :: X.outer ∧ X.env.frame = some X.env.locals)
  exf : ∀ b ∈ X.ex, b ≠ X.env.locals ∧ ∀ x c, X.env.cells.lookup x = some c → c ≠ b
  bs : ∀ b o, X.base.get? b = some o → X.s₀.heap.get? b = some o ∧ X.H₀ b = none
  bsz : X.base.objs.size ≤ X.s₀.heap.objs.size
  noex : ∀ b o, X.base.get? b = some o → b ∉ X.ex
  exfs : ∀ b ∈ X.ex, b ∉ X.fs
  funs : X.s₀.heap.FunFrames X.base X.outer
  frf : ∀ b ∈ X.fs, X.H₀ b = none
structure Inv (X : Cx) (pins : List (Addr × Obj)) (σ : List (Option V)) (H : Hp) (s : Shared) : Prop where
  ok : X.Ok
  os : s.os = X.s₀.os
  bare : AllBare s.gens
  base : Un X.fs X.ex X.H₀ H X.s₀.heap s.heap
  loc : ∃ m, s.heap.Ns X.env.locals m ∧ ∀ (i : Nat) (x : Str) (v : V), X.N[i]? = some x → σ[i]? = some (some v) → Vis X.env.scope x → ∃ u, RelV v u ∧ Look X.env s.heap m x u
  cell : ∀ x c, X.env.cells.lookup x = some c → ∃ v, s.heap.IsCell c v
  free : H X.env.locals = none
  freeC : ∀ x c, X.env.cells.lookup x = some c → H c = none
  pin : ∀ p ∈ X.pn ++ pins, s.heap.get? p.1 = some p.2 ∧ H p.1 = none ∧ p.1 ≠ X.env.locals ∧ p.1 ∉ X.fs ∧ ∀ v, p.2.data ≠ .cell v
  hok : HOk X.prog X.w H s.heap
  len : σ.length = X.N.length
section
variable {X : Cx} {pins : List (Addr × Obj)} {σ : List (Option V)} {H H' : Hp} {s : Shared} {h' : Heap}
theorem Cx.Ok.nofr (ok : X.Ok) {b : Addr} {o : Obj} (e : X.base.get? b = some o) : b ∉ X.fs := fun hb => by
  have := (ok.funs.mem hb).1
  rw [e] at this; cases this
theorem Inv.bs (I : Inv X pins σ H s) : ∀ b o, X.base.get? b = some o → s.heap.get? b = some o ∧ H b = none := fun b o e =>
  ⟨I.base.keep b o (I.ok.bs b o e).1 (I.ok.bs b o e).2 (I.ok.nofr e) (I.ok.noex b o e), I.base.free b o (I.ok.bs b o e).1 (I.ok.bs b o e).2 (I.ok.noex b o e)⟩
theorem Inv.bk (I : Inv X pins σ H s) : ∀ b o, X.base.get? b = some o → s.heap.get? b = some o := fun b o e => (I.bs b o e).1
theorem Inv.mod (I : Inv X pins σ H s) : Mod X.K X.mg X.base := I.ok.mod
theorem Inv.kIn (I : Inv X pins σ H s) : X.K.In s.heap := I.ok.mod.kin.keeps I.bk
theorem Inv.lt (I : Inv X pins σ H s) : X.env.locals < s.heap.objs.size := let ⟨_, hn, _⟩ := I.loc; hn.lt
theorem Inv.sz (I : Inv X pins σ H s) : X.s₀.heap.objs.size ≤ s.heap.objs.size := Nat.le_trans I.ok.above (Nat.le_of_lt I.lt)
theorem Inv.nofs (I : Inv X pins σ H s) {a : Addr} (h : s.heap.objs.size ≤ a) : a ∉ X.fs := fun hb => by
  obtain ⟨_, o, ho, _⟩ := I.ok.funs.mem hb
  exact absurd (Nat.lt_of_lt_of_le (Heap.lt_size ho) (Nat.le_trans I.sz h)) (Nat.lt_irrefl _)
theorem Inv.cne (I : Inv X pins σ H s) : ∀ x c, X.env.cells.lookup x = some c → c ≠ X.env.locals := fun x c e z => by
  obtain ⟨v, o, ho, hd⟩ := I.cell x c e
  obtain ⟨m, ⟨o', es, ep, ho', hd', _⟩, _⟩ := I.loc
  rw [z, ho'] at ho; cases ho; rw [hd'] at hd; cases hd
theorem Inv.funs (I : Inv X pins σ H s) : s.heap.FunFrames X.base X.outer := by
  have all : ∀ (l : List Env), (∀ b ∈ frs l, b ∈ X.fs) → X.s₀.heap.FunFrames X.base l → s.heap.FunFrames X.base l := by
    intro l
    induction l with
    | nil => intro _ _; trivial
    | cons env r ih =>
      intro hs hl
      obtain ⟨hk, ⟨L, o, hf, hn, ho, hd⟩, hr⟩ := hl
      have hL : L ∈ X.fs := hs L (by unfold frs; rw [List.filterMap_cons, hf]; exact List.mem_cons_self)
      obtain ⟨sl, e⟩ := I.base.slot L o ho (I.ok.frf L hL) hL fun z => I.ok.exfs L z hL
      exact ⟨hk, ⟨L, _, hf, hn, e, hd⟩, ih (fun b hb => hs b (by unfold frs; rw [List.filterMap_cons, hf]; exact List.mem_cons_of_mem _ hb)) hr⟩
  exact all X.outer (fun _ hb => hb) I.ok.funs
theorem Inv.stack (I : Inv X pins σ H s) : s.heap.FunFrames X.base X.stack := by
  rcases I.ok.stk with e | ⟨e, hf⟩
  · rw [e]; exact I.funs
  · rw [e]
    obtain ⟨m, hn, _⟩ := I.loc
    refine .cons (by rw [I.ok.kind]; decide) hf hn ?_ I.funs
    exact Heap.get?_none_of_le (Nat.le_trans I.ok.bsz I.ok.above)
theorem Inv.stkSub (I : Inv X pins σ H s) : ∀ b ∈ frs X.stack, b ∈ X.env.locals :: X.fs := fun b hb => by
  rcases I.ok.stk with e | ⟨e, hf⟩
  · rw [e] at hb; exact List.mem_cons_of_mem _ hb
  · rw [e] at hb
    unfold frs at hb
    rw [List.filterMap_cons, hf] at hb
    exact hb
theorem Inv.stkFree (I : Inv X pins σ H s) : ∀ b ∈ frs X.stack, H b = none := fun b hb => by
  rcases List.mem_cons.mp (I.stkSub b hb) with e | hb
  · rw [e]; exact I.free
  · obtain ⟨_, o, ho, _⟩ := I.ok.funs.mem hb
    exact I.base.free b o ho (I.ok.frf b hb) fun z => I.ok.exfs b z hb
theorem Inv.step {g' : Array GenState} {t' : Nat} {d' : Drawn} {ch : List Addr} (I : Inv X pins σ H s)
    (hch : ∀ b ∈ ch, (b ∈ X.ex ∨ X.s₀.heap.objs.size ≤ b) ∧ b ≠ X.env.locals ∧ (∀ x c, X.env.cells.lookup x = some c → c ≠ b) ∧ ∀ p ∈ X.pn ++ pins, p.1 ≠ b)
    (keep : ∀ b o, b ≠ X.env.locals → b ∉ X.fs → b ∉ ch → s.heap.get? b = some o → H b = none → h'.get? b = some o)
    (slot : ∀ b o, b ≠ X.env.locals → b ∈ X.fs → b ∉ ch → s.heap.get? b = some o → H b = none → ∃ sl, h'.get? b = some { o with slots := sl }) (free : ∀ b o, b ∉ ch → s.heap.get? b = some o → H b = none → H' b = none)
    (there : ∀ b o, b ∉ ch → s.heap.get? b = some o → ∃ o', h'.get? b = some o')
    (tups : ∀ b xs, H b = some (.tup xs) → H' b = some (.tup xs)) (frzs : ∀ b o u, H b = some (.frz o u) → H' b = some (.frz o u)) (tbls : ∀ b ps, H b = some (.tbl ps) → ∃ more, H' b = some (.tbl (ps ++ more)))
    (ns : ∀ m, s.heap.Ns X.env.locals m → h'.Ns X.env.locals m) (hok : HOk X.prog X.w H' h') (hg : AllBare g') :
    Inv X pins σ H' { s with heap := h', gens := g', drawn := d', toks := t' } := by
  have neL : ∀ b o, X.s₀.heap.get? b = some o → b ≠ X.env.locals := fun b o e => Nat.ne_of_lt (Nat.lt_of_lt_of_le (Heap.lt_size e) I.ok.above)
  have neC : ∀ b o, X.s₀.heap.get? b = some o → b ∉ X.ex → b ∉ ch := fun b o e hx hb => by
    rcases (hch b hb).1 with z | z
    · exact hx z
    · exact absurd (Nat.lt_of_lt_of_le (Heap.lt_size e) z) (Nat.lt_irrefl _)
  have cellK : ∀ x c, X.env.cells.lookup x = some c → ∀ v, s.heap.IsCell c v → h'.IsCell c v := fun x c e v ⟨o, ho, hd⟩ => by
    have nch : c ∉ ch := fun z => (hch c z).2.2.1 x c e rfl
    by_cases hc : c ∈ X.fs
    · obtain ⟨sl, q⟩ := slot c o (I.cne x c e) hc nch ho (I.freeC x c e)
      exact ⟨_, q, hd⟩
    · exact ⟨o, keep c o (I.cne x c e) hc nch ho (I.freeC x c e), hd⟩
  refine ⟨I.ok, I.os, hg, ⟨fun b o e n hb hx => ?_, fun b o e n hb hx => ?_, fun b o e n hx => ?_, fun b o e hx => ?_, fun b xs e => tups b xs (I.base.tups b xs e), fun b o xs e => frzs b o xs (I.base.frzs b o xs e), fun b ps e => ?_⟩, ?_, fun x c e => ?_, ?_, fun x c e => ?_, fun p hp => ?_, hok, I.len⟩
  · exact keep b o (neL b o e) hb (neC b o e hx) (I.base.keep b o e n hb hx) (I.base.free b o e n hx)
  · obtain ⟨sl, e1⟩ := I.base.slot b o e n hb hx
    obtain ⟨sl', e2⟩ := slot b _ (neL b o e) hb (neC b o e hx) e1 (I.base.free b o e n hx)
    exact ⟨sl', e2⟩
  · obtain ⟨o', e1⟩ := I.base.there b o e hx
    exact free b o' (neC b o e hx) e1 (I.base.free b o e n hx)
  · obtain ⟨o', e1⟩ := I.base.there b o e hx
    exact there b o' (neC b o e hx) e1
  · obtain ⟨m1, e1⟩ := I.base.tbls b ps e
    obtain ⟨m2, e2⟩ := tbls b _ e1
    exact ⟨m1 ++ m2, by rw [e2, Array.append_assoc]⟩
  · obtain ⟨m, hn, hl⟩ := I.loc
    refine ⟨m, ns m hn, fun i x v e1 e2 e3 => ?_⟩
    obtain ⟨u, r, l⟩ := hl i x v e1 e2 e3
    refine ⟨u, r, ?_⟩
    rcases l with l | ⟨k, c, e, z⟩
    · exact .inl l
    · exact .inr ⟨k, c, e, cellK x c e _ z⟩
  · obtain ⟨v, z⟩ := I.cell x c e
    exact ⟨v, cellK x c e v z⟩
  · obtain ⟨m, ⟨o, _, _, ho, _⟩, _⟩ := I.loc
    exact free _ o (fun z => (hch _ z).2.1 rfl) ho I.free
  · obtain ⟨v, o, ho, hd⟩ := I.cell x c e
    exact free c o (fun z => (hch c z).2.2.1 x c e rfl) ho (I.freeC x c e)
  · obtain ⟨e, n, ne, nf, d⟩ := I.pin p hp
    have nch : p.1 ∉ ch := fun z => (hch p.1 z).2.2.2 p hp rfl
    exact ⟨keep p.1 p.2 ne nf nch e n, free p.1 p.2 nch e n, ne, nf, d⟩
theorem Inv.un {t' : Nat} (I : Inv X pins σ H s) (u : Un X.fs [] H H' s.heap h') (hok : HOk X.prog X.w H' h') : Inv X pins σ H' { s with heap := h', toks := t' } := by
  obtain ⟨m, ⟨o, es, ep, ho, r⟩, _⟩ := id I.loc
  obtain ⟨sl, hL⟩ := u.any ho I.free (by simp)
  exact I.step (g' := s.gens) (d' := s.drawn) (ch := []) (fun _ z => nomatch z) (fun b o _ hb _ e n => u.keep b o e n hb (by simp)) (fun b o _ hb _ e n => u.slot b o e n hb (by simp)) (fun b o _ e n => u.free b o e n (by simp)) (fun b o _ e => u.there b o e (by simp)) u.tups u.frzs u.tbls (fun m' hm => by
    obtain ⟨o', es', ep', ho', r'⟩ := hm
    rw [ho] at ho'; cases ho'
    exact ⟨_, es', ep', hL, r'⟩) hok I.bare
theorem Inv.call {g' : Array GenState} {t' : Nat} {d' : Drawn} {ch : List Addr} (I : Inv X pins σ H s) (u : Un (frs X.stack) ch H H' s.heap h') (hok : HOk X.prog X.w H' h') (hg : AllBare g')
    (hch : ∀ b ∈ ch, (b ∈ X.ex ∨ X.s₀.heap.objs.size ≤ b) ∧ b ≠ X.env.locals ∧ (∀ x c, X.env.cells.lookup x = some c → c ≠ b) ∧ ∀ p ∈ X.pn ++ pins, p.1 ≠ b) :
    Inv X pins σ H' { s with heap := h', gens := g', drawn := d', toks := t' } := by
  obtain ⟨m, ⟨o, es, ep, ho, r⟩, _⟩ := id I.loc
  obtain ⟨sl, hL⟩ := u.any ho I.free fun z => (hch _ z).2.1 rfl
  exact I.step (ch := ch) hch (fun b o hL hb hc e n => u.keep b o e n (fun z => (List.mem_cons.mp (I.stkSub b z)).elim hL hb) hc) (fun b o _ _ hc e n => u.any e n hc) (fun b o hc e n => u.free b o e n hc) (fun b o hc e => u.there b o e hc) u.tups u.frzs u.tbls (fun m' hm => by
    obtain ⟨o', es', ep', ho', r'⟩ := hm
    rw [ho] at ho'; cases ho'
    exact ⟨_, es', ep', hL, r'⟩) hok hg
theorem Inv.turned {t' : Nat} {it : Addr} (I : Inv X pins σ H s) (k : ∀ b o, b ≠ it → s.heap.get? b = some o → h'.get? b = some o) (hn : H it = none) (hL : it ≠ X.env.locals)
    (h1 : it ∈ X.ex ∨ X.s₀.heap.objs.size ≤ it) (h2 : ∀ x c, X.env.cells.lookup x = some c → c ≠ it) (h3 : ∀ p ∈ X.pn ++ pins, p.1 ≠ it) : Inv X pins σ H { s with heap := h', toks := t' } := by
  have nit : ∀ b u, H b = some u → b ≠ it := fun b u e z => by rw [z, hn] at e; cases e
  refine I.step (g' := s.gens) (d' := s.drawn) (ch := [it]) (fun b hb => ?_) (fun b o _ _ hc e _ => k b o (fun z => hc (by simp [z])) e) (fun b o _ _ hc e _ => ⟨o.slots, k b o (fun z => hc (by simp [z])) e⟩) (fun _ _ _ _ n => n)
    (fun b o hc e => ⟨o, k b o (fun z => hc (by simp [z])) e⟩) (fun _ _ e => e) (fun _ _ _ e => e) (fun b ps e => ⟨#[], by rw [e]; simp⟩) (fun m hm => ?_) (fun b u e => ?_) I.bare
  · have e : b = it := by simpa using hb
    subst e
    exact ⟨h1, hL, h2, h3⟩
  · obtain ⟨o, es, ep, ho, r⟩ := hm
    exact ⟨o, es, ep, k _ o (Ne.symm hL) ho, r⟩
  · refine (I.hok b u e).stay (fun c v hc q => k c v ?_ q) (fun _ q => q) fun _ _ q => q
    rcases hc with z | z
    · rw [z]; exact nit b u e
    · exact nit c _ z
theorem Inv.tok (I : Inv X pins σ H s) (t : Nat) : Inv X pins σ H { s with toks := t } := I.un (h' := s.heap) (t' := t) Un.refl I.hok
theorem Inv.kept {t' : Nat} (I : Inv X pins σ H s) (k : ∀ b u, s.heap.get? b = some u → h'.get? b = some u) : Inv X pins σ H { s with heap := h', toks := t' } := I.un (Un.kept k) (I.hok.kept k)
theorem Inv.laid {a : Addr} {o : HO} {t' : Nat} (I : Inv X pins σ H s) (k : ∀ b u, s.heap.get? b = some u → h'.get? b = some u) (hp : s.heap.objs.size ≤ a) (new : ObjOk X.prog X.w (upd H a o) h' a o) :
    Inv X pins σ (upd H a o) { s with heap := h', toks := t' } := I.un (Un.laid k hp (I.hok.fresh hp)) (I.hok.laid k hp new)
theorem Inv.write {x e : Addr} {o : HO} {t' : Nat} (I : Inv X pins σ H s) (mu : Mut (H x)) (he : e = x ∨ H e = some (.own x)) (k : ∀ b u, b ≠ e → s.heap.get? b = some u → h'.get? b = some u) (heo : ∃ u, h'.get? e = some u)
    (new : ObjOk X.prog X.w (upd H x o) h' x o) : Inv X pins σ (upd H x o) { s with heap := h', toks := t' } := I.un (Un.write mu he k heo) (I.hok.write mu he k heo new)
theorem Inv.pins_of {pins' : List (Addr × Obj)} (I : Inv X pins σ H s) (h : ∀ p ∈ pins', s.heap.get? p.1 = some p.2 ∧ H p.1 = none ∧ p.1 ≠ X.env.locals ∧ p.1 ∉ X.fs ∧ ∀ v, p.2.data ≠ .cell v) : Inv X pins' σ H s :=
  ⟨I.ok, I.os, I.bare, I.base, I.loc, I.cell, I.free, I.freeC, fun p hp => (List.mem_append.mp hp).elim (fun z => I.pin p (List.mem_append_left _ z)) (h p), I.hok, I.len⟩
theorem nodup_ix {N : List Str} (hN : N.Nodup) {i j : Nat} {x : Str} (a : N[i]? = some x) (b : N[j]? = some x) : i = j := by
  obtain ⟨h1, e1⟩ := List.getElem?_eq_some_iff.mp a
  obtain ⟨h2, e2⟩ := List.getElem?_eq_some_iff.mp b
  exact (List.getElem_inj hN).mp (e1.trans e2.symm)
theorem store_ok2 {M : Model} {A : Around} {E : Value → Shared → Prop} {i : Nat} {x : Str} {v : V} {u : Value} {Q : Unit → Shared → Prop} (I : Inv X pins σ H s) (hN : X.N.Nodup) (hi : X.N[i]? = some x) (hx : Loc X.env.scope x) (r : RelV v u)
    (h : ∀ s', Inv X pins (σ.set i (some v)) H s' → (∃ a, Heap.SameBut a s.heap s'.heap ∧ (a = X.env.locals ∨ X.env.cells.lookup x = some a)) → Q () s') (hf : X.fn x = true ∨ X.env.scope.names.lookup x = some .local := by first | exact .inl rfl | exact .inr rfl | assumption) : wpAny M A (storeName X.env x u) Q E s := by
  obtain ⟨m, hn, hl⟩ := id I.loc
  have hcls : (X.env.scope.kind == .class || (X.env.scope.kind == .module && X.env.locals != X.env.globals)) = false := by rw [I.ok.kind]; rfl
  have hiσ : i < σ.length := by rw [I.len]; exact (List.getElem?_eq_some_iff.mp hi).1
  have cne := I.cne
  have tracked : ∀ {a : Addr} {h' : Heap}, (∃ o, s.heap.get? a = some o ∧ H a = none) → Heap.SameBut a s.heap h' → HOk X.prog X.w H h' := fun {a h'} ha hs b ob e => by
    obtain ⟨_, _, hfree⟩ := ha
    refine (I.hok b ob e).stay (fun c w' hc q => (hs.2 c ?_).trans q) (fun _ q => q) fun _ _ q => q
    rintro rfl
    rcases hc with rfl | hc
    · rw [hfree] at e; cases e
    · rw [hfree] at hc; cases hc
  rcases hx with hk | hk
  · refine wpAny_storeName_local hk hn (fun h' hn' hs => ?_) hcls
    obtain ⟨oL, _, _, hoL, _⟩ := id hn
    refine h _ ⟨I.ok, I.os, I.bare, ⟨fun b o e n hb hx => ?_, fun b o e n hb hx => ?_, I.base.free, fun b o e hx => ?_, I.base.tups, I.base.frzs, I.base.tbls⟩, ⟨_, hn', fun j y v' e1 e2 e3 => ?_⟩, fun y c e => ?_, I.free, I.freeC, fun p hp => ?_, tracked ⟨oL, hoL, I.free⟩ hs, by simpa using I.len⟩ ⟨_, hs, .inl rfl⟩
    · exact (hs.2 b (Nat.ne_of_lt (Nat.lt_of_lt_of_le (Heap.lt_size e) I.ok.above))).trans (I.base.keep b o e n hb hx)
    · obtain ⟨sl, e1⟩ := I.base.slot b o e n hb hx
      exact ⟨sl, (hs.2 b (Nat.ne_of_lt (Nat.lt_of_lt_of_le (Heap.lt_size e) I.ok.above))).trans e1⟩
    · obtain ⟨o', e1⟩ := I.base.there b o e hx
      exact ⟨o', (hs.2 b (Nat.ne_of_lt (Nat.lt_of_lt_of_le (Heap.lt_size e) I.ok.above))).trans e1⟩
    · by_cases hj : j = i
      · subst hj
        rw [hi] at e1; cases e1
        rw [List.getElem?_set_self hiσ] at e2
        cases e2
        exact ⟨u, r, .inl ⟨hk, by simp⟩⟩
      · rw [List.getElem?_set_ne (Ne.symm hj)] at e2
        obtain ⟨u', r', q⟩ := hl j y v' e1 e2 e3
        refine ⟨u', r', ?_⟩
        rcases q with ⟨k, e⟩ | ⟨k, c, e, z⟩
        · refine .inl ⟨k, ?_⟩
          have : y ≠ x := fun e => hj (nodup_ix hN e1 (e ▸ hi))
          simp [this, e]
        · exact .inr ⟨k, c, e, z.sameBut hs (cne y c e)⟩
    · obtain ⟨w', z⟩ := I.cell y c e
      exact ⟨w', z.sameBut hs (cne y c e)⟩
    · obtain ⟨e, n, ne, nf, d⟩ := I.pin p hp
      exact ⟨(hs.2 p.1 ne).trans e, n, ne, nf, d⟩
  · have hfn : X.fn x = true := by
      rcases hf with z | z
      · exact z
      · rw [z] at hk; cases hk
    obtain ⟨c, hc⟩ := I.ok.has x (.inl hk)
    obtain ⟨w', z⟩ := I.cell x c hc
    refine wpAny_storeName_cell I.ok.kind hk hc z (fun h' hc' hs => ?_)
    obtain ⟨oc, hoc, hocd⟩ := id z
    refine h { s with heap := h' } ⟨I.ok, I.os, I.bare, ⟨fun b o e n hb hx => ?_, fun b o e n hb hx => ?_, I.base.free, fun b o e hx => ?_, I.base.tups, I.base.frzs, I.base.tbls⟩, ⟨m, hn.sameBut hs (Ne.symm (cne x c hc)), fun j y v' e1 e2 e3 => ?_⟩, fun y c' e => ?_, I.free, I.freeC, fun p hp => ?_, tracked ⟨oc, hoc, I.freeC x c hc⟩ hs, by simpa using I.len⟩ ⟨c, hs, .inr hc⟩
    · exact (hs.2 b (Nat.ne_of_lt (Nat.lt_of_lt_of_le (Heap.lt_size e) (I.ok.cab x c hfn hc)))).trans (I.base.keep b o e n hb hx)
    · obtain ⟨sl, e1⟩ := I.base.slot b o e n hb hx
      exact ⟨sl, (hs.2 b (Nat.ne_of_lt (Nat.lt_of_lt_of_le (Heap.lt_size e) (I.ok.cab x c hfn hc)))).trans e1⟩
    · obtain ⟨o', e1⟩ := I.base.there b o e hx
      exact ⟨o', (hs.2 b (Nat.ne_of_lt (Nat.lt_of_lt_of_le (Heap.lt_size e) (I.ok.cab x c hfn hc)))).trans e1⟩
    · by_cases hj : j = i
      · subst hj
        rw [hi] at e1; cases e1
        rw [List.getElem?_set_self hiσ] at e2
        cases e2
        exact ⟨u, r, .inr ⟨.inl hk, c, hc, hc'⟩⟩
      · rw [List.getElem?_set_ne (Ne.symm hj)] at e2
        obtain ⟨u', r', q⟩ := hl j y v' e1 e2 e3
        refine ⟨u', r', ?_⟩
        rcases q with q | ⟨k, c', e, z'⟩
        · exact .inl q
        · refine .inr ⟨k, c', e, z'.sameBut hs ?_⟩
          rintro rfl
          exact hj (nodup_ix hN e1 (I.ok.inj _ _ _ e hc ▸ hi))
    · by_cases hcc : c' = c
      · subst hcc; exact ⟨_, hc'⟩
      · obtain ⟨w2, z2⟩ := I.cell y c' e
        exact ⟨w2, z2.sameBut hs hcc⟩
    · obtain ⟨e, n, ne, nf, d⟩ := I.pin p hp
      refine ⟨(hs.2 p.1 ?_).trans e, n, ne, nf, d⟩
      intro q
      rw [q, hoc] at e
      have q' : oc = p.2 := Option.some.inj e
      exact d w' (by rw [← q']; exact hocd)
theorem store_ok {M : Model} {A : Around} {E : Value → Shared → Prop} {i : Nat} {x : Str} {v : V} {u : Value} {Q : Unit → Shared → Prop} (I : Inv X pins σ H s) (hN : X.N.Nodup) (hi : X.N[i]? = some x) (hx : Loc X.env.scope x) (r : RelV v u)
    (h : ∀ s', Inv X pins (σ.set i (some v)) H s' → Q () s') (hf : X.fn x = true ∨ X.env.scope.names.lookup x = some .local := by first | exact .inl rfl | exact .inr rfl | assumption) : wpAny M A (storeName X.env x u) Q E s :=
  store_ok2 I hN hi hx r (fun s' I' _ => h s' I') hf
theorem Inv.call' {s' : Shared} {ch : List Addr} (I : Inv X pins σ H s) (ho : s'.os = s.os) (u : Un (frs X.stack) ch H H' s.heap s'.heap) (hok : HOk X.prog X.w H' s'.heap) (hg : AllBare s'.gens)
    (hch : ∀ b ∈ ch, (b ∈ X.ex ∨ X.s₀.heap.objs.size ≤ b) ∧ b ≠ X.env.locals ∧ (∀ x c, X.env.cells.lookup x = some c → c ≠ b) ∧ ∀ p ∈ X.pn ++ pins, p.1 ≠ b) : Inv X pins σ H' s' := by
  obtain ⟨h', g', d', t', o'⟩ := s'
  have e : o' = s.os := ho
  subst e
  exact I.call (g' := g') (t' := t') (d' := d') u hok hg hch
end
abbrev XK := Value → Option Addr → Hp → Prop
abbrev St := List (Option V)
abbrev VK := V → Hp → Prop
abbrev TE := St → Hp → VK → Prop
abbrev TT := St → Hp → (Bool → Hp → Prop) → Prop
abbrev TA := St → Hp → (List V → Hp → Prop) → Prop
structure Ends where
  nx : St → Hp → Prop
  rt : VK
  bk : St → Hp → Prop := fun _ _ => False
  ct : St → Hp → Prop := fun _ _ => False
abbrev TS := Ends → St → Hp → Prop
def EP (X : Cx) (pins : List (Addr × Obj)) (σ : St) (Q : VK) (u : Value) (s' : Shared) : Prop := ∃ v H', Inv X pins σ H' s' ∧ RelV v u ∧ Q v H'
def TP (X : Cx) (pins : List (Addr × Obj)) (σ : St) (Q : Bool → Hp → Prop) (b : Bool) (s' : Shared) : Prop := ∃ H', Inv X pins σ H' s' ∧ Q b H'
def AP (X : Cx) (pins : List (Addr × Obj)) (σ : St) (Q : List V → Hp → Prop) (us : List Value) (s' : Shared) : Prop := ∃ vs H', Inv X pins σ H' s' ∧ Vals vs us ∧ Q vs H'
def SP (X : Cx) (pins : List (Addr × Obj)) (D : Ends) (f : Flow) (s' : Shared) : Prop :=
  match f with
  | .next => ∃ σ' H', Inv X pins σ' H' s' ∧ D.nx σ' H'
  | .brk => ∃ σ' H', Inv X pins σ' H' s' ∧ D.bk σ' H'
  | .cont => ∃ σ' H', Inv X pins σ' H' s' ∧ D.ct σ' H'
  | .ret u => ∃ v σ' H', Inv X pins σ' H' s' ∧ RelV v u ∧ D.rt v H'
def PE (X : Cx) (e : Expr) (t : TE) : Prop :=
  ∀ (pins : List (Addr × Obj)) (s : Shared) (σ : St) (H : Hp) (Q : VK), Inv X pins σ H s → t σ H Q → wpAny (model X.prog X.w) X.A (eval e X.env) (EP X pins σ Q) X.xe s
def PT (X : Cx) (e : Expr) (t : TT) : Prop :=
  ∀ (pins : List (Addr × Obj)) (s : Shared) (σ : St) (H : Hp) (Q : Bool → Hp → Prop), Inv X pins σ H s → t σ H Q → wpAny (model X.prog X.w) X.A (isTrue e X.env (eval e X.env)) (TP X pins σ Q) X.xe s
def PW (X : Cx) (e : Expr) (t : TT) : Prop :=
  ∀ (whole : Sem Value) (pins : List (Addr × Obj)) (s : Shared) (σ : St) (H : Hp) (Q : Bool → Hp → Prop), Inv X pins σ H s → t σ H Q → wpAny (model X.prog X.w) X.A (isTrue e X.env whole) (TP X pins σ Q) X.xe s
theorem PW.pt {X : Cx} {e : Expr} {t : TT} (h : PW X e t) : PT X e t := h _
def PA (X : Cx) (es : List Expr) (t : TA) : Prop :=
  ∀ (pos : Pos) (pins : List (Addr × Obj)) (s : Shared) (σ : St) (H : Hp) (Q : List V → Hp → Prop), Inv X pins σ H s → t σ H Q → wpAny (model X.prog X.w) X.A (spliced (backTo pos (starEach es X.env))) (AP X pins σ Q) X.xe s
def PS (X : Cx) (st : Stmt) (t : TS) : Prop :=
  ∀ (pins : List (Addr × Obj)) (s : Shared) (σ : St) (H : Hp) (D : Ends), Inv X pins σ H s → t D σ H → wpAny (model X.prog X.w) X.A (exec st X.env) (SP X pins D) X.xe s
def PSs (X : Cx) (st : List Stmt) (t : TS) : Prop :=
  ∀ (pins : List (Addr × Obj)) (s : Shared) (σ : St) (H : Hp) (D : Ends), Inv X pins σ H s → t D σ H → wpAny (model X.prog X.w) X.A (execs st X.env) (SP X pins D) X.xe s
theorem thn {α : Type} {t : Sem α} {Q Q' : α → Shared → Prop} {M : Model} {A : Around} {E : Value → Shared → Prop} {s : Shared} (h : wpAny M A t Q E s) (hQ : ∀ a s, Q a s → Q' a s) : wpAny M A t Q' E s := wpAny_mono h hQ fun _ _ x => x
end L2
namespace L2
open PySem PySem.Spec PyProof.Rows
section
variable {X : Cx}
def tVar (i : Nat) : TE := fun σ H Q => ∃ v, σ[i]? = some (some v) ∧ Q v H
def tC (v : V) : TE := fun _ H Q => Q v H
theorem pe_var {i : Nat} {x : Str} {pos : Pos} (hN : X.N[i]? = some x) (hv : Vis X.env.scope x) (hd : (x == ("__debug__" : Str)) = false := by decide) (hcd : (x == ("__classdict__" : Str)) = false := by decide) : PE X (.Name x pos) (tVar i) := by
  intro pins s σ H Q I h
  obtain ⟨v, e, h⟩ := h
  obtain ⟨m, hn, hl⟩ := I.loc
  obtain ⟨u, r, l⟩ := hl i x v hN e hv
  have fin : EP X pins σ Q u s := ⟨v, H, I, r, h⟩
  rcases l with ⟨hk, hm⟩ | ⟨hk, c, hc, hcell⟩
  · exact wpAny_Name (wpAny_loadName_local I.ok.kind hk hn hm fin) hd
  · rcases hk with hk | hk
    · exact wpAny_Name (wpAny_loadName_cell I.ok.kind hk hc hcell fin) hd
    · exact wpAny_Name (wpAny_loadName_free I.ok.kind hk hc hcell fin hcd) hd
theorem pe_int {i j pos} : PE X (.Constant (.int i) j pos) (tC (.int i)) := fun _ _ _ H _ I h => wpAny_Constant_int ⟨.int i, H, I.tok _, ⟨_, rfl⟩, h⟩
theorem pe_bl {b j pos} : PE X (.Constant (.bool b) j pos) (tC (.bl b)) := fun _ _ _ H _ I h => Constant_bool ⟨.bl b, H, I, rfl, h⟩
theorem pe_non {j pos} : PE X (.Constant .none j pos) (tC .non) := fun _ _ _ H _ I h => Constant_none ⟨.non, H, I, rfl, h⟩
def Gl (X : Cx) (x : Str) : Prop := X.env.kindOf x = some .globalImplicit
theorem ld_glob {E : Value → Shared → Prop} {pins : List (Addr × Obj)} {s : Shared} {σ : St} {H : Hp} {x : Str} {u : Value} {pos : Pos} {Q : Value → Shared → Prop} (I : Inv X pins σ H s) (hg : Gl X x) (hm : X.mg x = some u) (h : Q u s)
    (hd : (x == ("__debug__" : Str)) = false := by decide) : wpAny (model X.prog X.w) X.A (eval (.Name x pos) X.env) Q E s :=
  Calls.Name_function_global I.ok.kind hg (Calls.loadGlobal_global (by rw [I.ok.glob]; exact I.mod.glob.keeps I.bk) hm h) hd
theorem ld_blt {E : Value → Shared → Prop} {pins : List (Addr × Obj)} {s : Shared} {σ : St} {H : Hp} {x : Str} {u : Value} {pos : Pos} {Q : Value → Shared → Prop} (I : Inv X pins σ H s) (hg : Gl X x) (hm : X.mg x = none) (hv : bootBuiltins x = some u) (h : Q u s)
    (hn : x ≠ "__name__" := by decide) (hd : (x == ("__debug__" : Str)) = false := by decide) : wpAny (model X.prog X.w) X.A (eval (.Name x pos) X.env) Q E s := by
  obtain ⟨mb, h1, h2⟩ := I.mod.blt
  exact Calls.Name_function_global I.ok.kind hg (Calls.loadGlobal_builtin (by rw [I.ok.glob]; exact I.mod.glob.keeps I.bk) hm (by rw [I.ok.blt]; exact h1.keeps I.bk) ((h2 x hn).trans hv) h) hd
theorem pe_glob {x : Str} {v : V} {u : Value} {pos : Pos} (hg : Gl X x) (hm : X.mg x = some u) (r : RelV v u) (hd : (x == ("__debug__" : Str)) = false := by decide) : PE X (.Name x pos) (tC v) :=
  fun _ _ _ H _ I h => ld_glob I hg hm ⟨v, H, I, r, h⟩ hd
theorem pe_bltn {x : Str} {v : V} {u : Value} {pos : Pos} (hg : Gl X x) (hm : X.mg x = none) (hv : bootBuiltins x = some u) (r : RelV v u) (hn : x ≠ "__name__" := by decide) (hd : (x == ("__debug__" : Str)) = false := by decide) : PE X (.Name x pos) (tC v) :=
  fun _ _ _ H _ I h => ld_blt I hg hm hv ⟨v, H, I, r, h⟩ hn hd
variable {a b : Expr} {ta tb : TE} {pos : Pos}
def PC (X : Cx) (op : CmpOp) (a b : Expr) (t : TE) : Prop :=
  ∀ (pins : List (Addr × Obj)) (s : Shared) (σ : St) (H : Hp) (Q : VK), Inv X pins σ H s → t σ H Q →
    wpAny (model X.prog X.w) X.A (eval a X.env) (fun v s₁ => wpAny (model X.prog X.w) X.A (eval b X.env) (fun u s₂ => wpAny (model X.prog X.w) X.A (compareOp op v u) (EP X pins σ Q) X.xe s₂) X.xe s₁) X.xe s
theorem nobehind (b : Expr) {op : CmpOp} (h : op ≠ .In) (h2 : op ≠ .NotIn) : behindInMarks op b = false := by
  have e1 : (op == CmpOp.In) = false := by cases op <;> first | rfl | exact absurd rfl h
  have e2 : (op == CmpOp.NotIn) = false := by cases op <;> first | rfl | exact absurd rfl h2
  cases b <;> simp [behindInMarks, e1, e2]
def tIsN (ta : TE) : TE := fun σ H Q => ta σ H fun x H1 => Q (.bl (decide (x = .non))) H1
def tNotN (ta : TE) : TE := fun σ H Q => ta σ H fun x H1 => Q (.bl (!decide (x = .non))) H1
theorem RelV.none_iff {x : V} {v : Value} (r : RelV x v) : (v == Value.none) = decide (x = .non) := by
  cases x with
  | non => cases r; rfl
  | bl _ => cases r; rfl
  | int _ => obtain ⟨t, rfl⟩ := r; rfl
  | str _ => obtain ⟨t, rfl⟩ := r; rfl
  | byt _ => obtain ⟨t, rfl⟩ := r; rfl
  | flt _ => obtain ⟨t, rfl⟩ := r; rfl
  | ref _ => cases r; rfl
  | ty _ => cases r; rfl
theorem pc_isN {j pos'} (ha : PE X a ta) : PC X .Is a (.Constant .none j pos') (tIsN ta) := by
  intro pins s σ H Q I h
  refine thn (ha pins s σ H _ I h) fun v s1 ⟨x, H1, I1, r1, q1⟩ => ?_
  exact Constant_none (is_none_gen ⟨.bl _, H1, I1, by rw [r1.none_iff]; rfl, q1⟩)
theorem pc_notN {j pos'} (ha : PE X a ta) : PC X .IsNot a (.Constant .none j pos') (tNotN ta) := by
  intro pins s σ H Q I h
  refine thn (ha pins s σ H _ I h) fun v s1 ⟨x, H1, I1, r1, q1⟩ => ?_
  exact Constant_none (isnot_none_gen ⟨.bl _, H1, I1, by rw [r1.none_iff]; rfl, q1⟩)
def tB (t : TE) : TT := fun σ H Q => t σ H fun x H1 => ∃ c, x = .bl c ∧ Q c H1
theorem pt_cmp {op : CmpOp} {t : TE} (h : PC X op a b t) (h1 : behindInMarks op b = false := by first | exact nobehind _ (by decide) (by decide) | rfl) : PT X (.Compare a [op] [b] pos) (tB t) := by
  intro pins s σ H Q I hw
  refine wpAny_isTrue_Compare1 (thn (h pins s σ H _ I hw) fun v s1 h1 => thn h1 fun u s2 h2 => thn h2 fun c s3 ⟨x, H1, I1, r1, q1⟩ => ?_) h1
  obtain ⟨d, rfl, q⟩ := q1
  cases r1
  exact wpAny_truthy_bool ⟨H1, I1, q⟩
theorem pt_val {e : Expr} {t : TE} (h : PE X e t) (he : ∀ whole, isTrue e X.env whole = (do let v ← whole; standAt e.pos; holding [v] (truthy v)) := by intro _; rfl) : PT X e (tB t) := by
  intro pins s σ H Q I hw
  refine isTrue_plain (thn (h pins s σ H _ I hw) fun v s1 ⟨x, H1, I1, r1, q1⟩ => ?_) (he _)
  obtain ⟨d, rfl, q⟩ := q1
  cases r1
  exact wpAny_truthy_bool ⟨H1, I1, q⟩
variable {tA tB' : TT} {rest : List Expr}
def tAnd (t u : TT) : TT := fun σ H Q => t σ H fun c H1 => if c = true then u σ H1 Q else Q false H1
def tOr (t u : TT) : TT := fun σ H Q => t σ H fun c H1 => if c = true then Q true H1 else u σ H1 Q
def tNot (t : TT) : TT := fun σ H Q => t σ H fun c H1 => Q (!c) H1
theorem pw_and1 (ha : PT X a tA) : PW X (.BoolOp .And [a] pos) tA := by
  intro wh pins s σ H Q I h
  refine isTrue_and (thn (ha pins s σ H Q I h) fun c s1 e => ?_)
  cases c with
  | true => exact isTrue_and_nil e
  | false => exact e
theorem pw_or1 (ha : PT X a tA) : PW X (.BoolOp .Or [a] pos) tA := by
  intro wh pins s σ H Q I h
  refine isTrue_or (thn (ha pins s σ H Q I h) fun c s1 e => ?_)
  cases c with
  | false => exact isTrue_or_nil e
  | true => exact e
theorem pw_and (ha : PT X a tA) (hb : PW X (.BoolOp .And (b :: rest) pos) tB') : PW X (.BoolOp .And (a :: b :: rest) pos) (tAnd tA tB') := by
  intro wh pins s σ H Q I h
  refine isTrue_and (thn (ha pins s σ H _ I h) fun c s1 ⟨H1, I1, q1⟩ => ?_)
  cases c with
  | true => exact hb wh pins s1 σ H1 Q I1 q1
  | false => exact ⟨H1, I1, q1⟩
theorem pw_or (ha : PT X a tA) (hb : PW X (.BoolOp .Or (b :: rest) pos) tB') : PW X (.BoolOp .Or (a :: b :: rest) pos) (tOr tA tB') := by
  intro wh pins s σ H Q I h
  refine isTrue_or (thn (ha pins s σ H _ I h) fun c s1 ⟨H1, I1, q1⟩ => ?_)
  cases c with
  | true => exact ⟨H1, I1, q1⟩
  | false => exact hb wh pins s1 σ H1 Q I1 q1
theorem pt_not (ha : PT X a tA) : PT X (.UnaryOp .Not a pos) (tNot tA) := by
  intro pins s σ H Q I h
  exact isTrue_not (ha pins s σ H (fun c H1 => Q (!c) H1) I h)
def tIf (t : TT) (ta tb : TE) : TE := fun σ H Q => t σ H fun c H1 => if c = true then ta σ H1 Q else tb σ H1 Q
theorem pe_ifExp {c : Expr} (hc : PT X c tA) (ha : PE X a ta) (hb : PE X b tb) : PE X (.IfExp c a b pos) (tIf tA ta tb) := by
  intro pins s σ H Q I h
  refine wpAny_IfExp (thn (hc pins s σ H _ I h) fun d s1 ⟨H1, I1, q1⟩ => ?_)
  cases d with
  | true => exact ha pins s1 σ H1 Q I1 q1
  | false => exact hb pins s1 σ H1 Q I1 q1
end
end L2
namespace L2
open PySem PySem.Spec PyProof.Rows
def SqL (K : PySem.W.Frag) (H : Hp) (a : Addr) (xs : List V) : Prop :=
  Rd H a (.lst xs) ∨
    ∃ (o : Obj) (its : Array Value) (n : Nat), K.lookup a = some o ∧ o.cls = .type "list" ∧ o.dict = none ∧ o.data = .seq its n ∧ its.size ≤ sizeLine ∧ Vals xs its.toList
def SqT (K : PySem.W.Frag) (H : Hp) (a : Addr) (xs : List V) : Prop :=
  Rd H a (.tup xs) ∨
    ∃ (o : Obj) (its : Array Value) (n : Nat), K.lookup a = some o ∧ o.cls = .type "tuple" ∧ o.data = .seq its n ∧ its.size ≤ sizeLine ∧ Vals xs its.toList
def absV : Value → Option V
  | .none => some .non
  | .bool b => some (.bl b)
  | .int i _ => some (.int i)
  | .str x _ => some (.str x)
  | .bytes b _ => some (.byt b)
  | .float b _ => some (.flt b)
  | .ref a => some (.ref a)
  | .type n => some (.ty n)
  | _ => none
theorem RelV.abs {x : V} {u : Value} (r : RelV x u) : absV u = some x := by
  cases x with
  | non => cases r; rfl
  | bl _ => cases r; rfl
  | int _ => obtain ⟨t, rfl⟩ := r; rfl
  | str _ => obtain ⟨t, rfl⟩ := r; rfl
  | byt _ => obtain ⟨t, rfl⟩ := r; rfl
  | flt _ => obtain ⟨t, rfl⟩ := r; rfl
  | ref _ => cases r; rfl
  | ty _ => cases r; rfl
theorem RelV.inj {x y : V} {u : Value} (r : RelV x u) (q : RelV y u) : x = y := Option.some.inj (r.abs.symm.trans q.abs)
theorem Vals.inj : ∀ {xs ys : List V} {us : List Value}, Vals xs us → Vals ys us → xs = ys
  | _, _, _, .nil, .nil => rfl
  | _, _, _, .cons r t, .cons r' t' => by rw [r.inj r', Vals.inj t t']
section
variable {X : Cx} {pins : List (Addr × Obj)} {σ : St} {H : Hp} {s : Shared} {a : Addr} {xs ys : List V}
theorem SqL.of {K : PySem.W.Frag} (h : H a = some (.lst xs)) : SqL K H a xs := .inl (.inl h)
theorem SqT.of {K : PySem.W.Frag} (h : H a = some (.tup xs)) : SqT K H a xs := .inl (.inl h)
theorem Inv.list (I : Inv X pins σ H s) (h : SqL X.K H a xs) : ∃ its : List Value, Vals xs its ∧ PlainL s.heap a its.toArray ∧ xs.length ≤ sizeLine := by
  rcases h with h | ⟨o, its, n, hk, hc, hd, hs, hz, r⟩
  · obtain ⟨z, its, n, r, e⟩ := h.ok I.hok
    exact ⟨its, r, ⟨_, n, e, rfl, rfl, rfl⟩, z⟩
  · refine ⟨its.toList, r, ⟨o, n, I.kIn a o hk, hc, hd, by simpa using hs⟩, ?_⟩
    have e := r.length
    simp only [Array.length_toList] at e
    omega
theorem Inv.tuple (I : Inv X pins σ H s) (h : SqT X.K H a xs) : ∃ its : List Value, Vals xs its ∧ IsTup s.heap a its.toArray ∧ xs.length ≤ sizeLine := by
  rcases h with h | ⟨o, its, n, hk, hc, hs, hz, r⟩
  · obtain ⟨z, its, r, p⟩ := h.ok I.hok
    exact ⟨its, r, p, z⟩
  · refine ⟨its.toList, r, ⟨o, I.kIn a o hk, hc, n, by simpa using hs⟩, ?_⟩
    have e := r.length
    simp only [Array.length_toList] at e
    omega
theorem Inv.list_inj (I : Inv X pins σ H s) (h : SqL X.K H a xs) (h' : SqL X.K H a ys) : xs = ys := by
  obtain ⟨its, r, ⟨o, n, e, _, _, d⟩, _⟩ := I.list h
  obtain ⟨its', r', ⟨o', n', e', _, _, d'⟩, _⟩ := I.list h'
  rw [e] at e'; cases e'
  rw [d] at d'
  injection d' with d1 _
  have : its = its' := by simpa using congrArg Array.toList d1
  subst this
  exact r.inj r'
theorem Inv.tuple_inj (I : Inv X pins σ H s) (h : SqT X.K H a xs) (h' : SqT X.K H a ys) : xs = ys := by
  obtain ⟨its, r, ⟨o, e, _, n, d⟩, _⟩ := I.tuple h
  obtain ⟨its', r', ⟨o', e', _, n', d'⟩, _⟩ := I.tuple h'
  rw [e] at e'; cases e'
  rw [d] at d'
  injection d' with d1 _
  have : its = its' := by simpa using congrArg Array.toList d1
  subst this
  exact r.inj r'
end
abbrev Cx.wish (X : Cx) (E : Value → Shared → Prop) : Cx := { X with xe := E }
abbrev Cx.nox (X : Cx) : Cx := X.wish fun _ _ => False
theorem Cx.Ok.wish {X : Cx} (ok : X.Ok) (E : Value → Shared → Prop) : (X.wish E).Ok :=
  ⟨ok.mod, ok.kind, ok.glob, ok.blt, ok.above, ok.inj, ok.has, ok.cab, ok.hd, ok.frames, ok.stk, ok.exf, ok.bs, ok.bsz, ok.noex, ok.exfs, ok.funs, ok.frf⟩
theorem Cx.Ok.unwish {X : Cx} {E : Value → Shared → Prop} (ok : (X.wish E).Ok) : X.Ok :=
  ⟨ok.mod, ok.kind, ok.glob, ok.blt, ok.above, ok.inj, ok.has, ok.cab, ok.hd, ok.frames, ok.stk, ok.exf, ok.bs, ok.bsz, ok.noex, ok.exfs, ok.funs, ok.frf⟩
section
variable {X : Cx} {pins : List (Addr × Obj)} {σ : St} {H : Hp} {s : Shared} {E : Value → Shared → Prop}
theorem Inv.wish (I : Inv X pins σ H s) (E : Value → Shared → Prop) : Inv (X.wish E) pins σ H s := ⟨I.ok.wish E, I.os, I.bare, I.base, I.loc, I.cell, I.free, I.freeC, I.pin, I.hok, I.len⟩
theorem Inv.unwish (I : Inv (X.wish E) pins σ H s) : Inv X pins σ H s := ⟨I.ok.unwish, I.os, I.bare, I.base, I.loc, I.cell, I.free, I.freeC, I.pin, I.hok, I.len⟩
theorem SP.unwish {D : Ends} {f : Flow} {s' : Shared} (h : SP (X.wish E) pins D f s') : SP X pins D f s' := by
  cases f with
  | next => obtain ⟨σ', H', I, q⟩ := h; exact ⟨σ', H', I.unwish, q⟩
  | brk => obtain ⟨σ', H', I, q⟩ := h; exact ⟨σ', H', I.unwish, q⟩
  | cont => obtain ⟨σ', H', I, q⟩ := h; exact ⟨σ', H', I.unwish, q⟩
  | ret u => obtain ⟨v, σ', H', I, r, q⟩ := h; exact ⟨v, σ', H', I.unwish, r, q⟩
theorem PSs.nox {st : List Stmt} {t : TS} (h : PSs X.nox st t) : PSs X st t := fun pins s σ H D I hw =>
  wpAny_mono (h pins s σ H D (I.wish _) hw) (fun _ _ q => q.unwish) fun _ _ z => False.elim z
end
section
variable {X : Cx} {st : Stmt} {rest : List Stmt} {t u : TS} {e : Expr} {te : TE} {pos : Pos}
def tNext : TS := fun D σ H => D.nx σ H
def tSeq (t u : TS) : TS := fun D σ H => t { D with nx := u D } σ H
theorem pss_nil : PSs X [] tNext := fun _ _ σ H _ I h => wpAny_execs_nil ⟨σ, H, I, h⟩
theorem pss_cons (h1 : PS X st t) (h2 : PSs X rest u) : PSs X (st :: rest) (tSeq t u) := by
  intro pins s σ H D I h
  refine wpAny_execs_cons (thn (h1 pins s σ H { D with nx := u D } I h) fun f s1 q => ?_)
  cases f with
  | next =>
    obtain ⟨σ', H', I', q⟩ := q
    exact h2 pins s1 σ' H' D I' q
  | ret v => exact q
  | brk => exact q
  | cont => exact q
theorem pss_one (h1 : PS X st t) : PSs X [st] t := by
  intro pins s σ H D I h
  refine wpAny_execs_cons (thn (h1 pins s σ H D I h) fun f s1 q => ?_)
  cases f with
  | next => exact wpAny_execs_nil q
  | ret v => exact q
  | brk => exact q
  | cont => exact q
theorem Inv.quiet {pins : List (Addr × Obj)} {σ : St} {H : Hp} {s : Shared} (I : Inv X pins σ H s) : interactive X.env = false := by simp [interactive, I.ok.kind]
def tDrop (te : TE) : TS := fun D σ H => te σ H fun _ H1 => D.nx σ H1
theorem ps_expr (he : PE X e te) (hs : swapsWith e none pos.line X.env = pure false := by rfl) : PS X (.Expr e pos) (tDrop te) := by
  intro pins s σ H D I h
  exact wpAny_Expr_any (thn (he pins s σ H _ I h) fun v s1 ⟨x, H1, I1, r1, q1⟩ => ⟨σ, H1, I1, q1⟩) I.quiet hs
def tRet (te : TE) : TS := fun D σ H => te σ H D.rt
theorem ps_ret (he : PE X e te) : PS X (.Return (some e) pos) (tRet te) := by
  intro pins s σ H D I h
  exact wpAny_Return_some (thn (he pins s σ H _ I h) fun v s1 ⟨x, H1, I1, r1, q1⟩ => ⟨x, σ, H1, I1, r1, q1⟩)
def tIfS (c : TT) (t u : TS) : TS := fun D σ H => c σ H fun b H1 => if b = true then t D σ H1 else u D σ H1
theorem ps_if {c : Expr} {a b : List Stmt} {tc : TT} (hc : PT X c tc) (ha : PSs X a t) (hb : PSs X b u) : PS X (.If c a b pos) (tIfS tc t u) := by
  intro pins s σ H D I h
  refine wpAny_If (thn (hc pins s σ H _ I h) fun d s1 ⟨H1, I1, q1⟩ => ?_)
  cases d with
  | true => exact ha pins s1 σ H1 D I1 q1
  | false => exact hb pins s1 σ H1 D I1 q1
def tNever : TS := fun _ _ _ => False
theorem pss_never {sts : List Stmt} : PSs X sts tNever := fun _ _ _ _ _ _ h => h.elim
end
abbrev TG := V → St → Hp → (St → Hp → Prop) → Prop
abbrev TGs := List V → St → Hp → (St → Hp → Prop) → Prop
def PG (X : Cx) (target : Expr) (t : TG) : Prop :=
  ∀ (pins : List (Addr × Obj)) (s : Shared) (σ : St) (H : Hp) (v : V) (u : Value) (Q : St → Hp → Prop), Inv X pins σ H s → RelV v u → t v σ H Q →
    wpAny (model X.prog X.w) X.A (assign target X.env u) (fun _ s' => ∃ σ' H', Inv X pins σ' H' s' ∧ Q σ' H') X.xe s
def PGs (X : Cx) (ts : List Expr) (t : TGs) : Prop :=
  ∀ (pins : List (Addr × Obj)) (s : Shared) (σ : St) (H : Hp) (vs : List V) (us : List Value) (Q : St → Hp → Prop), Inv X pins σ H s → Vals vs us → t vs σ H Q →
    wpAny (model X.prog X.w) X.A (assignInOrder ((assignEach ts X.env).map (·.2)) us) (fun _ s' => ∃ σ' H', Inv X pins σ' H' s' ∧ Q σ' H') X.xe s
section
variable {X : Cx} {pos : Pos}
def gName (i : Nat) : TG := fun v σ H Q => Q (σ.set i (some v)) H
theorem pg_name {i : Nat} {x : Str} (hN : X.N.Nodup) (hi : X.N[i]? = some x) (hx : Loc X.env.scope x) (hf : X.fn x = true ∨ X.env.scope.names.lookup x = some .local := by first | exact .inl rfl | exact .inr rfl | assumption) : PG X (.Name x pos) (gName i) := by
  intro pins s σ H v u Q I r h
  exact wpAny_assign_Name (store_ok I hN hi hx r (fun s' I' => ⟨_, H, I', h⟩) hf)
def gNil : TGs := fun vs σ H Q => vs = [] ∧ Q σ H
def gCons (t : TG) (u : TGs) : TGs := fun vs σ H Q => ∃ v r, vs = v :: r ∧ t v σ H fun σ' H' => u r σ' H' Q
theorem pgs_nil : PGs X [] gNil := by
  intro pins s σ H vs us Q I r h
  obtain ⟨e, h⟩ := h
  subst e
  cases r
  exact assignInOrder_nil ⟨σ, H, I, h⟩
theorem pgs_cons {e : Expr} {es : List Expr} {t : TG} {u : TGs} (h1 : PG X e t) (h2 : PGs X es u)
    (hs : (assignEach (e :: es) X.env).map (·.2) = assign e X.env :: (assignEach es X.env).map (·.2) := by rfl) : PGs X (e :: es) (gCons t u) := by
  intro pins s σ H vs us Q I r h
  obtain ⟨v, vr, e1, h⟩ := h
  subst e1
  cases r with
  | cons r rr =>
    rw [hs]
    refine assignInOrder_cons (thn (h1 pins s σ H _ _ _ I r h) fun _ s1 ⟨σ1, H1, I1, q1⟩ => ?_)
    exact h2 pins s1 σ1 H1 _ _ Q I1 rr q1
def gTup (K : PySem.W.Frag) (n : Nat) (t : TGs) : TG := fun v σ H Q => ∃ a xs, v = .ref a ∧ SqT K H a xs ∧ xs.length = n ∧ t xs σ H Q
theorem pg_tup {es : List Expr} {k : Nat} {t : TGs} {n : Nat} (hc : X.calm = true) (h : PGs X es t)
    (hn : (assignEach es X.env).length = n := by rfl) (hst : (assignEach es X.env).findIdx? (·.1) = none := by rfl) : PG X (.Tuple es k pos) (gTup X.K n t) := by
  intro pins s σ H v u Q I r hw
  obtain ⟨a, xs, e1, hq, hl, hw⟩ := hw
  subst e1
  cases r
  obtain ⟨its, rv, ht, hz⟩ := I.tuple hq
  refine assign_Tuple_tuple (I.ok.hd hc) ht (by simp [hn, ← hl, rv.length]) hst fun h' hx => ?_
  have I1 : Inv X pins σ H { s with heap := h' } := I.kept (t' := s.toks) fun b o e => hx b o (Nat.ne_of_lt (Heap.lt_size e)) e
  exact h pins _ σ H xs _ Q I1 (by simpa using rv) hw
def tAsg (te : TE) (g : TG) : TS := fun D σ H => te σ H fun x H1 => g x σ H1 D.nx
theorem ps_asg {tg e : Expr} {te : TE} {g : TG} (he : PE X e te) (hg : PG X tg g) (hs : swapsWithSole [tg] e pos.line X.env = pure false := by rfl) (hw : swappedStores [tg] e X.env = pure none := by rfl)
    (h1 : (assignEach [tg] X.env).map (·.2) = [assign tg X.env] := by rfl) : PS X (.Assign [tg] e pos) (tAsg te g) := by
  intro pins s σ H D I h
  refine wpAny_Assign_stores (thn (he pins s σ H _ I h) fun v s1 ⟨x, H1, I1, r1, q1⟩ => ?_) hs hw
  rw [h1]
  exact thn (hg pins s1 σ H1 x v _ I1 r1 q1) fun _ s2 q => q
theorem ps_set {i : Nat} {x : Str} {e : Expr} {te : TE} {pos' : Pos} (hN : X.N.Nodup) (hi : X.N[i]? = some x) (hx : Loc X.env.scope x) (he : PE X e te) (hs : swapsWith e (some (.Name x pos')) pos.line X.env = pure false := by rfl) (hf : X.fn x = true ∨ X.env.scope.names.lookup x = some .local := by first | exact .inl rfl | exact .inr rfl | assumption) :
    PS X (.Assign [.Name x pos'] e pos) (tAsg te (gName i)) := by
  intro pins s σ H D I h
  refine wpAny_Assign_Name (thn (he pins s σ H _ I h) fun v s1 ⟨y, H1, I1, r1, q1⟩ => ?_) hs
  exact store_ok I1 hN hi hx r1 (fun s2 I2 => ⟨_, H1, I2, q1⟩) hf
end
section
variable {X : Cx} {pos : Pos}
end
structure It where
  go : Nat → Hp → Prop
  yld : Nat → Hp → V → Hp → Prop
  stop : Nat → Hp → Prop
def FpOk (X : Cx) (pins : List (Addr × Obj)) (H : Hp) (b : Addr) : Prop :=
  H b = none ∧ b ≠ X.env.locals ∧ b ∉ X.fs ∧ (b ∈ X.ex ∨ X.s₀.heap.objs.size ≤ b) ∧ (∀ x c, X.env.cells.lookup x = some c → c ≠ b) ∧ ∀ p ∈ X.pn ++ pins, p.1 ≠ b
theorem Inv.fpOk {X : Cx} {pins : List (Addr × Obj)} {σ : St} {H H' : Hp} {s : Shared} {b : Addr} (I : Inv X pins σ H s) (hb : s.heap.objs.size ≤ b) (hn : H' b = none) : FpOk X pins H' b := by
  refine ⟨hn, Nat.ne_of_gt (Nat.lt_of_lt_of_le I.lt hb), I.nofs hb, .inr (Nat.le_trans I.sz hb), fun x c e z => ?_, fun p hp z => ?_⟩
  · obtain ⟨v, q⟩ := I.cell x c e
    exact absurd (Nat.lt_of_lt_of_le q.lt (by rw [z]; exact hb)) (Nat.lt_irrefl _)
  · exact absurd (Nat.lt_of_lt_of_le (Heap.lt_size (I.pin p hp).1) (by rw [z]; exact hb)) (Nat.lt_irrefl _)
structure Turn (P : Program) (w : World) (K : PySem.W.Frag) (tg : Expr) (J : It) (fp : List Addr) (it : Addr) (tn : Nat → Heap → Prop) : Prop where
  mem : it ∈ fp
  obj : ∀ i h, tn i h → ∀ b ∈ fp, ∃ o, h.get? b = some o ∧ ∀ v, o.data ≠ .cell v
  keep : ∀ i h h', tn i h → (∀ b ∈ fp, ∀ o, h.get? b = some o → h'.get? b = some o) → tn i h'
  item : ∀ (X : Cx), X.prog = P → X.w = w → X.K = K → X.calm = true → ∀ (i : Nat) (pins : List (Addr × Obj)) (s : Shared) (σ : St) (H : Hp) (E : Value → Shared → Prop), Inv X pins σ H s → (∀ b ∈ fp, FpOk X pins H b) → tn i s.heap → J.go i H →
    wpAny (model P w) X.A (pyNext (.ref it)) (fun r s1 => ∃ u, r = some u ∧
      wpAny (model P w) X.A (letOwnedTupleGo tg (.ref it) u) (fun _ s2 => ∃ x H', Inv X pins σ H' s2 ∧ RelV x u ∧ J.yld i H x H' ∧ tn (i + 1) s2.heap ∧ ∀ b ∈ fp, H' b = none) E s1) E s
  done : ∀ (X : Cx), X.prog = P → X.w = w → X.K = K → X.calm = true → ∀ (i : Nat) (pins : List (Addr × Obj)) (s : Shared) (σ : St) (H : Hp) (E : Value → Shared → Prop), Inv X pins σ H s → (∀ b ∈ fp, FpOk X pins H b) → tn i s.heap → J.stop i H →
    wpAny (model P w) X.A (pyNext (.ref it)) (fun r s1 => r = none ∧ Inv X pins σ H s1) E s
  self : ∀ (A : Around) (i : Nat) (s : Shared) (Q : Value → Shared → Prop) (E : Value → Shared → Prop), tn i s.heap → Q (.ref it) s → wpAny (model P w) A (pyIter (.ref it)) Q E s
abbrev TI := St → Hp → (It → Hp → Prop) → Prop
def PIE (X : Cx) (pins : List (Addr × Obj)) (σ : St) (tg : Expr) (R : It → Hp → Prop) (itv : Value) (s2 : Shared) : Prop :=
  ∃ (it : Addr) (fp : List Addr) (tn : Nat → Heap → Prop) (J : It) (H' : Hp), itv = .ref it ∧ Inv X pins σ H' s2 ∧ Turn X.prog X.w X.K tg J fp it tn ∧ tn 0 s2.heap ∧ (∀ b ∈ fp, FpOk X pins H' b) ∧ R J H'
def PI (X : Cx) (tg iter : Expr) (wi : TI) : Prop :=
  ∀ (pins : List (Addr × Obj)) (s : Shared) (σ : St) (H : Hp) (R : It → Hp → Prop), Inv X pins σ H s → wi σ H R →
    wpAny (model X.prog X.w) X.A (eval iter X.env) (fun v s1 => wpAny (model X.prog X.w) X.A (pyIter v) (PIE X pins σ tg R) X.xe s1) X.xe s
theorem go_of {M : Model} {A : Around} {E : Value → Shared → Prop} {s : Shared} {tg : Expr} {it : Addr} {u : Value} {o : Obj} {n : String} {vs : Array Value} {Q : Unit → Shared → Prop} (ho : s.heap.get? it = some o) (hc : o.cls = .type n) (hd : o.data = .fields vs)
    (hn : ["enumerate", "zip", "dict_itemiterator", "dict_reverseitemiterator", "odict_iterator", "itertools.zip_longest", "itertools.pairwise"].contains n = false) (hQ : Q () s) : wpAny M A (letOwnedTupleGo tg (.ref it) u) Q E s := by
  unfold letOwnedTupleGo
  cases tg <;> first
    | exact wpAny_pure hQ
    | (cases u <;> first
        | exact wpAny_pure hQ
        | (refine wpAny_bind (wpAny_load ho ?_)
           rw [hc, hd]
           show wpAny M A (if (["enumerate", "zip", "dict_itemiterator", "dict_reverseitemiterator", "odict_iterator", "itertools.zip_longest", "itertools.pairwise"].contains n && vs[0]? == some (rawInt _)) = true then _ else _) Q E s
           rw [if_neg (by intro h; rw [hn, Bool.false_and] at h; cases h)]
           exact wpAny_pure hQ))
def Itl (K : PySem.W.Frag) (a : Addr) : It :=
  ⟨fun i H => ∃ xs x, SqL K H a xs ∧ xs[i]? = some x, fun i H x H' => H' = H ∧ ∀ xs, SqL K H a xs → xs[i]? = some x, fun i H => ∃ xs, SqL K H a xs ∧ xs.length ≤ i⟩
def Itr (lo : Int) (n : Nat) : It := ⟨fun i _ => i < n, fun i H x H' => H' = H ∧ x = .int (lo + i), fun i _ => n ≤ i⟩
theorem turn_list {P : Program} {w : World} {K : PySem.W.Frag} {tg : Expr} (a it : Addr) : Turn P w K tg (Itl K a) [it] it (fun i h => h.IsListIter it a i) where
  mem := by simp
  obj := fun i h st b hb => by
    have e : b = it := by simpa using hb
    subst e
    obtain ⟨o, e, c, d⟩ := st
    exact ⟨o, e, fun v z => by rw [d] at z; cases z⟩
  keep := fun i h h' st k => st.at fun o e => k it (by simp) o e
  item := by
    intro X hP hw hK hc i pins s σ H E I hf st hg
    subst hP hw hK
    obtain ⟨xs, x, hq, hx⟩ := hg
    obtain ⟨its, rv, p, hz⟩ := I.list hq
    obtain ⟨u, hu, ru⟩ := rv.get hx
    obtain ⟨f0, f1, f2, f3, f4, f5⟩ := hf it (by simp)
    refine wpAny_pyNext_list_item st p.isList (x := u) (by simpa using hu) fun h' st' sb => ?_
    have I1 : Inv X pins σ H { s with heap := h' } := I.turned (t' := s.toks) (fun b o hb e => (sb.2 b hb).trans e) f0 f1 f3 f4 f5
    obtain ⟨o, e, c, d⟩ := id st'
    exact ⟨u, rfl, go_of (s := { s with heap := h' }) e c d (by decide) ⟨x, H, I1, ru, ⟨rfl, fun ys hy => by rw [I.list_inj hy hq]; exact hx⟩, st', fun b hb => (hf b hb).1⟩⟩
  done := by
    intro X hP hw hK hc i pins s σ H E I hf st hg
    subst hP hw hK
    obtain ⟨xs, hq, hx⟩ := hg
    obtain ⟨its, rv, p, hz⟩ := I.list hq
    obtain ⟨f0, f1, f2, f3, f4, f5⟩ := hf it (by simp)
    have hl := rv.length
    exact wpAny_pyNext_list_end (I.ok.hd hc) st p.isList (by simp; omega) fun h' eb => ⟨rfl, I.turned (t' := s.toks) (fun b o hb e => eb b o hb e) f0 f1 f3 f4 f5⟩
  self := fun _ _ _ _ _ st h => wpAny_pyIter_listiter st h
theorem turn_range {P : Program} {w : World} {K : PySem.W.Frag} {tg : Expr} (it : Addr) (lo : Int) (n : Nat) : Turn P w K tg (Itr lo n) [it] it (fun i h => IsRangeIter h it (lo + (i : Nat) * 1) ((n : Int) - (i : Nat)) 1) where
  mem := by simp
  obj := fun i h st b hb => by
    have e : b = it := by simpa using hb
    subst e
    exact ⟨_, st, fun v z => by
      have z' : Data.fields _ = Data.cell v := z
      cases z'⟩
  keep := fun i h h' st k => k it (by simp) _ st
  item := by
    intro X hP hw hK hc i pins s σ H E I hf st hg
    subst hP hw hK
    obtain ⟨f0, f1, f2, f3, f4, f5⟩ := hf it (by simp)
    have W := Walks.range (prog := X.prog) (w := X.w) (I.ok.hd hc) it lo 1 n
    refine W.item i s _ _ hg st fun v h' tk hv st' kk => ?_
    obtain ⟨t, rfl⟩ := hv
    have I1 : Inv X pins σ H { s with heap := h', toks := tk } := I.turned (fun b o hb e => kk b o (by simpa using hb) e) f0 f1 f3 f4 f5
    refine ⟨_, rfl, go_of (s := { s with heap := h', toks := tk }) (n := "range_iterator") st' rfl rfl (by decide) ⟨.int (lo + i), H, I1, ⟨t, ?_⟩, ⟨rfl, rfl⟩, st', fun b hb => (hf b hb).1⟩⟩
    rw [Int.mul_one]
  done := by
    intro X hP hw hK hc i pins s σ H E I hf st hg
    subst hP hw hK
    obtain ⟨f0, f1, f2, f3, f4, f5⟩ := hf it (by simp)
    exact wpAny_pyNext_range_end (I.ok.hd hc) st (by have : n ≤ i := hg; omega) fun h' eb => ⟨rfl, I.turned (t' := s.toks) (fun b o hb e => eb b o hb e) f0 f1 f3 f4 f5⟩
  self := fun _ _ _ _ _ st h => wpAny_pyIter_rangeiter st h
end L2
namespace L2
open PySem PySem.Spec PyProof.Rows
section
variable {X : Cx} {tg : Expr}
def iList (K : PySem.W.Frag) (tl : TE) : TI := fun σ H R => tl σ H fun x H1 => ∃ a, x = .ref a ∧ (∃ xs, SqL K H1 a xs) ∧ R (Itl K a) H1
theorem pi_list {l : Expr} {tl : TE} (hl : PE X l tl) : PI X tg l (iList X.K tl) := by
  intro pins s σ H R I h
  refine thn (hl pins s σ H _ I h) fun v s1 ⟨x, H1, I1, r1, q1⟩ => ?_
  obtain ⟨a, e, ⟨xs, hq⟩, q⟩ := q1
  subst e
  cases r1
  obtain ⟨its, rv, p, hz⟩ := I1.list hq
  refine wpAny_pyIter_list p.isList ?_
  refine ⟨s1.heap.objs.size, [s1.heap.objs.size], _, _, H1, rfl, I1.kept (t' := s1.toks) fun b o e => Heap.get?_push_of_some _ e, turn_list a _, ⟨_, Heap.get?_push_size _ rfl, rfl, rfl⟩, fun b hb => ?_, q⟩
  have e : b = s1.heap.objs.size := by simpa using hb
  subst e
  exact I1.fpOk (Nat.le_refl _) (I1.hok.fresh (Nat.le_refl _))
theorem range_it {pins : List (Addr × Obj)} {σ : St} {H : Hp} {s : Shared} {R : It → Hp → Prop} {E : Value → Shared → Prop} {lo hi : Int} {t u v : Tok} {tk : Nat} (I : Inv X pins σ H s) (h1 : -(2 ^ 62) ≤ lo) (h2 : lo < 2 ^ 62) (h3 : -(2 ^ 62) ≤ hi) (h4 : hi < 2 ^ 62)
    (q : R (Itr lo (hi - lo).toNat) H) : wpAny (model X.prog X.w) X.A (pyIter (.ref s.heap.objs.size)) (PIE X pins σ tg R) E { s with heap := s.heap.push { cls := .type "range", data := .fields #[.int lo t, .int hi u, .int 1 v] }, toks := tk } := by
  refine wpAny_pyIter_range (IsRange.new ..) (small_one h1 h2 h3 h4) ?_
  have I1 : Inv X pins σ H { s with heap := s.heap.push { cls := .type "range", data := .fields #[.int lo t, .int hi u, .int 1 v] }, toks := tk } := I.kept fun b o e => Heap.get?_push_of_some _ e
  refine ⟨(s.heap.push { cls := .type "range", data := .fields #[.int lo t, .int hi u, .int 1 v] }).objs.size, [(s.heap.push { cls := .type "range", data := .fields #[.int lo t, .int hi u, .int 1 v] }).objs.size], _, _, H, rfl,
    I1.kept (t' := tk) fun b o e => Heap.get?_push_of_some _ e, turn_range _ lo (hi - lo).toNat, ?_, fun b hb => ?_, q⟩
  · have e1 : lo + ((0 : Nat) : Int) * 1 = lo := by simp
    have e2 : (((hi - lo).toNat : Nat) : Int) - ((0 : Nat) : Int) = Builtin.Range.rangeSize lo hi 1 := by rw [rangeSize_one]; split <;> omega
    show IsRangeIter _ _ (lo + ((0 : Nat) : Int) * 1) ((((hi - lo).toNat : Nat) : Int) - ((0 : Nat) : Int)) 1
    rw [e1, e2]
    exact Heap.get?_push_size _ rfl
  · have e : b = (s.heap.push { cls := .type "range", data := .fields #[.int lo t, .int hi u, .int 1 v] }).objs.size := by simpa using hb
    subst e
    exact I1.fpOk (Nat.le_refl _) (I1.hok.fresh (Nat.le_refl _))
def iRng1 (ta : TA) : TI := fun σ H R => ta σ H fun vs H1 => ∃ j : Int, vs = [.int j] ∧ -(2 ^ 62) ≤ j ∧ j < 2 ^ 62 ∧ R (Itr 0 j.toNat) H1
def iRng2 (ta : TA) : TI := fun σ H R => ta σ H fun vs H1 => ∃ i j : Int, vs = [.int i, .int j] ∧ (-(2 ^ 62) ≤ i ∧ i < 2 ^ 62 ∧ -(2 ^ 62) ≤ j ∧ j < 2 ^ 62) ∧ R (Itr i (j - i).toNat) H1
theorem pi_range1 {a : Expr} {ta : TA} {p pos : Pos} (hg : Gl X "range") (hm : X.mg "range" = none) (ha : PA X [a] ta) (hs : starEach [a] X.env = [(false, eval a X.env)] := by rfl) : PI X tg (.Call (.Name "range" p) [a] [] pos) (iRng1 ta) := by
  intro pins s σ H R I h
  refine Call_ (ld_blt I hg hm boot_range (PyProof.Rows.callWith_type1 (thn (ha pos pins s σ H _ I h) fun us s1 ⟨vs, H1, I1, r1, q1⟩ => ?_) hs rfl))
  obtain ⟨j, e, q1, q2, q⟩ := q1
  subst e
  cases r1 with
  | cons r rr =>
    cases rr
    obtain ⟨t, rfl⟩ := r
    exact call_range_1 (range_it I1 (by omega) (by omega) q1 q2 (by simpa using q))
theorem pi_range2 {a b : Expr} {ta : TA} {p pos : Pos} (hg : Gl X "range") (hm : X.mg "range" = none) (ha : PA X [a, b] ta) (hs : starEach [a, b] X.env = [(false, eval a X.env), (false, eval b X.env)] := by rfl) (hs2 : starEach [b] X.env = [(false, eval b X.env)] := by rfl) :
    PI X tg (.Call (.Name "range" p) [a, b] [] pos) (iRng2 ta) := by
  intro pins s σ H R I h
  refine Call_ (ld_blt I hg hm boot_range (PyProof.Rows.callWith_type1 (thn (ha pos pins s σ H _ I h) fun us s1 ⟨vs, H1, I1, r1, q1⟩ => ?_) (by rw [hs, hs2]) (by rw [hs2]; rfl)))
  obtain ⟨i, j, e, ⟨q1, q2, q3, q4⟩, q⟩ := q1
  subst e
  cases r1 with
  | cons r rr =>
    cases rr with
    | cons r' rr =>
      cases rr
      obtain ⟨t, rfl⟩ := r
      obtain ⟨t', rfl⟩ := r'
      exact call_range_2 (range_it I1 q1 q2 q3 q4 q)
def tFor (wi : TI) (g : TG) (tb : TS) : TS := fun D σ H => wi σ H fun J H1 => ∃ W : Nat → Nat → St → Hp → Prop, (∃ m, W 0 m σ H1) ∧ ∀ i m σ H, W i m σ H →
  (J.stop i H ∧ D.nx σ H) ∨ (J.go i H ∧ ∃ N : St → Hp → Prop, (∀ σ' H', N σ' H' → ∃ m', m' < m ∧ W (i + 1) m' σ' H') ∧ ∀ x H', J.yld i H x H' → g x σ H' fun σ2 H2 => tb { D with nx := N, ct := N, bk := D.nx } σ2 H2)
def pinsAt (fp : List Addr) (h : Heap) : List (Addr × Obj) := fp.filterMap fun b => (h.get? b).map fun o => (b, o)
theorem mem_pinsAt {fp : List Addr} {h : Heap} {b : Addr} {o : Obj} (hb : b ∈ fp) (e : h.get? b = some o) : (b, o) ∈ pinsAt fp h := List.mem_filterMap.mpr ⟨b, hb, by rw [e]; rfl⟩
theorem of_pinsAt {fp : List Addr} {h : Heap} {p : Addr × Obj} (hp : p ∈ pinsAt fp h) : p.1 ∈ fp ∧ h.get? p.1 = some p.2 := by
  obtain ⟨b, hb, e⟩ := List.mem_filterMap.mp hp
  cases q : h.get? b with
  | none => rw [q] at e; cases e
  | some o =>
    rw [q] at e
    have e' : (b, o) = p := Option.some.inj e
    subst e'
    exact ⟨hb, q⟩
theorem Inv.pinned {pins : List (Addr × Obj)} {σ : St} {H : Hp} {s : Shared} {fp : List Addr} (I : Inv X pins σ H s) (hf : ∀ b ∈ fp, FpOk X pins H b) (ho : ∀ b ∈ fp, ∃ o, s.heap.get? b = some o ∧ ∀ v, o.data ≠ .cell v) : Inv X (pins ++ pinsAt fp s.heap) σ H s :=
  I.pins_of fun p hp => (List.mem_append.mp hp).elim (fun z => I.pin p (List.mem_append_right _ z)) fun z => by
    obtain ⟨hb, e⟩ := of_pinsAt z
    obtain ⟨f0, f1, f2, _⟩ := hf p.1 hb
    obtain ⟨o, e', d⟩ := ho p.1 hb
    rw [e] at e'; cases e'
    exact ⟨e, f0, f1, f2, d⟩
theorem Inv.unpinned {pins pl : List (Addr × Obj)} {σ : St} {H : Hp} {s : Shared} (I : Inv X (pins ++ pl) σ H s) : Inv X pins σ H s := I.pins_of fun p hp => I.pin p (List.mem_append_right _ (List.mem_append_left _ hp))
theorem ps_for {iter : Expr} {body : List Stmt} {wi : TI} {g : TG} {tb : TS} {pos : Pos} (hp : PassesOwn (model X.prog X.w) X.A X.env X.xe) (hc : X.calm = true) (hi : PI X tg iter wi) (hg : PG X tg g) (hb : PSs X body tb)
    (hs : ∀ x, foldedSetIterable iter X.env x = pure x := by intro _; rfl) : PS X (.For tg iter body [] pos) (tFor wi g tb) := by
  intro pins s σ H D I h
  refine wpAny_For (thn (hi pins s σ H _ I h) fun v s1 h1 => thn h1 fun itv s2 h2 => ?_) hs
  obtain ⟨it, fp, tn, J, H2, e, I2, T, st2, f2, W, ⟨m0, w0⟩, turn⟩ := h2
  subst e
  have stat : ∀ {H' : Hp}, (∀ b ∈ fp, H' b = none) → ∀ b ∈ fp, FpOk X pins H' b := fun hn b hb => ⟨hn b hb, (f2 b hb).2⟩
  refine codeAny_forLoop_any (fun n s' => ∃ i σ' H', Inv X pins σ' H' s' ∧ tn i s'.heap ∧ (∀ b ∈ fp, H' b = none) ∧ W i n σ' H') ?_ m0 ⟨0, σ, H2, I2, st2, fun b hb => (f2 b hb).1, w0⟩
  rintro n s3 ⟨i, σ3, H3, I3, st3, fr3, w3⟩
  rcases turn i n σ3 H3 w3 with ⟨stop, qn⟩ | ⟨go, N, hN, step⟩
  · refine wpAny_passesOwn hp (thn (T.done X rfl rfl rfl hc i pins s3 σ3 H3 X.xe I3 (stat fr3) st3 stop) fun r s4 ⟨hr, I4⟩ => ?_)
    subst hr
    exact wpAny_execs_nil ⟨σ3, H3, I4, qn⟩
  · refine wpAny_passesOwn hp (thn (T.item X rfl rfl rfl hc i pins s3 σ3 H3 X.xe I3 (stat fr3) st3 go) fun r s4 ⟨u, hr, h4⟩ => ?_)
    subst hr
    refine wpAny_passesOwn hp (thn h4 fun _ s5 ⟨x, H5, I5, r5, y5, st5, fr5⟩ => ?_)
    have I5' := I5.pinned (stat fr5) (T.obj _ _ st5)
    refine wpAny_passesOwn hp (thn (hg _ s5 σ3 H5 x u _ I5' r5 (step x H5 y5)) fun _ s6 ⟨σ6, H6, I6, q6⟩ => ?_)
    refine wpAny_passesOwn hp (thn (hb _ s6 σ6 H6 _ I6 q6) fun f s7 q7 => ?_)
    have again : ∀ {σ7 : St} {H7 : Hp}, Inv X (pins ++ pinsAt fp s5.heap) σ7 H7 s7 → N σ7 H7 → ∃ m, m < n ∧ ∃ i σ' H', Inv X pins σ' H' s7 ∧ tn i s7.heap ∧ (∀ b ∈ fp, H' b = none) ∧ W i m σ' H' := fun {σ7 H7} I7 n7 => by
      obtain ⟨m', hm, w7⟩ := hN σ7 H7 n7
      refine ⟨m', hm, i + 1, σ7, H7, I7.unpinned, T.keep _ _ _ st5 fun b hb o e => (I7.pin (b, o) (List.mem_append_right _ (List.mem_append_right _ (mem_pinsAt hb e)))).1, fun b hb => ?_, w7⟩
      obtain ⟨o, e, d⟩ := T.obj _ _ st5 b hb
      exact (I7.pin (b, o) (List.mem_append_right _ (List.mem_append_right _ (mem_pinsAt hb e)))).2.1
    cases f with
    | next => obtain ⟨σ7, H7, I7, n7⟩ := q7; exact again I7 n7
    | cont => obtain ⟨σ7, H7, I7, n7⟩ := q7; exact again I7 n7
    | brk => obtain ⟨σ7, H7, I7, q7⟩ := q7; exact ⟨σ7, H7, I7.unpinned, q7⟩
    | ret v => obtain ⟨x7, σ7, H7, I7, r7, q7⟩ := q7; exact ⟨x7, σ7, H7, I7.unpinned, r7, q7⟩
end
theorem for_list {K : PySem.W.Frag} {a : Addr} {xs : List V} {g : TG} {tb : TS} {D : Ends} {σ : St} {H : Hp} (Pv : Nat → St → Hp → Prop) (h0 : Pv 0 σ H) (hl : ∀ i σ H, i ≤ xs.length → Pv i σ H → SqL K H a xs)
    (hs : ∀ i x σ H, xs[i]? = some x → Pv i σ H → g x σ H fun σ2 H2 => tb { D with nx := Pv (i + 1), ct := Pv (i + 1), bk := D.nx } σ2 H2) (hd : ∀ σ H, Pv xs.length σ H → D.nx σ H) :
    ∃ W : Nat → Nat → St → Hp → Prop, (∃ m, W 0 m σ H) ∧ ∀ i m σ H, W i m σ H →
      ((Itl K a).stop i H ∧ D.nx σ H) ∨ ((Itl K a).go i H ∧ ∃ N : St → Hp → Prop, (∀ σ' H', N σ' H' → ∃ m', m' < m ∧ W (i + 1) m' σ' H') ∧ ∀ x H', (Itl K a).yld i H x H' → g x σ H' fun σ2 H2 => tb { D with nx := N, ct := N, bk := D.nx } σ2 H2) := by
  refine ⟨fun i m σ H => m = xs.length - i ∧ i ≤ xs.length ∧ Pv i σ H, ⟨xs.length, by simp, Nat.zero_le _, h0⟩, ?_⟩
  rintro i m σ H ⟨rfl, hi, p⟩
  have q := hl i σ H hi p
  by_cases hlt : i < xs.length
  · refine .inr ⟨⟨xs, xs[i], q, by simp [hlt]⟩, Pv (i + 1), fun σ' H' p' => ⟨xs.length - (i + 1), by omega, rfl, hlt, p'⟩, fun x H' y => ?_⟩
    obtain ⟨e, y⟩ := y
    subst e
    exact hs i x σ _ (y xs q) p
  · have e : i = xs.length := by omega
    subst e
    exact .inl ⟨⟨xs, q, Nat.le_refl _⟩, hd σ H p⟩
theorem for_range {lo : Int} {n : Nat} {g : TG} {tb : TS} {D : Ends} {σ : St} {H : Hp} (Pv : Nat → St → Hp → Prop) (h0 : Pv 0 σ H)
    (hs : ∀ i σ H, i < n → Pv i σ H → g (.int (lo + i)) σ H fun σ2 H2 => tb { D with nx := Pv (i + 1), ct := Pv (i + 1), bk := D.nx } σ2 H2) (hd : ∀ σ H, Pv n σ H → D.nx σ H) :
    ∃ W : Nat → Nat → St → Hp → Prop, (∃ m, W 0 m σ H) ∧ ∀ i m σ H, W i m σ H →
      ((Itr lo n).stop i H ∧ D.nx σ H) ∨ ((Itr lo n).go i H ∧ ∃ N : St → Hp → Prop, (∀ σ' H', N σ' H' → ∃ m', m' < m ∧ W (i + 1) m' σ' H') ∧ ∀ x H', (Itr lo n).yld i H x H' → g x σ H' fun σ2 H2 => tb { D with nx := N, ct := N, bk := D.nx } σ2 H2) := by
  refine ⟨fun i m σ H => m = n - i ∧ i ≤ n ∧ Pv i σ H, ⟨n, by simp, Nat.zero_le _, h0⟩, ?_⟩
  rintro i m σ H ⟨rfl, hi, p⟩
  by_cases hlt : i < n
  · refine .inr ⟨hlt, Pv (i + 1), fun σ' H' p' => ⟨n - (i + 1), by omega, rfl, hlt, p'⟩, fun x H' y => ?_⟩
    obtain ⟨e, y⟩ := y
    subst e y
    exact hs i σ _ hlt p
  · have e : i = n := by omega
    subst e
    exact .inl ⟨Nat.le_refl _, hd σ H p⟩
end L2
namespace L2
open PySem PySem.Spec PyProof.Rows
abbrev R2 := V → V → Hp → VK → Prop
def OpR (X : Cx) (f : Value → Value → Sem Value) (r : R2) : Prop :=
  ∀ (pins : List (Addr × Obj)) (s : Shared) (σ : St) (H : Hp) (x y : V) (v u : Value) (Q : VK), Inv X pins σ H s → RelV x v → RelV y u → r x y H Q →
    wpAny (model X.prog X.w) X.A (f v u) (EP X pins σ Q) X.xe s
def UnR (X : Cx) (f : Value → Sem Value) (r : V → Hp → VK → Prop) : Prop :=
  ∀ (pins : List (Addr × Obj)) (s : Shared) (σ : St) (H : Hp) (x : V) (v : Value) (Q : VK), Inv X pins σ H s → RelV x v → r x H Q →
    wpAny (model X.prog X.w) X.A (f v) (EP X pins σ Q) X.xe s
def CallR (X : Cx) (f : Value) (r : List V → Hp → VK → Prop) : Prop :=
  ∀ (pins : List (Addr × Obj)) (s : Shared) (σ : St) (H : Hp) (xs : List V) (us : List Value) (Q : VK), Inv X pins σ H s → Vals xs us → r xs H Q →
    wpAny (model X.prog X.w) X.A (call f us) (EP X pins σ Q) X.xe s
def tOp (r : R2) (ta tb : TE) : TE := fun σ H Q => ta σ H fun x H1 => tb σ H1 fun y H2 => r x y H2 Q
def tUn (r : V → Hp → VK → Prop) (ta : TE) : TE := fun σ H Q => ta σ H fun x H1 => r x H1 Q
def rI (C : Int → Int → Prop) (g : Int → Int → V) : R2 := fun x y H Q => ∃ i j, x = .int i ∧ y = .int j ∧ C i j ∧ Q (g i j) H
def rI0 (g : Int → Int → V) : R2 := fun x y H Q => ∃ i j, x = .int i ∧ y = .int j ∧ Q (g i j) H
def rU (g : Int → V) : V → Hp → VK → Prop := fun x H Q => ∃ i, x = .int i ∧ Q (g i) H
section
variable {X : Cx} {a b c : Expr} {ta tb tc : TE} {pos : Pos}
theorem binT (ha : PE X a ta) (hb : PE X b tb) {pins : List (Addr × Obj)} {s : Shared} {σ : St} {H : Hp} {R : V → V → Hp → Prop} (I : Inv X pins σ H s)
    (h : ta σ H fun x H1 => tb σ H1 fun y H2 => R x y H2) {Q : Value → Shared → Prop} {f : Value → Value → Sem Value}
    (hf : ∀ v u s2 x y H2, Inv X pins σ H2 s2 → RelV x v → RelV y u → R x y H2 → wpAny (model X.prog X.w) X.A (f v u) Q X.xe s2) :
    wpAny (model X.prog X.w) X.A (eval a X.env) (fun v s₁ => wpAny (model X.prog X.w) X.A (eval b X.env) (fun u s₂ => wpAny (model X.prog X.w) X.A (f v u) Q X.xe s₂) X.xe s₁) X.xe s := by
  refine thn (ha pins s σ H _ I h) fun v s1 ⟨x, H1, I1, r1, q1⟩ => ?_
  refine thn (hb pins s1 σ H1 _ I1 q1) fun u s2 ⟨y, H2, I2, r2, q2⟩ => ?_
  exact hf v u s2 x y H2 I2 r1 r2 q2
theorem pe_op {op : Operator} {r : R2} (ho : OpR X (binaryOp op) r) (ha : PE X a ta) (hb : PE X b tb) : PE X (.BinOp a op b pos) (tOp r ta tb) := by
  intro pins s σ H Q I h
  exact wpAny_BinOp (binT ha hb I h fun v u s2 x y H2 I2 rx ry q => ho pins s2 σ H2 x y v u Q I2 rx ry q)
theorem pe_un {op : UnaryOp} {r : V → Hp → VK → Prop} (ho : UnR X (unaryOp op) r) (ha : PE X a ta) : PE X (.UnaryOp op a pos) (tUn r ta) := by
  intro pins s σ H Q I h
  exact UnaryOp_ (thn (ha pins s σ H _ I h) fun v s1 ⟨x, H1, I1, r1, q1⟩ => ho pins s1 σ H1 x v Q I1 r1 q1)
theorem opI {f : Value → Value → Sem Value} {C : Int → Int → Prop} {g : Int → Int → Int}
    (rule : ∀ (i j : Int) (t u : Tok) (s : Shared) (Q : Value → Shared → Prop) (E : Value → Shared → Prop), C i j → Q (.int (g i j) s.toks) { s with toks := s.toks + 1 } → wpAny (model X.prog X.w) X.A (f (.int i t) (.int j u)) Q E s) :
    OpR X f (rI C fun i j => .int (g i j)) := by
  intro pins s σ H x y v u Q I rx ry h
  obtain ⟨i, j, rfl, rfl, hc, q⟩ := h
  obtain ⟨t, rfl⟩ := rx
  obtain ⟨t', rfl⟩ := ry
  exact rule i j t t' s _ _ hc ⟨.int (g i j), H, I.tok _, ⟨_, rfl⟩, q⟩
theorem opI0 {f : Value → Value → Sem Value} {g : Int → Int → Int}
    (rule : ∀ (i j : Int) (t u : Tok) (s : Shared) (Q : Value → Shared → Prop) (E : Value → Shared → Prop), Q (.int (g i j) s.toks) { s with toks := s.toks + 1 } → wpAny (model X.prog X.w) X.A (f (.int i t) (.int j u)) Q E s) :
    OpR X f (rI0 fun i j => .int (g i j)) := by
  intro pins s σ H x y v u Q I rx ry h
  obtain ⟨i, j, rfl, rfl, q⟩ := h
  obtain ⟨t, rfl⟩ := rx
  obtain ⟨t', rfl⟩ := ry
  exact rule i j t t' s _ _ ⟨.int (g i j), H, I.tok _, ⟨_, rfl⟩, q⟩
theorem opB0 {f : Value → Value → Sem Value} {g : Int → Int → Bool}
    (rule : ∀ (i j : Int) (t u : Tok) (s : Shared) (Q : Value → Shared → Prop) (E : Value → Shared → Prop), Q (.bool (g i j)) s → wpAny (model X.prog X.w) X.A (f (.int i t) (.int j u)) Q E s) :
    OpR X f (rI0 fun i j => .bl (g i j)) := by
  intro pins s σ H x y v u Q I rx ry h
  obtain ⟨i, j, rfl, rfl, q⟩ := h
  obtain ⟨t, rfl⟩ := rx
  obtain ⟨t', rfl⟩ := ry
  exact rule i j t t' s _ _ ⟨.bl (g i j), H, I, rfl, q⟩
def CDiv (i j : Int) : Prop := 0 < j ∧ j < 1073741824
def CMul (i j : Int) : Prop := (-(2 ^ 64) < i ∧ i < 2 ^ 64) ∨ (-(2 ^ 64) < j ∧ j < 2 ^ 64)
theorem CMul.ok {i j : Int} (h : CMul i j) : IntMulOk i j := by
  rcases h with ⟨h1, h2⟩ | ⟨h1, h2⟩
  · exact .of_left (intBits_le_64 h1 h2)
  · exact .of_right (intBits_le_64 h1 h2)
theorem op_add : OpR X (binaryOp .Add) (rI0 fun i j => .int (i + j)) := opI0 fun _ _ _ _ _ _ _ q => add_int q
theorem op_sub : OpR X (binaryOp .Sub) (rI0 fun i j => .int (i - j)) := opI0 fun _ _ _ _ _ _ _ q => sub_int q
theorem op_mul : OpR X (binaryOp .Mult) (rI CMul fun i j => .int (i * j)) := opI fun _ _ _ _ _ _ _ hc q => mul_int q hc.ok
theorem op_fdiv : OpR X (binaryOp .FloorDiv) (rI CDiv fun i j => .int (i / j)) := opI fun i j _ _ _ _ _ hc q => by
  have h1 : (0 : Int) < j := hc.1
  have h2 : j < 1073741824 := hc.2
  exact floordiv_int (by omega) (by rw [Int.fdiv_eq_ediv_of_nonneg i (by omega)]; exact q) (.inl (PyProof.noPylong_small (by omega)))
theorem op_mod : OpR X (binaryOp .Mod) (rI (fun _ j => 0 < j) fun i j => .int (i % j)) := opI fun i j _ _ _ _ _ hc q => by
  have h1 : (0 : Int) < j := hc
  exact mod_int' (by omega) (by rw [Int.fmod_eq_emod_of_nonneg i (by omega)]; exact q)
theorem unI {f : Value → Sem Value} {g : Int → Int}
    (rule : ∀ (i : Int) (t : Tok) (s : Shared) (Q : Value → Shared → Prop) (E : Value → Shared → Prop), Q (.int (g i) s.toks) { s with toks := s.toks + 1 } → wpAny (model X.prog X.w) X.A (f (.int i t)) Q E s) :
    UnR X f (rU fun i => .int (g i)) := by
  intro pins s σ H x v Q I rx h
  obtain ⟨i, rfl, q⟩ := h
  obtain ⟨t, rfl⟩ := rx
  exact rule i t s _ _ ⟨.int (g i), H, I.tok _, ⟨_, rfl⟩, q⟩
theorem un_neg : UnR X (unaryOp .USub) (rU fun i => .int (-i)) := unI fun _ _ _ _ _ q => neg_int q
end
def scal : V → V → Bool
  | .non, .non => true | .non, .int _ => true | .int _, .non => true | .non, .bl _ => true | .bl _, .non => true | .non, .str _ => true | .str _, .non => true
  | .int _, .int _ => true | .bl _, .bl _ => true | .str _, .str _ => true | .byt _, .byt _ => true
  | .int _, .str _ => true | .str _, .int _ => true | .bl _, .str _ => true | .str _, .bl _ => true
  | _, _ => false
def rEq : R2 := fun x y H Q => scal x y = true ∧ Q (.bl (decide (x = y))) H
def rNe : R2 := fun x y H Q => scal x y = true ∧ Q (.bl (!decide (x = y))) H
theorem dec_int {i j : Int} : decide (V.int i = V.int j) = (i == j) := by
  rw [Bool.eq_iff_iff]
  simp
theorem dec_bl {i j : Bool} : decide (V.bl i = V.bl j) = (i == j) := by
  rw [Bool.eq_iff_iff]
  simp
theorem dec_str {i j : Str} : decide (V.str i = V.str j) = (i == j) := by
  rw [Bool.eq_iff_iff]
  simp
theorem dec_byt {i j : Array UInt8} : decide (V.byt i = V.byt j) = (i.toList == j.toList) := by
  rw [Bool.eq_iff_iff]
  cases i
  cases j
  simp
section
variable {X : Cx} {a b c : Expr} {ta tb tc : TE} {pos : Pos}
theorem fin_bl {pins : List (Addr × Obj)} {σ : St} {H : Hp} {s : Shared} {Q : VK} {k k' : Bool} (I : Inv X pins σ H s) (q : Q (.bl k) H) (e : k = k') : EP X pins σ Q (.bool k') s := by
  subst e
  exact ⟨.bl k, H, I, rfl, q⟩
theorem op_eq : OpR X (compareOp .Eq) rEq := by
  intro pins s σ H x y v u Q I rx ry h
  obtain ⟨hs, q⟩ := h
  cases x with
  | non =>
    cases rx
    cases y with
    | non => cases ry; exact PySem.EqNone.eq_none_none (fin_bl I q (by simp))
    | bl j => cases ry; exact PySem.EqNone.eq_none_bool (fin_bl I q (by simp))
    | int j => obtain ⟨t', rfl⟩ := ry; exact PySem.EqNone.eq_none_int (fin_bl I q (by simp))
    | str j => obtain ⟨t', rfl⟩ := ry; exact PySem.EqNone.eq_none_str (fin_bl I q (by simp))
    | _ => exact absurd (show false = true from hs) Bool.false_ne_true
  | bl i =>
    cases rx
    cases y with
    | non => cases ry; exact PySem.EqNone.eq_bool_none (fin_bl I q (by simp))
    | bl j => cases ry; exact eq_bool (fin_bl I q dec_bl)
    | str j => obtain ⟨t', rfl⟩ := ry; exact PySem.EqMixed.eq_bool_str (fin_bl I q (by simp))
    | _ => exact absurd (show false = true from hs) Bool.false_ne_true
  | int i =>
    obtain ⟨t, rfl⟩ := rx
    cases y with
    | non => cases ry; exact PySem.EqNone.eq_int_none (fin_bl I q (by simp))
    | int j => obtain ⟨t', rfl⟩ := ry; exact eq_int (fin_bl I q dec_int)
    | str j => obtain ⟨t', rfl⟩ := ry; exact PySem.EqMixed.eq_int_str (fin_bl I q (by simp))
    | _ => exact absurd (show false = true from hs) Bool.false_ne_true
  | str i =>
    obtain ⟨t, rfl⟩ := rx
    cases y with
    | non => cases ry; exact PySem.EqNone.eq_str_none (fin_bl I q (by simp))
    | bl j => cases ry; exact PySem.EqMixed.eq_str_bool (fin_bl I q (by simp))
    | int j => obtain ⟨t', rfl⟩ := ry; exact PySem.EqMixed.eq_str_int (fin_bl I q (by simp))
    | str j => obtain ⟨t', rfl⟩ := ry; exact eq_str (fin_bl I q dec_str)
    | _ => exact absurd (show false = true from hs) Bool.false_ne_true
  | byt i =>
    obtain ⟨t, rfl⟩ := rx
    cases y with
    | byt j => obtain ⟨t', rfl⟩ := ry; exact PySem.W.eq_bytes (fin_bl I q dec_byt)
    | _ => exact absurd (show false = true from hs) Bool.false_ne_true
  | _ => cases y <;> exact absurd (show false = true from hs) Bool.false_ne_true
theorem op_ne : OpR X (compareOp .NotEq) rNe := by
  intro pins s σ H x y v u Q I rx ry h
  obtain ⟨hs, q⟩ := h
  cases x with
  | non =>
    cases rx
    cases y with
    | non => cases ry; exact PySem.EqNone.ne_none_none (fin_bl I q (by simp))
    | bl j => cases ry; exact PySem.EqNone.ne_none_bool (fin_bl I q (by simp))
    | int j => obtain ⟨t', rfl⟩ := ry; exact PySem.EqNone.ne_none_int (fin_bl I q (by simp))
    | str j => obtain ⟨t', rfl⟩ := ry; exact PySem.EqNone.ne_none_str (fin_bl I q (by simp))
    | _ => exact absurd (show false = true from hs) Bool.false_ne_true
  | bl i =>
    cases rx
    cases y with
    | non => cases ry; exact PySem.EqNone.ne_bool_none (fin_bl I q (by simp))
    | bl j => cases ry; exact ne_bool (fin_bl I q (congrArg not dec_bl))
    | str j => obtain ⟨t', rfl⟩ := ry; exact PySem.EqMixed.ne_bool_str (fin_bl I q (by simp))
    | _ => exact absurd (show false = true from hs) Bool.false_ne_true
  | int i =>
    obtain ⟨t, rfl⟩ := rx
    cases y with
    | non => cases ry; exact PySem.EqNone.ne_int_none (fin_bl I q (by simp))
    | int j => obtain ⟨t', rfl⟩ := ry; exact ne_int (fin_bl I q (congrArg not dec_int))
    | str j => obtain ⟨t', rfl⟩ := ry; exact PySem.EqMixed.ne_int_str (fin_bl I q (by simp))
    | _ => exact absurd (show false = true from hs) Bool.false_ne_true
  | str i =>
    obtain ⟨t, rfl⟩ := rx
    cases y with
    | non => cases ry; exact PySem.EqNone.ne_str_none (fin_bl I q (by simp))
    | bl j => cases ry; exact PySem.EqMixed.ne_str_bool (fin_bl I q (by simp))
    | int j => obtain ⟨t', rfl⟩ := ry; exact PySem.EqMixed.ne_str_int (fin_bl I q (by simp))
    | str j => obtain ⟨t', rfl⟩ := ry; exact ne_str (fin_bl I q (congrArg not dec_str))
    | _ => exact absurd (show false = true from hs) Bool.false_ne_true
  | byt i =>
    obtain ⟨t, rfl⟩ := rx
    cases y with
    | byt j => obtain ⟨t', rfl⟩ := ry; exact PySem.W.ne_bytes (fin_bl I q (congrArg not dec_byt))
    | _ => exact absurd (show false = true from hs) Bool.false_ne_true
  | _ => cases y <;> exact absurd (show false = true from hs) Bool.false_ne_true
theorem op_lt : OpR X (compareOp .Lt) (rI0 fun i j => .bl (decide (i < j))) := opB0 fun _ _ _ _ _ _ _ q => lt_int q
theorem op_gt : OpR X (compareOp .Gt) (rI0 fun i j => .bl (decide (j < i))) := opB0 fun _ _ _ _ _ _ _ q => gt_int q
theorem op_ge : OpR X (compareOp .GtE) (rI0 fun i j => .bl (decide (j ≤ i))) := opB0 fun _ _ _ _ _ _ _ q => ge_int q
theorem nomark (b : Expr) {op : CmpOp} (h : op ≠ .In := by decide) (h2 : op ≠ .NotIn := by decide) : behindInMarks op b = false := by
  have e1 : (op == CmpOp.In) = false := by cases op <;> first | rfl | exact absurd rfl h
  have e2 : (op == CmpOp.NotIn) = false := by cases op <;> first | rfl | exact absurd rfl h2
  cases b <;> simp [behindInMarks, e1, e2]
theorem pe_cmpR {op : CmpOp} {r : R2} (ho : OpR X (compareOp op) r) (ha : PE X a ta) (hb : PE X b tb) (hm : behindInMarks op b = false) : PE X (.Compare a [op] [b] pos) (tOp r ta tb) := by
  intro pins s σ H Q I h
  exact wpAny_Compare1 (binT ha hb I h fun v u s2 x y H2 I2 rx ry q => ho pins s2 σ H2 x y v u Q I2 rx ry q) hm
def tTest (t : TE) : TT := fun σ H Q => t σ H fun x H' => ∃ k, x = .bl k ∧ Q k H'
theorem pt_cmpR {op : CmpOp} {r : R2} (ho : OpR X (compareOp op) r) (ha : PE X a ta) (hb : PE X b tb) (hm : behindInMarks op b = false) : PT X (.Compare a [op] [b] pos) (tTest (tOp r ta tb)) := by
  intro pins s σ H Q I h
  refine wpAny_isTrue_Compare1 (thn (ha pins s σ H _ I h) fun v s1 ⟨x, H1, I1, r1, q1⟩ => thn (hb pins s1 σ H1 _ I1 q1) fun u s2 ⟨y, H2, I2, r2, q2⟩ =>
    thn (ho pins s2 σ H2 x y v u _ I2 r1 r2 q2) fun c s3 ⟨z, H3, I3, r3, k, e, q3⟩ => ?_) hm
  subst e
  cases r3
  exact wpAny_truthy_bool ⟨H3, I3, q3⟩
theorem line63 : (sizeLine : Nat) < 2 ^ 63 := by rw [sizeLine_eq]; decide
theorem vals1 {x : V} {us : List Value} (r : Vals [x] us) : ∃ u, us = [u] ∧ RelV x u := by
  cases r with
  | cons r1 r2 => cases r2; exact ⟨_, rfl, r1⟩
theorem vals2 {x y : V} {us : List Value} (r : Vals [x, y] us) : ∃ u w', us = [u, w'] ∧ RelV x u ∧ RelV y w' := by
  cases r with
  | cons r1 r2 =>
    cases r2 with
    | cons r3 r4 => cases r4; exact ⟨_, _, rfl, r1, r3⟩
theorem call_max2 (hc : X.calm = true) : CallR X (.builtin "max") (fun xs H Q => ∃ i j, xs = [.int i, .int j] ∧ Q (.int (if j > i then j else i)) H) := by
  intro pins s σ H xs us Q I r h
  obtain ⟨i, j, rfl, q⟩ := h
  obtain ⟨u, w', rfl, ⟨t, rfl⟩, ⟨t', rfl⟩⟩ := vals2 r
  refine max_two_ints (I.ok.hd hc) fun h' tk k => ⟨_, H, I.kept k, ?_, q⟩
  by_cases hj : j > i
  · rw [if_pos hj, if_pos hj]; exact ⟨_, rfl⟩
  · rw [if_neg hj, if_neg hj]; exact ⟨_, rfl⟩
theorem call_min2 (hc : X.calm = true) : CallR X (.builtin "min") (fun xs H Q => ∃ i j, xs = [.int i, .int j] ∧ Q (.int (if j < i then j else i)) H) := by
  intro pins s σ H xs us Q I r h
  obtain ⟨i, j, rfl, q⟩ := h
  obtain ⟨u, w', rfl, ⟨t, rfl⟩, ⟨t', rfl⟩⟩ := vals2 r
  refine min_two_ints (I.ok.hd hc) fun h' tk k => ⟨_, H, I.kept k, ?_, q⟩
  by_cases hj : j < i
  · rw [if_pos hj, if_pos hj]; exact ⟨_, rfl⟩
  · rw [if_neg hj, if_neg hj]; exact ⟨_, rfl⟩
theorem call_int1 : CallR X (.type "int") (fun xs H Q => (∃ i, xs = [.int i] ∧ Q (.int i) H) ∨ ∃ k, xs = [.bl k] ∧ Q (.int (if k then 1 else 0)) H) := by
  intro pins s σ H xs us Q I r h
  rcases h with ⟨i, rfl, q⟩ | ⟨k, rfl, q⟩
  · obtain ⟨u, rfl, t, rfl⟩ := vals1 r
    exact call_int_int ⟨.int i, H, I, ⟨_, rfl⟩, q⟩
  · obtain ⟨u, rfl, r1⟩ := vals1 r
    cases r1
    exact call_int_bool ⟨.int (if k then 1 else 0), H, I.tok _, ⟨_, rfl⟩, q⟩
end
end L2
namespace L2
open PySem PySem.Spec PyProof.Rows
structure ObjM (h : Heap) (x dx C : Addr) (mA : Str → Option Value) : Prop where
  obj : h.get? x = some (PySem.W.instObj C dx)
  ns : h.Ns1 dx mA
  ne : dx ≠ x
theorem lookIn_ns {h : Heap} {dx : Addr} {mA : Str → Option Value} (n : h.Ns1 dx mA) : ∃ od, h.get? dx = some od ∧ ∀ name, PySem.W.lookIn name od = some (mA name) := by
  obtain ⟨o, es, ep, ho, hd, hk, _, hm⟩ := n
  refine ⟨o, ho, fun name => ?_⟩
  have e := hm name
  unfold nsFind findBy at e
  rw [← Array.find?_toList] at e
  unfold PySem.W.lookIn
  rw [hd]
  dsimp only
  split
  · rename_i y q
    rw [q] at e
    exact congrArg some e
  · rename_i q
    rw [q] at e
    have a : es.toList.any (·.refKey) = false := by
      rw [List.any_eq_false]
      intro y hy
      obtain ⟨z, t, hkey⟩ := hk y (Array.mem_toList_iff.mp hy)
      simp [DictEntry.refKey, hkey]
    have a' : ¬ es.toList.any (·.refKey) = true := by rw [a]; exact Bool.false_ne_true
    rw [if_neg a']
    exact congrArg some e
theorem ObjM.look {h : Heap} {x dx C : Addr} {mA : Str → Option Value} (I : ObjM h x dx C mA) : ∃ od, PySem.W.InstAt h x (PySem.W.instObj C dx) C (some od) ∧ ∀ name, PySem.W.lookIn name od = some (mA name) :=
  let ⟨od, ho, hl⟩ := lookIn_ns I.ns
  ⟨od, ⟨I.obj, rfl, rfl, ho⟩, hl⟩
section
variable {prog : Program} {w : World} {A : Around} {E : Value → Shared → Prop} {s : Shared} {K : PySem.W.Frag} {x dx C f : Addr} {mA : Str → Option Value} {name : Str} {v : Value}
theorem get_map {expr : Bool} {Q : Value → Shared → Prop} (X : K.In s.heap) (I : ObjM s.heap x dx C mA) (hg : PySem.W.plainGet K C name = true) (hh : PySem.W.hasDictIn K C = true)
    (ha : PySem.W.findIn K (.ref C) name = some none) (hv : mA name = some v) (hv' : PySem.W.handedIn v = true) (h : Q v { s with toks := s.toks + 1 }) :
    wpAny (model prog w) A (getAttr (.ref x) name expr) Q E s := by
  obtain ⟨od, J, hl⟩ := I.look
  exact PySem.W.get_value X J (PySem.W.plainGet_of hg).1 (PySem.W.findObj_own hh ha rfl (by rw [hl, hv])) hv' h
theorem get_meth {pl : Sem Bool} {Q : Value × List Value → Shared → Prop} (X : K.In s.heap) (I : ObjM s.heap x dx C mA) (hg : PySem.W.plainGet K C name = true)
    (hf : PySem.W.findIn K (.ref C) name = some (some (.ref f))) (ht : PySem.W.isFn K (.ref f) = true) (hv : mA name = none) (h : Q (.ref f, [.ref x]) s) :
    wpAny (model prog w) A (getMethod (.ref x) name pl) Q E s := by
  obtain ⟨od, J, hl⟩ := I.look
  exact PySem.W.method_fn X J (PySem.W.plainGet_of hg).1 (PySem.W.plainGet_of hg).2 hf (beq_iff_eq.mp ht) (by show (PySem.W.lookIn name od).map (·.isSome) = some false; rw [hl, hv]; rfl) h
theorem set_map {ns : List Str} {Q : Unit → Shared → Prop} (X : K.In s.heap) (I : ObjM s.heap x dx C mA)
    (hs : PySem.W.findIn K (.ref C) "__setattr__" = some (some (.builtin "object.__setattr__"))) (hp : PySem.W.plainOver K C = true) (ht : PySem.W.takerIn K C name = some none) (hh : PySem.W.hasDictIn K C = true)
    (hw : PySem.Within mA ns) (hsz : ns.length ≤ sizeLine)
    (h : ∀ h', ObjM h' x dx C (fun y => if y = name then some v else mA y) → Heap.SameBut dx s.heap h' → Q () { s with heap := h', toks := s.toks + 2 }) :
    wpAny (model prog w) A (setAttr (.ref x) name v) Q E s := by
  obtain ⟨od, J, hl⟩ := I.look
  refine PySem.W.set_plain X J hs (PySem.W.osa_open (s := { s with toks := s.toks + 1 }) (r := none) X J hp ht fun b => ?_)
  obtain ⟨cd, hc, hd'⟩ := PySem.W.any_some hh
  have hx : s.heap.get? x = some ⟨.ref C, some dx, .plain, #[]⟩ := I.obj
  refine wpAny_bind (wpAny_pure (wpAny_bind (wpAny_bind (wpAny_loadPart hx (wpAny_bind (PySem.W.Looks.here (s := { s with toks := s.toks + 1 }) (PySem.W.looks_clsIn X hc) ?_))))))
  rw [hd']
  refine wpAny_pure (a := some dx) (wpAny_bind (wpAny_pure (wpAny_bind ?_)))
  refine wpAny_nsSet1 (s := { s with toks := s.toks + 1 }) I.ns fun h' hn2 hs2 => ?_
  obtain ⟨oD, esD, epD, hoD, hdD, hcD⟩ := hn2.count (PySem.Within.cons name v hw)
  refine wpAny_bind (wpAny_lookBehind hoD (by rw [hdD]; exact pastItsLine_dict (Nat.le_trans hcD (by rw [List.length_cons]; omega))) ?_)
  exact wpAny_pure (h _ ⟨(hs2.2 _ (Ne.symm I.ne)).trans I.obj, hn2, I.ne⟩ hs2)
theorem make_map {R : Result → Shared → Prop} {vs : List Value} {kw : List (Str × Value)} (X : K.In s.heap) (hm : PySem.W.makesIn K C = true)
    (hi : PySem.W.findIn K (.ref C) "__init__" = some (some (.ref f))) (hf : PySem.W.typeIn K (.ref f) = some (.type "function"))
    (h : codeAny (model prog w) (A.under (.builtin "type.__call__" ⟨.ref C :: vs, kw⟩)) (.call (.ref f) ⟨.ref (s.heap.objs.size + 1) :: vs, kw⟩) (PySem.W.InitBack (s.heap.objs.size + 1) R)
      { s with heap := (s.heap.push PySem.W.emptyDict).push (PySem.W.instObj C s.heap.objs.size) }) :
    codeAny (model prog w) A (.call (.ref C) ⟨vs, kw⟩) R s := by
  obtain ⟨hh, g, d, t, os⟩ := s
  exact PySem.W.make_core (PySem.W.makes_of X hm) (PySem.W.looks_findIn X hi) (fun self => PySem.W.bind_fn X self hf) (.inl rfl) h
theorem make_map0 {R : Result → Shared → Prop} (X : K.In s.heap) (hm : PySem.W.makesIn K C = true)
    (hi : PySem.W.findIn K (.ref C) "__init__" = some (some (.builtin "object.__init__")))
    (hb : ∀ self, PySem.W.Looks (model prog w) s.heap (bindSpecial (.builtin "object.__init__") self) (.builtin "object.__init__", [self]))
    (h : codeAny (model prog w) (A.under (.builtin "type.__call__" ⟨[.ref C], []⟩)) (.call (.builtin "object.__init__") ⟨[.ref (s.heap.objs.size + 1)], []⟩) (PySem.W.InitBack (s.heap.objs.size + 1) R)
      { s with heap := (s.heap.push PySem.W.emptyDict).push (PySem.W.instObj C s.heap.objs.size) }) :
    codeAny (model prog w) A (.call (.ref C) ⟨[], []⟩) R s := by
  obtain ⟨hh, g, d, t, os⟩ := s
  exact PySem.W.make_core (PySem.W.makes_of X hm) (PySem.W.looks_findIn X hi) hb (.inr ⟨rfl, rfl⟩) h
end
def putF (f : Str) (v : V) : List (Str × V) → List (Str × V)
  | [] => [(f, v)]
  | (g, x) :: r => if g = f then (g, v) :: r else (g, x) :: putF f v r
theorem lookup_putF (f g : Str) (v : V) : ∀ fs : List (Str × V), (putF f v fs).lookup g = if g = f then some v else fs.lookup g
  | [] => by
    show List.lookup g [(f, v)] = _
    by_cases h : g = f
    · have hb : (g == f) = true := beq_iff_eq.mpr h
      simp only [List.lookup, hb, if_pos h]
    · have hb : (g == f) = false := beq_eq_false_iff_ne.mpr h
      simp only [List.lookup, hb, if_neg h]
  | (k, x) :: r => by
    have ih := lookup_putF f g v r
    rw [show putF f v ((k, x) :: r) = (if k = f then (k, v) :: r else (k, x) :: putF f v r) from rfl]
    by_cases hk : k = f
    · rw [if_pos hk]
      by_cases h : g = k
      · have hb : (g == k) = true := beq_iff_eq.mpr h
        simp only [List.lookup, hb, if_pos (h.trans hk)]
      · have hb : (g == k) = false := beq_eq_false_iff_ne.mpr h
        simp only [List.lookup, hb, if_neg (fun e : g = f => h (e.trans hk.symm))]
    · rw [if_neg hk]
      by_cases h : g = k
      · have hb : (g == k) = true := beq_iff_eq.mpr h
        simp only [List.lookup, hb, if_neg (fun e : g = f => hk (h.symm.trans e))]
      · have hb : (g == k) = false := beq_eq_false_iff_ne.mpr h
        simp only [List.lookup, hb]
        exact ih
theorem keys_putF (f : Str) (v : V) : ∀ fs : List (Str × V), f ∈ (putF f v fs).map (·.1) ∧ ∀ g, g ∈ fs.map (·.1) → g ∈ (putF f v fs).map (·.1)
  | [] => ⟨by simp [putF], fun g h => by simp at h⟩
  | (k, x) :: r => by
    obtain ⟨i1, i2⟩ := keys_putF f v r
    rw [show putF f v ((k, x) :: r) = (if k = f then (k, v) :: r else (k, x) :: putF f v r) from rfl]
    by_cases hk : k = f
    · rw [if_pos hk]
      subst hk
      exact ⟨by simp, fun g h => by simpa using h⟩
    · rw [if_neg hk]
      refine ⟨?_, fun g h => ?_⟩
      · rw [List.map_cons]
        exact List.mem_cons_of_mem _ i1
      · rw [List.map_cons] at h ⊢
        rcases List.mem_cons.mp h with e | e
        · exact List.mem_cons.mpr (.inl e)
        · exact List.mem_cons_of_mem _ (i2 g e)
theorem length_putF (f : Str) (v : V) : ∀ fs : List (Str × V), (putF f v fs).length ≤ fs.length + 1
  | [] => by simp [putF]
  | (k, x) :: r => by
    have ih := length_putF f v r
    rw [show putF f v ((k, x) :: r) = (if k = f then (k, v) :: r else (k, x) :: putF f v r) from rfl]
    by_cases hk : k = f
    · rw [if_pos hk, List.length_cons, List.length_cons]; omega
    · rw [if_neg hk, List.length_cons, List.length_cons]; omega
theorem RelO.some_of {v : V} {o : Option Value} (r : RelO (some v) o) : ∃ u, o = some u ∧ RelV v u := by
  cases o with
  | none => exact (show False from r).elim
  | some u => exact ⟨u, rfl, r⟩
theorem RelO.none_of {o : Option Value} (r : RelO none o) : o = none := by
  cases o with
  | none => rfl
  | some u => exact (show False from r).elim
theorem handed_of {v : V} {u : Value} (r : RelV v u) : PySem.W.handedIn u = true := by
  cases v with
  | non => cases (show u = Value.none from r); rfl
  | bl b => cases (show u = Value.bool b from r); rfl
  | int i => obtain ⟨t, e⟩ := (show ∃ t, u = Value.int i t from r); cases e; rfl
  | str x => obtain ⟨t, e⟩ := (show ∃ t, u = Value.str x t from r); cases e; rfl
  | byt b => obtain ⟨t, e⟩ := (show ∃ t, u = Value.bytes b t from r); cases e; rfl
  | flt b => obtain ⟨t, e⟩ := (show ∃ t, u = Value.float b t from r); cases e; rfl
  | ref a => cases (show u = Value.ref a from r); rfl
  | ty n => cases (show u = Value.type n from r); rfl
section
variable {P : Program} {w : World} {H H' : Hp} {h h' : Heap} {a C dx : Addr} {fs fs' : List (Str × V)}
theorem ins_get (hok : HOk P w H h) (e : H a = some (.ins C dx fs)) : ∃ mA, ObjM h a dx C mA ∧ (∀ f, RelO (fs.lookup f) (mA f)) ∧ PySem.Within mA (fs.map (·.1)) ∧ fs.length ≤ 1000 ∧ H dx = some (.own a) := by
  obtain ⟨d, z, ne, ob, mA, n, r, q⟩ := (show ObjOk P w H h a (.ins C dx fs) from hok a _ e)
  exact ⟨mA, ⟨ob, n, ne⟩, r, q, z, d⟩
end
structure Cls (K : PySem.W.Frag) (C : Addr) : Prop where
  pg : PySem.W.plainGet K C Str.empty = true
  hd : PySem.W.hasDictIn K C = true
  po : PySem.W.plainOver K C = true
  sa : PySem.W.findIn K (.ref C) "__setattr__" = some (some (.builtin "object.__setattr__"))
theorem Cls.get {K : PySem.W.Frag} {C : Addr} (c : Cls K C) (f : Str) : PySem.W.plainGet K C f = true := c.pg
def NoAttr (K : PySem.W.Frag) (C : Addr) (f : Str) : Prop := PySem.W.findIn K (.ref C) f = some none
theorem NoAttr.taker {K : PySem.W.Frag} {C : Addr} {f : Str} (n : NoAttr K C f) : PySem.W.takerIn K C f = some none := by
  unfold PySem.W.takerIn
  rw [show PySem.W.findIn K (.ref C) f = some none from n]
  rfl
structure Con (K : PySem.W.Frag) (C : Addr) (f : Str) (v : V) (u : Value) : Prop where
  at_ : PySem.W.findIn K (.ref C) f = some (some u)
  rel : RelV v u
  get : PySem.W.specialIn K u "__get__" = some none
  cp : PySem.W.copiedNames.contains f = false
structure Meth (K : PySem.W.Frag) (C : Addr) (m : Str) (f : Addr) : Prop where
  at_ : PySem.W.findIn K (.ref C) m = some (some (.ref f))
  fn : PySem.W.isFn K (.ref f) = true
  kp : PySem.W.keepIn K (.ref f) = true
section
variable {X : Cx} {pins : List (Addr × Obj)} {σ : St} {H : Hp} {s : Shared} {a C dx : Addr} {fs : List (Str × V)} {f : Str} {v : V} {A : Around} {E : Value → Shared → Prop}
theorem getattr_ok {b : Bool} {Q : Value → Shared → Prop} (I : Inv X pins σ H s) (e : H a = some (.ins C dx fs)) (c : Cls X.K C) (n : NoAttr X.K C f) (l : fs.lookup f = some v)
    (h : ∀ u s', Inv X pins σ H s' → RelV v u → Q u s') : wpAny (model X.prog X.w) A (getAttr (.ref a) f b) Q E s := by
  obtain ⟨mA, O, r, _, _, _⟩ := ins_get I.hok e
  obtain ⟨u, hu, ru⟩ := RelO.some_of (v := v) (o := mA f) (by rw [← l]; exact r f)
  exact get_map I.kIn O (c.get f) c.hd n hu (handed_of ru) (h u _ (I.tok _) ru)
theorem getmeth_ok {m : Str} {g : Addr} {pl : Sem Bool} {Q : Value × List Value → Shared → Prop} (I : Inv X pins σ H s) (e : H a = some (.ins C dx fs)) (c : Cls X.K C) (k : Meth X.K C m g) (l : fs.lookup m = none)
    (h : Q (.ref g, [.ref a]) s) : wpAny (model X.prog X.w) A (getMethod (.ref a) m pl) Q E s := by
  obtain ⟨mA, O, r, _, _, _⟩ := ins_get I.hok e
  have hn : mA m = none := RelO.none_of (by rw [← l]; exact r m)
  exact get_meth I.kIn O (c.get m) k.at_ k.fn hn h
theorem setattr_ok {y : V} {u : Value} {Q : Unit → Shared → Prop} (I : Inv X pins σ H s) (e : H a = some (.ins C dx fs)) (c : Cls X.K C) (n : NoAttr X.K C f) (hl : fs.length < 1000) (ry : RelV y u)
    (h : ∀ s', Inv X pins σ (upd H a (.ins C dx (putF f y fs))) s' → Q () s') : wpAny (model X.prog X.w) A (setAttr (.ref a) f u) Q E s := by
  obtain ⟨mA, O, r, wi, _, ho⟩ := ins_get I.hok e
  have hz : (fs.map (·.1)).length ≤ sizeLine := by rw [List.length_map, sizeLine_eq]; omega
  refine set_map I.kIn O c.sa c.po n.taker c.hd wi hz fun h' O' sb => h _ ?_
  have hd : ∃ o, h'.get? dx = some o := let ⟨o, _, _, e', _⟩ := O'.ns; ⟨o, e'⟩
  refine I.write (x := a) (e := dx) (by rw [e]; exact True.intro) (.inr ho) (fun b q hb z => (sb.2 b hb).trans z) hd ?_
  refine ⟨by rw [upd_ne O.ne]; exact ho, ?_, O.ne, O'.obj, _, O'.ns, fun g => ?_, fun g hg => ?_⟩
  · have := length_putF f y fs; omega
  · show RelO ((putF f y fs).lookup g) (if g = f then some u else mA g)
    rw [lookup_putF]
    by_cases q : g = f
    · rw [if_pos q, if_pos q]; exact ry
    · rw [if_neg q, if_neg q]; exact r g
  · by_cases q : g = f
    · rw [q]; exact (keys_putF f y fs).1
    · refine (keys_putF f y fs).2 g (wi g fun z => hg ?_)
      show (if g = f then some u else mA g) = none
      rw [if_neg q]; exact z
theorem Inv.made (I : Inv X pins σ H s) : Inv X pins σ (upd (upd H s.heap.objs.size (.own (s.heap.objs.size + 1))) (s.heap.objs.size + 1) (.ins C s.heap.objs.size []))
    { s with heap := (s.heap.push PySem.W.emptyDict).push (PySem.W.instObj C s.heap.objs.size) } := by
  have e1 : (s.heap.push PySem.W.emptyDict).get? s.heap.objs.size = some PySem.W.emptyDict := Heap.get?_push_size s.heap rfl
  have e2 : ((s.heap.push PySem.W.emptyDict).push (PySem.W.instObj C s.heap.objs.size)).get? (s.heap.objs.size + 1) = some (PySem.W.instObj C s.heap.objs.size) := by
    have := Heap.get?_push_size (s.heap.push PySem.W.emptyDict) (o := PySem.W.instObj C s.heap.objs.size) rfl
    rwa [Heap.size_push] at this
  have e3 : (s.heap.push PySem.W.emptyDict).Ns s.heap.objs.size (fun _ => none) := ⟨PySem.W.emptyDict, #[], _, e1, rfl, (fun e he => absurd he (by simp)), fun _ => rfl⟩
  have I1 := I.laid (a := s.heap.objs.size) (o := .own (s.heap.objs.size + 1)) (h' := s.heap.push PySem.W.emptyDict) (t' := s.toks) (fun b u q => Heap.get?_push_of_some _ q) (Nat.le_refl _) ⟨_, e1⟩
  refine I1.laid (a := s.heap.objs.size + 1) (o := .ins C s.heap.objs.size []) (t' := s.toks) (fun b u q => Heap.get?_push_of_some _ q) (Nat.le_of_eq (Heap.size_push _ _)) ?_
  have ne : s.heap.objs.size ≠ s.heap.objs.size + 1 := Nat.ne_of_lt (Nat.lt_succ_self _)
  refine ⟨by rw [upd_ne ne, upd_same], Nat.zero_le _, ne, e2, fun _ => none, (Heap.Ns1.of_empty e3).at fun o q => Heap.get?_push_of_some _ q, fun _ => True.intro, fun y hy => absurd rfl hy⟩
theorem attr_of {prog : Program} {w : World} {env : Env} {e : Expr} {f : Str} {pos : Pos} {s : Shared} {Q : Value → Shared → Prop} (hb : attributeBase e f env (eval e env) = eval e env)
    (h : wpAny (model prog w) A (eval e env) (fun o s₁ => wpAny (model prog w) A (getAttr o f true) Q E s₁) E s) : wpAny (model prog w) A (eval (.Attribute e f pos) env) Q E s :=
  Attribute_any_ h (by rw [arm_eval_Attribute, hb])
end
def tFld (K : PySem.W.Frag) (ta : TE) (f : Str) : TE := fun σ H Q => ta σ H fun x H1 => ∃ a C dx fs v, x = .ref a ∧ H1 a = some (.ins C dx fs) ∧ Cls K C ∧ NoAttr K C f ∧ fs.lookup f = some v ∧ Q v H1
def sFld (K : PySem.W.Frag) (ta tv : TE) (f : Str) : TS := fun D σ H => tv σ H fun y H1 => ta σ H1 fun x H2 => ∃ a C dx fs, x = .ref a ∧ H2 a = some (.ins C dx fs) ∧ Cls K C ∧ NoAttr K C f ∧ fs.length < 1000 ∧
  D.nx σ (upd H2 a (.ins C dx (putF f y fs)))
section
variable {X : Cx} {o e value : Expr} {f : Str} {pos pos' tpos : Pos} {ta tv : TE}
theorem pe_fld (he : PE X e ta) (hb : attributeBase e f X.env (eval e X.env) = eval e X.env) : PE X (.Attribute e f pos) (tFld X.K ta f) := by
  intro pins s σ H Q I h
  refine attr_of hb (thn (he pins s σ H _ I h) fun u s1 ⟨x, H1, I1, rx, a, C, dx, fs, v, ex, ea, c, n, l, q⟩ => ?_)
  subst ex
  obtain rfl : u = Value.ref a := rx
  exact getattr_ok I1 ea c n l fun u' s2 I2 ru => ⟨v, H1, I2, ru, q⟩
theorem ps_fld (ha : PE X o ta) (hv : PE X value tv) (hs : swapsWith value (some (.Attribute o f pos')) pos.line X.env = pure false) : PS X (.Assign [.Attribute o f pos'] value pos) (sFld X.K ta tv f) := by
  intro pins s σ H D I h
  refine plainObj_wpAny_Assign_Attribute (thn (hv pins s σ H _ I h) fun u s1 ⟨y, H1, I1, ry, q⟩ => thn (ha pins s1 σ H1 _ I1 q) fun ov s2 ⟨x, H2, I2, rx, a, C, dx, fs, ex, ea, c, n, l, q2⟩ => ?_) hs
  subst ex
  obtain rfl : ov = Value.ref a := rx
  exact setattr_ok I2 ea c n l ry fun s3 I3 => ⟨σ, _, I3, q2⟩
end
section
variable {X : Cx} {pins : List (Addr × Obj)} {σ : St} {H : Hp} {s : Shared} {A : Around} {E : Value → Shared → Prop} {Q : Value → Shared → Prop} {c : Value} {b : Bool}
inductive TyOf (K : PySem.W.Frag) (H : Hp) : V → Value → Prop where
  | non : TyOf K H .non (.type "NoneType")
  | bl (x : Bool) : TyOf K H (.bl x) (.type "bool")
  | int (i : Int) : TyOf K H (.int i) (.type "int")
  | str (x : Str) : TyOf K H (.str x) (.type "str")
  | flt (x : UInt64) : TyOf K H (.flt x) (.type "float")
  | lst {a : Addr} {xs : List V} (e : H a = some (.lst xs)) : TyOf K H (.ref a) (.type "list")
  | frz {a : Addr} {o : Obj} {xs : List V} (e : H a = some (.frz o (.lst xs))) : TyOf K H (.ref a) (.type "list")
  | tup {a : Addr} {xs : List V} (e : H a = some (.tup xs)) : TyOf K H (.ref a) (.type "tuple")
  | dK {a : Addr} {kvs : List (Key × V)} (e : H a = some (.dK kvs)) : TyOf K H (.ref a) (.type "dict")
  | dT {a : Addr} {kvs : List (List Key × V)} (e : H a = some (.dT kvs)) : TyOf K H (.ref a) (.type "dict")
  | ins {a C dx : Addr} {fs : List (Str × V)} (e : H a = some (.ins C dx fs)) (cl : Cls K C) (ha : PySem.W.findIn K (.ref C) "__class__" = some (some (.builtin "object.__class__")))
      (hn : PySem.W.specialIn K (.builtin "object.__class__") "__get__" = some (some (.builtin "getset_descriptor.__get__"))) (htk : PySem.W.takesIn K (.builtin "object.__class__") = some true)
      (hm : PySem.W.mroIn K C (.type "object") = some true) : TyOf K H (.ref a) (.ref C)
end
end L2
namespace L2
open PySem PySem.Spec PyProof.Rows
structure Room (k : Nat) (A : Around) : Prop where
  hd : A.handled = none
  dp : A.depth + 3 * k + 5 < recursionLimit
  un : A.units + 16 * k + 200 < cLine
  gd : A.guards = some []
theorem Room.mono {j k : Nat} {A : Around} (r : Room k A) (h : j ≤ k) : Room j A := ⟨r.hd, by have := r.dp; omega, by have := r.un; omega, r.gd⟩
theorem Room.deeper {k : Nat} {A : Around} (r : Room (k + 1) A) (env : Env) : Room k (A.deeper env) :=
  ⟨r.hd, by have := r.dp; show A.depth + 1 + 3 * k + 5 < _; omega, by have := r.un; show A.units + 3 + 16 * k + 200 < _; omega, r.gd⟩
theorem make_depth {A : Around} {C : Addr} {us : List Value} {kw : List (Str × Value)} : (A.under (.builtin "type.__call__" ⟨.ref C :: us, kw⟩)).depth = A.depth + 1 := by
  first | rfl | simp [Around.under, Code.weight, Code.isCreation, Code.isGuard, Code.isCaller, Code.frames, Code.isFrame, guardIds]
theorem make_units {A : Around} {C : Addr} {us : List Value} {kw : List (Str × Value)} : (A.under (.builtin "type.__call__" ⟨.ref C :: us, kw⟩)).units = A.units + 1 := by
  first | rfl | simp [Around.under, Code.cUnits, Code.frames, Code.isFrame]
theorem make_guards {A : Around} {C : Addr} {us : List Value} {kw : List (Str × Value)} (hg : A.guards = some []) : (A.under (.builtin "type.__call__" ⟨.ref C :: us, kw⟩)).guards = some [] := by
  have h : (Code.builtin "type.__call__" ⟨.ref C :: us, kw⟩).isGuard = false := by
    show guardIds.contains "type.__call__" = false
    decide +kernel
  simp [Around.under, Code.guards, h, pushGuards, hg]
theorem Room.make {k : Nat} {A : Around} (r : Room (k + 1) A) (C : Addr) (us : List Value) (kw : List (Str × Value)) : Room k (A.under (.builtin "type.__call__" ⟨.ref C :: us, kw⟩)) :=
  ⟨r.hd, by have := r.dp; rw [make_depth]; omega, by have := r.un; rw [make_units]; omega, make_guards r.gd⟩
theorem Room.depth {k : Nat} {A : Around} (r : Room k A) : A.depth < recursionLimit := by have := r.dp; omega
theorem Room.units {k : Nat} {A : Around} (r : Room k A) : A.units + 64 < cLine := by have := r.un; omega
def tNil : TA := fun _ H Q => Q [] H
def tCons (ta : TE) (tr : TA) : TA := fun σ H Q => ta σ H fun x H1 => tr σ H1 fun xs H2 => Q (x :: xs) H2
section
variable {X : Cx} {e : Expr} {es : List Expr} {te : TE} {t : TA} {pos : Pos}
theorem pa_nil : PA X [] tNil := fun _ _ _ _ H Q I h => Calls.spliced_nil ⟨[], H, I, .nil, h⟩
theorem pa_cons (ha : PE X e te) (hr : PA X es t) (hs : starEach (e :: es) X.env = (false, eval e X.env) :: starEach es X.env := by rfl) : PA X (e :: es) (tCons te t) := by
  intro pos pins s σ H Q I h
  rw [hs]
  show wpAny _ _ (spliced ((false, eval e X.env) :: backTo pos (starEach es X.env))) _ _ s
  refine Calls.spliced_cons (thn (ha pins s σ H _ I h) fun u s1 ⟨x, H1, I1, r1, q1⟩ => ?_)
  exact thn (hr pos pins s1 σ H1 _ I1 q1) fun us s2 ⟨xs, H2, I2, r2, q2⟩ => ⟨x :: xs, H2, I2, .cons r1 r2, q2⟩
def tTup (t : TA) : TE := fun σ H Q => t σ H fun xs H1 => xs.length ≤ sizeLine ∧ ∀ p, H1 p = none → Q (.ref p) (upd H1 p (.tup xs))
def tLst (t : TA) : TE := fun σ H Q => t σ H fun xs H1 => xs.length ≤ sizeLine ∧ ∀ p, H1 p = none → Q (.ref p) (upd H1 p (.lst xs))
theorem pe_tup {x1} (h : PA X es t) : PE X (.Tuple es x1 pos) (tTup t) := by
  intro pins s σ H Q I hq
  refine wpAny_Tuple_spliced (thn (h pos pins s σ H _ I hq) fun us s1 ⟨xs, H1, I1, r, z, q⟩ => ⟨by rw [← r.length]; exact z, ?_⟩)
  have hf : H1 s1.heap.objs.size = none := I1.hok.fresh (Nat.le_refl _)
  refine ⟨.ref s1.heap.objs.size, upd H1 s1.heap.objs.size (.tup xs), I1.laid (t' := s1.toks) (fun b u e => Heap.get?_push_of_some _ e) (Nat.le_refl _) ?_, rfl, q _ hf⟩
  exact ⟨z, us, r, ⟨_, Heap.get?_push_size _ rfl, rfl, _, rfl⟩⟩
theorem pe_lst (h : PA X es t) : PE X (.List es pos) (tLst t) := by
  intro pins s σ H Q I hq
  refine wpAny_List_spliced (thn (h pos pins s σ H _ I hq) fun us s1 ⟨xs, H1, I1, r, z, q⟩ => ⟨by rw [← r.length]; exact z, ?_⟩)
  have hf : H1 s1.heap.objs.size = none := I1.hok.fresh (Nat.le_refl _)
  refine ⟨.ref s1.heap.objs.size, upd H1 s1.heap.objs.size (.lst xs), I1.laid (t' := s1.toks) (fun b u e => Heap.get?_push_of_some _ e) (Nat.le_refl _) ?_, rfl, q _ hf⟩
  exact ⟨z, us, 0, r, Heap.get?_push_size _ rfl⟩
end
abbrev Sp := List V → Hp → VK → XK → Prop
abbrev CXT := List Env → Hp → Shared → XK → Value → Shared → Prop
structure Env0 (P : Program) (w : World) (K : PySem.W.Frag) (mg : Str → Option Value) (base : Heap) (A : Around) (outer : List Env) (s : Shared) (H : Hp) : Prop where
  frames : A.frames = some outer
  mod : Mod K mg base
  bs : ∀ b o, base.get? b = some o → s.heap.get? b = some o ∧ H b = none
  bsz : base.objs.size ≤ s.heap.objs.size
  funs : s.heap.FunFrames base outer
  frf : ∀ b ∈ frs outer, H b = none
  hok : HOk P w H s.heap
  bare : AllBare s.gens
def CE (outer : List Env) (P : Program) (w : World) (H : Hp) (s : Shared) (Q : VK) (u : Value) (s' : Shared) : Prop :=
  ∃ v H', s'.os = s.os ∧ AllBare s'.gens ∧ Un (frs outer) [] H H' s.heap s'.heap ∧ HOk P w H' s'.heap ∧ RelV v u ∧ Q v H'
def CR (CX : CXT) (outer : List Env) (P : Program) (w : World) (H : Hp) (s : Shared) (Q : VK) (E : XK) (r : Result) (s' : Shared) : Prop :=
  match r with
  | .ok (.ret u) => CE outer P w H s Q u s'
  | .ok _ => False
  | .error e => CX outer H s E e s'
structure FnOk (P : Program) (w : World) (K : PySem.W.Frag) (mg : Str → Option Value) (base : Heap) (CX : CXT) (k : Nat) (f : Addr) (fd : FuncData) (ps : List Str) (sp : Sp) : Prop where
  len : ∀ vs H Q E, sp vs H Q E → vs.length = ps.length
  run : ∀ (A : Around) (outer : List Env) (s : Shared) (H : Hp) (args : Args) (us : List Value) (vs : List V) (Q : VK) (E : XK), Room k A → Env0 P w K mg base A outer s H → BindsTo s fd args (ps.zip us) → Vals vs us → sp vs H Q E →
    codeAny (model P w) A (.call (.ref f) args) (CR CX outer P w H s Q E) s
theorem Env0.make {P : Program} {w : World} {K : PySem.W.Frag} {mg : Str → Option Value} {base : Heap} {A : Around} {outer : List Env} {s : Shared} {H : Hp} (e : Env0 P w K mg base A outer s H) (C : Addr) (us : List Value) (kw : List (Str × Value)) :
    Env0 P w K mg base (A.under (.builtin "type.__call__" ⟨.ref C :: us, kw⟩)) outer s H := ⟨by first | exact e.frames | (simpa [Around.under, Code.envs, Code.isFrame, pushEnvs] using e.frames), e.mod, e.bs, e.bsz, e.funs, e.frf, e.hok, e.bare⟩
section
variable {X : Cx} {pins : List (Addr × Obj)} {σ : St} {H : Hp} {s s' : Shared}
theorem Inv.env0 (I : Inv X pins σ H s) : Env0 X.prog X.w X.K X.mg X.base X.A X.stack s H :=
  ⟨I.ok.frames, I.ok.mod, I.bs, Nat.le_trans I.ok.bsz I.sz, I.stack, I.stkFree, I.hok, I.bare⟩
theorem Inv.after {Q : VK} {u : Value} (I : Inv X pins σ H s) (h : CE X.stack X.prog X.w H s Q u s') : EP X pins σ Q u s' := by
  obtain ⟨v, H', os, bare, un, hok, r, q⟩ := h
  obtain ⟨hh, g, d, t, os'⟩ := s'
  obtain rfl : os' = s.os := os
  exact ⟨v, H', I.call (h' := hh) (g' := g) (d' := d) (t' := t) (ch := []) un hok bare (fun b z => absurd z (by simp)), r, q⟩
end
def tCall (sp : Sp) (dvs : List V) (E : XK) (t : TA) : TE := fun σ H Q => t σ H fun vs H1 => sp (vs ++ dvs) H1 Q E
def tMeth (C : Addr) (m : Str) (sp : Sp) (dvs : List V) (E : XK) (ta : TE) (t : TA) : TE := fun σ H Q => ta σ H fun x H1 => ∃ a dx fs, x = .ref a ∧ H1 a = some (.ins C dx fs) ∧ fs.lookup m = none ∧
  t σ H1 fun vs H2 => sp (x :: (vs ++ dvs)) H2 Q E
def tMake (C : Addr) (sp : Sp) (dvs : List V) (E : XK) (t : TA) : TE := fun σ H Q => t σ H fun vs H1 => ∀ x dx, H1 x = none → H1 dx = none → dx ≠ x →
  sp (.ref x :: (vs ++ dvs)) (upd (upd H1 dx (.own x)) x (.ins C dx [])) (fun v H2 => v = .non ∧ Q (.ref x) H2) E
def Binds (K : PySem.W.Frag) (fd : FuncData) (ps : List Str) (ds : List Value) : Prop :=
  ∀ (s : Shared) (us : List Value), K.In s.heap → (us ++ ds).length = ps.length → BindsTo s fd ⟨us, []⟩ (ps.zip (us ++ ds))
theorem Binds.all {K : PySem.W.Frag} {fd : FuncData} {ps : List Str} (h : ∀ us : List Value, us.length = ps.length → bindArgs fd ⟨us, []⟩ = pure (ps.zip us)) : Binds K fd ps [] := fun s us _ hl => by
  rw [List.append_nil] at hl ⊢
  exact .of_eq (h us hl)
def Passes (CX : CXT) (X : Cx) (E : XK) : Prop := ∀ (pins : List (Addr × Obj)) (σ : St) (H : Hp) (s : Shared) (e : Value) (s' : Shared), Inv X pins σ H s → CX X.stack H s E e s' → X.xe e s'
section
variable {X : Cx} {CX : CXT} {k : Nat} {f C : Addr} {fd : FuncData} {ps : List Str} {sp : Sp} {dvs : List V} {ds : List Value} {E : XK} {x m : Str} {p pos apos : Pos} {e o : Expr} {es : List Expr} {ta : TE} {t : TA}
theorem run_fn {pins : List (Addr × Obj)} {σ : St} {H : Hp} {s : Shared} {Q : VK} {us : List Value} {vs : List V} (F : FnOk X.prog X.w X.K X.mg X.base CX k f fd ps sp) (hr : Room k X.A) (hb : Binds X.K fd ps ds) (hd : Vals dvs ds) (hx : Passes CX X E)
    (I : Inv X pins σ H s) (r : Vals vs us) (h : sp (vs ++ dvs) H Q E) : wpAny (model X.prog X.w) X.A (call (.ref f) us) (EP X pins σ Q) X.xe s := by
  have r2 : Vals (vs ++ dvs) (us ++ ds) := r.append hd
  have hl : (us ++ ds).length = ps.length := by rw [← r2.length]; exact F.len _ _ _ _ h
  refine wpAny_call (codeAny_mono (F.run X.A X.stack s H ⟨us, []⟩ (us ++ ds) (vs ++ dvs) Q E hr I.env0 (hb s us I.kIn hl) r2 h) fun r s' hq => ?_)
  cases r with
  | error e => exact hx pins σ H s e s' I hq
  | ok fl =>
    cases fl with
    | ret u => exact I.after hq
    | next => exact False.elim hq
    | brk => exact False.elim hq
    | cont => exact False.elim hq
theorem pe_call (F : FnOk X.prog X.w X.K X.mg X.base CX k f fd ps sp) (hr : Room k X.A) (hg : Gl X x) (hm : X.mg x = some (.ref f)) (hk : PySem.W.keepIn X.K (.ref f) = true) (hb : Binds X.K fd ps ds) (hd : Vals dvs ds) (hx : Passes CX X E)
    (ha : PA X (e :: es) t) (hdb : (x == ("__debug__" : Str)) = false := by decide) (he : starEach (e :: es) X.env = (false, eval e X.env) :: starEach es X.env := by rfl) (hpl : (backTo pos (starEach es X.env)).any (·.1) = false := by rfl) :
    PE X (.Call (.Name x p) (e :: es) [] pos) (tCall sp dvs E t) := by
  intro pins s σ H Q I h
  refine wpAny_Call_Name_kw (ld_glob I hg hm ?_ hdb)
  refine PySem.W.callWith_K (h₀ := X.base) I.ok.mod.kin hk (thn (ha pos pins s σ H _ I h) fun us s1 ⟨vs, H1, I1, r, q⟩ => ⟨I1.kIn, ?_⟩) he hpl
  exact run_fn F hr hb hd hx I1 r q
theorem pe_meth {pl : Sem Bool} (he : PE X o ta) (c : Cls X.K C) (hm : Meth X.K C m f) (F : FnOk X.prog X.w X.K X.mg X.base CX k f fd ps sp) (hr : Room k X.A) (hb : Binds X.K fd ps ds) (hd : Vals dvs ds) (hx : Passes CX X E) (ha : PA X (e :: es) t)
    (hst : starEach (e :: es) X.env = (false, eval e X.env) :: starEach es X.env := by rfl) (hpl : (backTo pos (starEach es X.env)).any (·.1) = false := by rfl)
    (ht : eval (.Call (.Attribute o m apos) (e :: es) [] pos) X.env = (do
      let ov ← eval o X.env
      standAt apos.atName
      let (f, first) ← holding [ov] (getMethod ov m pl)
      callWith pos f first (backTo pos (starEach (e :: es) X.env)) (backToKw pos (keywordEach [] X.env))) := by rfl) :
    PE X (.Call (.Attribute o m apos) (e :: es) [] pos) (tMeth C m sp dvs E ta t) := by
  intro pins s σ H Q I h
  refine PySem.W.methodCall_KW (pl := pl) (thn (he pins s σ H _ I h) fun u s1 ⟨x, H1, I1, rx, a, dx, fs, ex, ea, l, q⟩ => ?_) ht
  subst ex
  obtain rfl : u = Value.ref a := rx
  refine getmeth_ok I1 ea c hm l ?_
  refine PySem.W.callWith_K (first := [.ref a]) (h₀ := X.base) I.ok.mod.kin hm.kp (thn (ha pos pins s1 σ H1 _ I1 q) fun us s2 ⟨vs, H2, I2, r, q2⟩ => ⟨I2.kIn, ?_⟩) hst hpl
  exact run_fn (us := .ref a :: us) (vs := .ref a :: vs) F hr hb hd hx I2 (.cons rfl r) q2
theorem pe_meth0 {pl : Sem Bool} (he : PE X o ta) (c : Cls X.K C) (hm : Meth X.K C m f) (F : FnOk X.prog X.w X.K X.mg X.base CX k f fd ps sp) (hr : Room k X.A) (hb : Binds X.K fd ps ds) (hd : Vals dvs ds) (hx : Passes CX X E)
    (ht : eval (.Call (.Attribute o m apos) [] [] pos) X.env = (do
      let ov ← eval o X.env
      standAt apos.atName
      let (f, first) ← holding [ov] (getMethod ov m pl)
      callWith pos f first (backTo pos (starEach [] X.env)) (backToKw pos (keywordEach [] X.env))) := by rfl) :
    PE X (.Call (.Attribute o m apos) [] [] pos) (tMeth C m sp dvs E ta tNil) := by
  intro pins s σ H Q I h
  refine PySem.W.methodCall_KW (pl := pl) (thn (he pins s σ H _ I h) fun u s1 ⟨x, H1, I1, rx, a, dx, fs, ex, ea, l, q⟩ => ?_) ht
  subst ex
  obtain rfl : u = Value.ref a := rx
  refine getmeth_ok I1 ea c hm l ?_
  exact PySem.W.callWith_K0 (first := [.ref a]) I1.kIn hm.kp (run_fn (us := [.ref a]) (vs := [.ref a]) F hr hb hd hx I1 (.cons rfl .nil) q)
structure Mk (K : PySem.W.Frag) (C f : Addr) : Prop where
  makes : PySem.W.makesIn K C = true
  init : PySem.W.findIn K (.ref C) "__init__" = some (some (.ref f))
  fn : PySem.W.isFn K (.ref f) = true
  kp : PySem.W.keepIn K (.ref C) = true
theorem run_make {pins : List (Addr × Obj)} {σ : St} {H : Hp} {s : Shared} {Q : VK} {us : List Value} {vs : List V} (M : Mk X.K C f) (F : FnOk X.prog X.w X.K X.mg X.base CX k f fd ps sp) (hr : Room (k + 1) X.A) (hb : Binds X.K fd ps ds) (hd : Vals dvs ds)
    (hx : Passes CX X E) (I : Inv X pins σ H s) (r : Vals vs us)
    (h : ∀ x dx, H x = none → H dx = none → dx ≠ x → sp (.ref x :: (vs ++ dvs)) (upd (upd H dx (.own x)) x (.ins C dx [])) (fun v H2 => v = .non ∧ Q (.ref x) H2) E) :
    wpAny (model X.prog X.w) X.A (call (.ref C) us) (EP X pins σ Q) X.xe s := by
  have hq := h (s.heap.objs.size + 1) s.heap.objs.size (I.hok.fresh (Nat.le_succ _)) (I.hok.fresh (Nat.le_refl _)) (Nat.ne_of_lt (Nat.lt_succ_self _))
  have I2 := Inv.made (C := C) I
  have r2 : Vals (V.ref (s.heap.objs.size + 1) :: (vs ++ dvs)) (Value.ref (s.heap.objs.size + 1) :: (us ++ ds)) := .cons rfl (r.append hd)
  have hl : (Value.ref (s.heap.objs.size + 1) :: us ++ ds).length = ps.length := by
    have e := r2.length
    rw [F.len _ _ _ _ hq] at e
    exact e.symm
  refine wpAny_call (make_map (f := f) I.kIn M.makes M.init (beq_iff_eq.mp M.fn) (codeAny_mono (F.run _ X.stack _ _ ⟨Value.ref (s.heap.objs.size + 1) :: us, []⟩ (Value.ref (s.heap.objs.size + 1) :: (us ++ ds)) _ _ E (hr.make C us [])
    (I2.env0.make C us []) (hb _ (Value.ref (s.heap.objs.size + 1) :: us) I2.kIn hl) r2 hq) fun r s' hq' => ?_))
  cases r with
  | error e => exact hx pins σ _ _ e s' I2 hq'
  | ok fl =>
    cases fl with
    | ret u =>
      obtain ⟨v, H', I3, rv, ev, q3⟩ := I2.after hq'
      subst ev
      exact ⟨rv, ⟨V.ref (s.heap.objs.size + 1), H', I3, rfl, q3⟩⟩
    | next => exact False.elim hq'
    | brk => exact False.elim hq'
    | cont => exact False.elim hq'
theorem pe_make (M : Mk X.K C f) (F : FnOk X.prog X.w X.K X.mg X.base CX k f fd ps sp) (hr : Room (k + 1) X.A) (hg : Gl X x) (hm : X.mg x = some (.ref C)) (hb : Binds X.K fd ps ds) (hd : Vals dvs ds) (hx : Passes CX X E)
    (ha : PA X (e :: es) t) (hdb : (x == ("__debug__" : Str)) = false := by decide) (he : starEach (e :: es) X.env = (false, eval e X.env) :: starEach es X.env := by rfl) (hpl : (backTo pos (starEach es X.env)).any (·.1) = false := by rfl) :
    PE X (.Call (.Name x p) (e :: es) [] pos) (tMake C sp dvs E t) := by
  intro pins s σ H Q I h
  refine wpAny_Call_Name_kw (ld_glob I hg hm ?_ hdb)
  refine PySem.W.callWith_K (h₀ := X.base) I.ok.mod.kin M.kp (thn (ha pos pins s σ H _ I h) fun us s1 ⟨vs, H1, I1, r, q⟩ => ⟨I1.kIn, ?_⟩) he hpl
  exact run_make M F hr hb hd hx I1 r q
end
section
variable {X : Cx} {CX : CXT} {k : Nat} {f C : Addr} {fd : FuncData} {ps ks : List Str} {sp : Sp} {E : XK} {x m : Str} {p pos apos kpos : Pos} {e o : Expr} {es : List Expr} {kws : List Keyword} {te ta : TE} {t tk : TA} {nm : Option Str}
structure KBinds (K : PySem.W.Frag) (fd : FuncData) (ps ks : List Str) (g : List Value → List Value → List Value) (gV : List V → List V → List V) : Prop where
  to : ∀ (s : Shared) (us ws : List Value), K.In s.heap → (g us ws).length = ps.length → BindsTo s fd ⟨us, ks.zip ws⟩ (ps.zip (g us ws))
  rel : ∀ {vs : List V} {us : List Value} {zs : List V} {ws : List Value}, Vals vs us → Vals zs ws → Vals (gV vs zs) (g us ws)
variable {g : List Value → List Value → List Value} {gV : List V → List V → List V}
end
structure FnScope (N P : List Str) (sc : Scope) : Prop where
  kind : sc.kind = .function
  co : sc.isCoroutine = false
  gen : sc.isGenerator = false
  nd : N.Nodup
  pre : N.take P.length = P
  par : ∀ x ∈ P, sc.names.lookup x = some .local ∨ sc.names.lookup x = some .cell
  nofree : ∀ y ∈ sc.names, y.2 ≠ .free
theorem bindL_out {kindOf : Str → Option NameKind} {x : Str} : ∀ {binds : List (Str × Value)} {m : Str → Option Value}, (∀ v, (x, v) ∉ binds) → bindL kindOf binds m x = m x
  | [], _, _ => rfl
  | (n, v) :: r, m, h => by
    unfold bindL
    rw [bindL_out fun w hw => h w (List.mem_cons_of_mem _ hw)]
    split
    · have : x ≠ n := by rintro rfl; exact h v List.mem_cons_self
      simp [this]
    · rfl
theorem bindC_out {kindOf : Str → Option NameKind} {x : Str} : ∀ {binds : List (Str × Value)} {m : Str → Option Value}, (∀ v, (x, v) ∉ binds) → bindC kindOf binds m x = m x
  | [], _, _ => rfl
  | (n, v) :: r, m, h => by
    unfold bindC
    rw [bindC_out fun w hw => h w (List.mem_cons_of_mem _ hw)]
    split
    · rfl
    · have : x ≠ n := by rintro rfl; exact h v List.mem_cons_self
      simp [this]
theorem bindL_get {kindOf : Str → Option NameKind} {x : Str} {v : Value} : ∀ {P : List Str} {vs : List Value} {i : Nat} {m : Str → Option Value}, P.Nodup → P[i]? = some x → vs[i]? = some v → kindOf x = some .local →
    bindL kindOf (P.zip vs) m x = some v
  | [], _, _, _, _, h, _, _ => by simp at h
  | _ :: _, [], _, _, _, _, h, _ => by simp at h
  | p :: P, w :: vs, 0, m, nd, h1, h2, hk => by
    simp at h1 h2; subst h1; subst h2
    show bindL kindOf ((p, w) :: P.zip vs) m p = _
    unfold bindL
    rw [bindL_out fun v hv => (List.nodup_cons.mp nd).1 (List.of_mem_zip hv).1, if_pos hk]
    simp
  | p :: P, w :: vs, i + 1, m, nd, h1, h2, hk => by
    show bindL kindOf ((p, w) :: P.zip vs) m x = _
    unfold bindL
    exact bindL_get (i := i) (List.nodup_cons.mp nd).2 (by simpa using h1) (by simpa using h2) hk
theorem bindC_get {kindOf : Str → Option NameKind} {x : Str} {v : Value} : ∀ {P : List Str} {vs : List Value} {i : Nat} {m : Str → Option Value}, P.Nodup → P[i]? = some x → vs[i]? = some v → kindOf x ≠ some .local →
    bindC kindOf (P.zip vs) m x = some v
  | [], _, _, _, _, h, _, _ => by simp at h
  | _ :: _, [], _, _, _, _, h, _ => by simp at h
  | p :: P, w :: vs, 0, m, nd, h1, h2, hk => by
    simp at h1 h2; subst h1; subst h2
    show bindC kindOf ((p, w) :: P.zip vs) m p = _
    unfold bindC
    rw [bindC_out fun v hv => (List.nodup_cons.mp nd).1 (List.of_mem_zip hv).1, if_neg hk]
    simp
  | p :: P, w :: vs, i + 1, m, nd, h1, h2, hk => by
    show bindC kindOf ((p, w) :: P.zip vs) m x = _
    unfold bindC
    exact bindC_get (i := i) (List.nodup_cons.mp nd).2 (by simpa using h1) (by simpa using h2) hk
def start (N : List Str) (vs : List V) : St := vs.map some ++ List.replicate (N.length - vs.length) none
def cxOf (CX : CXT) (P : Program) (w : World) (K : PySem.W.Frag) (mg : Str → Option Value) (base : Heap) (N : List Str) (qual : Str) (scope : Scope) (f : Addr) (cd : Value) (A : Around) (outer : List Env) (s : Shared) (H : Hp) (E : XK) : Cx where
  prog := P
  w := w
  K := K
  mg := mg
  base := base
  A := A.deeper (envOfC qual scope s.heap.objs.size f cd)
  N := N
  s₀ := s
  H₀ := H
  env := envOfC qual scope s.heap.objs.size f cd
  outer := outer
  stack := envOfC qual scope s.heap.objs.size f cd :: outer
  ex := []
  calm := true
  fn := fun _ => true
  pn := []
  xe := fun e s' => wpAny (model P w) (A.deeper (envOfC qual scope s.heap.objs.size f cd)) (leaving (envOfC qual scope s.heap.objs.size f cd) e) (fun _ s'' => CX outer H s E e s'') (fun e' s'' => CX outer H s E e' s'') s'
theorem cell_has {sc : Scope} {n : Nat} {x : Str} (h : sc.names.lookup x = some .cell) : ∃ c, (cellsFrom n sc.names []).lookup x = some c := by
  have q := PySem.W.cellsFrom_some sc.names n [] (.inl h)
  exact Option.isSome_iff_exists.mp q
theorem inv_start {CX : CXT} {P : Program} {w : World} {K : PySem.W.Frag} {mg : Str → Option Value} {base : Heap} {N ps : List Str} {qual : Str} {scope : Scope} {f : Addr} {cd : Value} {A : Around} {outer : List Env} {s s1 : Shared} {H : Hp} {E : XK} {us : List Value} {vs : List V}
    (S : FnScope N ps scope) (hd : A.handled = none) (e0 : Env0 P w K mg base A outer s H) (hl : vs.length = ps.length) (r : Vals vs us)
    (x : InCallC s s.heap.objs.size (bindL (envOfC qual scope s.heap.objs.size f cd).kindOf (ps.zip us) fun _ => none) (cellsFrom (s.heap.objs.size + 1) scope.names []) (bindC (envOfC qual scope s.heap.objs.size f cd).kindOf (ps.zip us) fun _ => none) s1) :
    Inv (cxOf CX P w K mg base N qual scope f cd A outer s H E) [] (start N vs) H s1 := by
  have hpl : ps.length ≤ N.length := by have := congrArg List.length S.pre; rw [List.length_take] at this; omega
  obtain ⟨h1, tk, rfl, hk⟩ := x.done
  have noA : ∀ b : Addr, b ∉ (cxOf CX P w K mg base N qual scope f cd A outer s H E).ex := fun b z => absurd (show b ∈ ([] : List Addr) from z) (by simp)
  refine ⟨⟨e0.mod, S.kind, rfl, rfl, Nat.le_refl _, fun y z c h1 h2 => ?_, fun y hy => ?_, fun y c _ h => ?_, fun _ => hd, Around.frames_deeper e0.frames, .inr ⟨rfl, rfl⟩, fun b z => absurd z (noA b), e0.bs, e0.bsz, fun b _ _ => noA b, fun b z => absurd z (noA b), e0.funs, e0.frf⟩,
    rfl, e0.bare, Un.kept hk, ⟨_, x.toInCall.ns, fun i y v h1 h2 h3 => ?_⟩, fun y c h => ⟨_, x.cell y c h⟩, e0.hok.fresh (Nat.le_refl _), fun y c h => ?_, fun p hp => absurd (show p ∈ ([] : List (Addr × Obj)) from hp) (by simp), e0.hok.kept hk, ?_⟩
  · exact name_of_addr x.apart (PySem.mem_of_lookup h1) (PySem.mem_of_lookup h2)
  · have hy : scope.names.lookup y = some .cell ∨ scope.names.lookup y = some .free := hy
    rcases hy with hy | hy
    · exact cell_has hy
    · exact absurd rfl (S.nofree _ (PySem.mem_of_lookup hy))
  · exact Nat.le_of_lt (x.above y c (PySem.mem_of_lookup h))
  · have hi : i < vs.length := by
      unfold start at h2
      by_cases hi : i < vs.length
      · exact hi
      · rw [List.getElem?_append_right (by simpa using hi)] at h2
        rw [List.getElem?_replicate] at h2
        split at h2 <;> cases h2
    have ha : vs[i]? = some v := by
      unfold start at h2
      rw [List.getElem?_append_left (by simpa using hi), List.getElem?_map] at h2
      cases e : vs[i]? with
      | none => rw [e] at h2; cases h2
      | some a => rw [e] at h2; cases h2; rfl
    obtain ⟨u, hu, rv⟩ := r.get ha
    have hp : ps[i]? = some y := by
      rw [← S.pre, List.getElem?_take_of_lt (by omega)]; exact h1
    have ndP : ps.Nodup := by rw [← S.pre]; exact S.nd.sublist (List.take_sublist _ _)
    refine ⟨u, rv, ?_⟩
    rcases S.par y (List.mem_of_getElem? hp) with k | k
    · exact .inl ⟨k, bindL_get ndP hp hu k⟩
    · obtain ⟨c, e⟩ := cell_has (n := s.heap.objs.size + 1) k
      refine .inr ⟨.inl k, c, e, ?_⟩
      have q := x.cell y c e
      rw [bindC_get ndP hp hu (by show scope.names.lookup y ≠ _; rw [k]; decide)] at q
      exact q
  · exact e0.hok.fresh (Nat.le_of_lt (x.above y c (PySem.mem_of_lookup h)))
  · unfold start
    show _ = N.length
    rw [List.length_append, List.length_map, List.length_replicate]
    omega
theorem fn_of {CX : CXT} {P : Program} {w : World} {K : PySem.W.Frag} {mg : Str → Option Value} {base : Heap} {k : Nat} {f : Addr} {name qual : Str} {params : Arguments} {body : List Stmt} {scope : Scope} {dV kV doc pm cdv ct oc : Value} {an od : Option Addr}
    {osl : Array (Option Value)} {N ps : List Str} {sp : Sp} (lk : K.lookup f = some ⟨oc, od, .func (PySem.W.fnOf name qual params body scope dV kV doc pm an cdv ct), osl⟩) (hcd : PySem.W.codeIn K cdv qual = true) (S : FnScope N ps scope)
    (len : ∀ vs H Q E, sp vs H Q E → vs.length = ps.length)
    (hbody : ∀ (A : Around) (outer : List Env) (s : Shared) (H : Hp) (vs : List V) (Q : VK) (E : XK), Room k (A.deeper (envOfC qual scope s.heap.objs.size f cdv)) → sp vs H Q E →
      ∃ t, PSs (cxOf CX P w K mg base N qual scope f cdv A outer s H E) body t ∧ t { nx := fun _ H' => Q .non H', rt := Q } (start N vs) H) :
    FnOk P w K mg base CX (k + 1) f (PySem.W.fnOf name qual params body scope dV kV doc pm an cdv ct) ps sp := by
  refine ⟨len, fun A outer s H args us vs Q E hr e0 hb r hsp => ?_⟩
  have hl := len _ _ _ _ hsp
  have KX : K.In s.heap := e0.mod.kin.keeps fun b o e => (e0.bs b o e).1
  have lim : s.heap.NoLimit := e0.mod.nolimit.keeps fun b o e => (e0.bs b o e).1
  have hkind : ∀ y ∈ ps.zip us, scope.names.lookup y.1 = some .local ∨ (scope.names.lookup y.1 = some .cell ∧ ((cellsFrom (s.heap.objs.size + 1) scope.names []).lookup y.1).isSome = true) := fun ⟨n, v⟩ hy => by
    rcases S.par n (List.of_mem_zip hy).1 with q | q
    · exact .inl q
    · exact .inr ⟨q, PySem.W.cellsFrom_some _ _ _ (.inl q)⟩
  refine codeAny_call_function hr.depth (KX _ _ lk) rfl S.co S.gen rfl (PySem.W.codeRec_of KX hcd) (hb _ _ _ _ ?_)
  refine wpAny_newFunctionEnv_cells S.kind hkind fun env he s1 x => ?_
  subst he
  refine ⟨lim.keeps x.toInCall.keep, codeAny_func ?_⟩
  obtain ⟨t, ht, hq⟩ := hbody A outer s H vs Q E (hr.deeper _) hsp
  have I : Inv (cxOf CX P w K mg base N qual scope f cdv A outer s H E) [] (start N vs) H s1 := inv_start S hr.hd e0 hl r x
  refine wpAny_mono (ht [] s1 (start N vs) H _ I hq) (fun fl s' hs => ?_) fun e s' hs => hs
  have fin : ∀ {σ' : St} {H' : Hp} {v : V} {u : Value}, Inv (cxOf CX P w K mg base N qual scope f cdv A outer s H E) [] σ' H' s' → RelV v u → Q v H' → CE outer P w H s Q u s' :=
    fun {σ' H' v u} J rv q => ⟨v, H', J.os, J.bare, J.base, J.hok, rv, q⟩
  cases fl with
  | ret u =>
    obtain ⟨v, σ', H', J, rv, q⟩ := hs
    exact fin J rv q
  | next =>
    obtain ⟨σ', H', J, q⟩ := hs
    exact fin (v := V.non) (u := Value.none) J rfl q
  | brk =>
    obtain ⟨_, _, _, q⟩ := hs
    exact False.elim q
  | cont =>
    obtain ⟨_, _, _, q⟩ := hs
    exact False.elim q
end L2
namespace L2
open PySem PySem.Spec PyProof.Rows
section
variable {X : Cx} {x : Str} {p pos : Pos} {e : Expr} {es : List Expr} {t : TA} {id T : String} {r : List V → Hp → VK → Prop}
def tCB (r : List V → Hp → VK → Prop) (t : TA) : TE := fun σ H Q => t σ H fun vs H1 => r vs H1 Q
theorem pe_callB (hc : CallR X (.builtin id) r) (hg : Gl X x) (hm : X.mg x = none) (hv : bootBuiltins x = some (.builtin id)) (ha : PA X (e :: es) t) (hn : x ≠ "__name__" := by decide) (hdb : (x == ("__debug__" : Str)) = false := by decide)
    (he : starEach (e :: es) X.env = (false, eval e X.env) :: starEach es X.env := by rfl) (hpl : (backTo pos (starEach es X.env)).any (·.1) = false := by rfl) : PE X (.Call (.Name x p) (e :: es) [] pos) (tCB r t) := by
  intro pins s σ H Q I h
  refine wpAny_Call_Name_kw (ld_blt I hg hm hv ?_ hn hdb)
  exact PyProof.Rows.callWith_builtin1 (thn (ha pos pins s σ H _ I h) fun us s1 ⟨vs, H1, I1, r1, q1⟩ => hc pins s1 σ H1 vs us Q I1 r1 q1) he hpl
theorem pe_callTy (hc : CallR X (.type T) r) (hg : Gl X x) (hm : X.mg x = none) (hv : bootBuiltins x = some (.type T)) (ha : PA X (e :: es) t) (hn : x ≠ "__name__" := by decide) (hdb : (x == ("__debug__" : Str)) = false := by decide)
    (he : starEach (e :: es) X.env = (false, eval e X.env) :: starEach es X.env := by rfl) (hpl : (backTo pos (starEach es X.env)).any (·.1) = false := by rfl) : PE X (.Call (.Name x p) (e :: es) [] pos) (tCB r t) := by
  intro pins s σ H Q I h
  refine wpAny_Call_Name_kw (ld_blt I hg hm hv ?_ hn hdb)
  exact PyProof.Rows.callWith_type1 (thn (ha pos pins s σ H _ I h) fun us s1 ⟨vs, H1, I1, r1, q1⟩ => hc pins s1 σ H1 vs us Q I1 r1 q1) he hpl
end
end L2
namespace HT
open PySem PyProof.Rows
def lexLt : List Int → List Int → Bool
  | [], [] => false
  | [], _ :: _ => true
  | _ :: _, [] => false
  | x :: xs, y :: ys => if x = y then lexLt xs ys else decide (x < y)
theorem lexLt_cons (x y : Int) (xs ys : List Int) : lexLt (x :: xs) (y :: ys) = if x = y then lexLt xs ys else decide (x < y) := rfl
section
open PySem.SeqAt
open PySem.AutoSeq1 (wpAny_loadPart')
open PySem.MeetsSeq PySem.MeetsSeq2 PySem.MeetsSeq3
end
section
variable {prog : Program} {w : World} {A : Around} {E : Value → Shared → Prop} {s : Shared}
theorem cat_tup {t b : Addr} {vs ws : List Value} {Q : Value → Shared → Prop} (ht : IsTup s.heap t vs.toArray) (hb : IsTup s.heap b ws.toArray) (hv : vs ≠ [])
    (h1 : ws = [] → Q (.ref t) s) (h2 : ws ≠ [] → Q (.ref s.heap.objs.size) { s with heap := s.heap.push { cls := .type "tuple", data := .seq (vs ++ ws).toArray } })
    (hsz : vs.length + ws.length ≤ sizeLine) : wpAny (model prog w) A (binaryOp .Add (.ref t) (.ref b)) Q E s := by
  obtain ⟨⟨cls, dd, data, sl⟩, ho, hc, n, hd⟩ := id ht
  obtain ⟨⟨cls2, dd2, data2, sl2⟩, ho2, hc2, n2, hd2⟩ := id hb
  simp only at hc hd hc2 hd2
  subst hc hd hc2 hd2
  have e : vs.toArray ++ ws.toArray = (vs ++ ws).toArray := by simp
  by_cases hw : ws = []
  · exact concat_meets ⟨_, ho, rfl⟩ ⟨_, ho2, rfl⟩ noFill_tuple_add seq_tuple_add PySem.F.slot_tuple_add PySem.F.entry_tuple_add (PySem.F.args_tuple_add_2 _ _)
      (tuple_addW1 t b vs.toArray ws.toArray n n2 dd dd2 sl sl2 (by simpa using hv) (by simp [hw])) ⟨ho, ho2, h1 hw⟩
  · refine concat_meets ⟨_, ho, rfl⟩ ⟨_, ho2, rfl⟩ noFill_tuple_add seq_tuple_add PySem.F.slot_tuple_add PySem.F.entry_tuple_add (PySem.F.args_tuple_add_2 _ _)
      (tuple_addW2 t b vs.toArray ws.toArray n n2 dd dd2 sl sl2 (by simpa using hv) (by simpa using hw) (by rw [List.size_toArray, List.size_toArray]; exact hsz)) ⟨ho, ho2, ?_⟩
    rw [e]
    exact h2 hw
def sIx (n d : Nat) : Option Int → Nat
  | none => d
  | some v => if v < 0 then (v + (n : Int)).toNat else min v.toNat n
theorem sIx_none (n d : Nat) : sIx n d none = d := rfl
theorem sIx_nat (n d k : Nat) : sIx n d (some (k : Int)) = min k n := by
  show (if (k : Int) < 0 then ((k : Int) + (n : Int)).toNat else min (k : Int).toNat n) = min k n
  rw [if_neg (by omega), Int.toNat_natCast]
end
end HT
namespace L2
open PySem PySem.Spec PyProof.Rows
abbrev TO := St → Hp → (Option Int → Hp → Prop) → Prop
def PO (X : Cx) (e : Option Expr) (t : TO) : Prop :=
  ∀ (pins : List (Addr × Obj)) (s : Shared) (σ : St) (H : Hp) (Q : Option Int → Hp → Prop), Inv X pins σ H s → t σ H Q →
    wpAny (model X.prog X.w) X.A (evalPart e X.env) (fun u s' => ∃ o H', Inv X pins σ H' s' ∧ IsPart u o ∧ Q o H') X.xe s
def tNoPart : TO := fun _ H Q => Q none H
def tPart (t : TE) : TO := fun σ H Q => t σ H fun x H1 => ∃ i, x = .int i ∧ Q (some i) H1
theorem intsAre_of {ns : List Int} : ∀ {us : List Value}, Vals (ns.map V.int) us → IntsAre us ns := by
  induction ns with
  | nil => intro us r; rw [List.map_nil] at r; cases r; exact .nil
  | cons n ns ih =>
    intro us r
    rw [List.map_cons] at r
    cases r with
    | cons r1 r2 =>
      obtain ⟨t, e⟩ := r1
      subst e
      exact .cons n t (ih r2)
section
variable {X : Cx} {e : Expr} {te : TE} {lo hi : Option Expr} {tl th : TO} {pos p2 : Pos}
theorem po_none : PO X none tNoPart := by
  intro pins s σ H Q I h
  rw [evalPart_none]
  exact wpAny_pure ⟨none, H, I, .none, h⟩
theorem po_some (h : PE X e te) : PO X (some e) (tPart te) := by
  intro pins s σ H Q I hw
  rw [evalPart_some]
  refine thn (h pins s σ H _ I hw) fun u s1 ⟨x, H1, I1, r1, q1⟩ => ?_
  obtain ⟨i, rfl, q⟩ := q1
  obtain ⟨t, rfl⟩ := r1
  exact ⟨some i, H1, I1, .int i t, q⟩
def SlR (X : Cx) (r : V → Option Int → Option Int → Hp → VK → Prop) : Prop :=
  ∀ (pins : List (Addr × Obj)) (s : Shared) (σ : St) (H : Hp) (x : V) (v vl vu : Value) (lo hi : Option Int) (sl : Addr) (Q : VK), Inv X pins σ H s → RelV x v → s.heap.IsSliceOf sl vl vu .none → IsPart vl lo → IsPart vu hi → r x lo hi H Q →
    ∃ T id, typeLookup (.type T) "__getitem__" = pure (some (.builtin id)) ∧ s.TypeIs v T ∧ wpAny (model X.prog X.w) X.A (getItem v (.ref sl)) (EP X pins σ Q) X.xe s
def tSl (r : V → Option Int → Option Int → Hp → VK → Prop) (te : TE) (tl th : TO) : TE := fun σ H Q => te σ H fun x H1 => tl σ H1 fun l H2 => th σ H2 fun u H3 => r x l u H3 Q
theorem pe_slice {r : V → Option Int → Option Int → Hp → VK → Prop} (hr : SlR X r) (he : PE X e te) (hl : PO X lo tl) (hu : PO X hi th) : PE X (.Subscript e (.Slice lo hi none p2) pos) (tSl r te tl th) := by
  intro pins s σ H Q I h
  refine Subscript_ (thn (he pins s σ H _ I h) fun v s1 ⟨x, H1, I1, r1, q1⟩ => ?_)
  refine wpAny_Slice (thn (hl pins s1 σ H1 _ I1 q1) fun vl s2 ⟨l, H2, I2, pl, q2⟩ => thn (hu pins s2 σ H2 _ I2 q2) fun vu s3 ⟨u, H3, I3, pu, q3⟩ => ?_)
  rw [evalPart_none]
  refine wpAny_pure ?_
  have I4 : Inv X pins σ H3 { s3 with heap := s3.heap.push { cls := .type "slice", data := .fields #[vl, vu, .none] } } := I3.kept (t' := s3.toks) fun b ob q => Heap.get?_push_of_some _ q
  obtain ⟨T, id, hT, ht, hg⟩ := hr pins { s3 with heap := s3.heap.push { cls := .type "slice", data := .fields #[vl, vu, .none] } } σ H3 x v vl vu l u s3.heap.objs.size Q I4 r1 (Heap.IsSliceOf.new ..) pl pu q3
  show wpAny (model X.prog X.w) X.A (subscriptTail e (.Slice lo hi none p2) v (.ref s3.heap.objs.size)) (EP X pins σ Q) X.xe { s3 with heap := s3.heap.push { cls := .type "slice", data := .fields #[vl, vu, .none] } }
  exact tail_any (ops := [.ref s3.heap.objs.size, v]) ht hT hg (by with_unfolding_all rfl)
def cutV (xs : List V) (lo hi : Option Int) : List V := (xs.drop (HT.sIx xs.length 0 lo)).take (HT.sIx xs.length xs.length hi - HT.sIx xs.length 0 lo)
theorem cutV_length (xs : List V) (lo hi : Option Int) : (cutV xs lo hi).length ≤ xs.length := by
  unfold cutV
  rw [List.length_take, List.length_drop]
  omega
def rCatT (K : PySem.W.Frag) : R2 := fun x y H Q => ∃ a b xs ys, x = .ref a ∧ y = .ref b ∧ SqT K H a xs ∧ SqT K H b ys ∧ xs ≠ [] ∧ xs.length + ys.length ≤ sizeLine ∧
  (ys = [] → Q (.ref a) H) ∧ (ys ≠ [] → ∀ p, H p = none → Q (.ref p) (upd H p (.tup (xs ++ ys))))
theorem Vals.nil_iff {xs : List V} {us : List Value} (r : Vals xs us) : us = [] ↔ xs = [] := by
  cases r with
  | nil => simp
  | cons _ _ => simp
theorem op_catT : OpR X (binaryOp .Add) (rCatT X.K) := by
  intro pins s σ H x y v u Q I rx ry h
  obtain ⟨a, b, xs, ys, rfl, rfl, ha, hb, hx, hz, q1, q2⟩ := h
  cases rx
  cases ry
  obtain ⟨its, r1, p1, _⟩ := I.tuple ha
  obtain ⟨its2, r2, p2, _⟩ := I.tuple hb
  refine HT.cat_tup p1 p2 (fun z => hx (r1.nil_iff.mp z)) (fun z => ⟨.ref a, H, I, rfl, q1 (r2.nil_iff.mp z)⟩) (fun z => ?_) (by rw [← r1.length, ← r2.length]; exact hz)
  refine ⟨.ref s.heap.objs.size, _, I.laid (t' := s.toks) (o := .tup (xs ++ ys)) (fun b ob q => Heap.get?_push_of_some _ q) (Nat.le_refl _) ?_, rfl, q2 (fun w => z (r2.nil_iff.mpr w)) _ (I.hok.fresh (Nat.le_refl _))⟩
  exact ⟨by rw [List.length_append]; exact hz, _, r1.append r2, IsTup.new _ _⟩
end
end L2
namespace L2
open PySem PySem.Spec PyProof.Rows
def ixN (n : Nat) (i : Int) : Option Nat := if 0 ≤ i then (if i < n then some i.toNat else none) else if -(n : Int) ≤ i then some (i + n).toNat else none
def atI {α : Type} (xs : List α) (i : Int) : Option α := (ixN xs.length i).bind fun j => xs[j]?
theorem ixN_seq {n : Nat} {i : Int} {j : Nat} (h : ixN n i = some j) : seqIndex? i n = some j ∧ j < n ∧ -(n : Int) ≤ i ∧ i < n := by
  unfold ixN at h
  by_cases h0 : 0 ≤ i
  · rw [if_pos h0] at h
    by_cases h1 : i < n
    · rw [if_pos h1] at h
      have e : i.toNat = j := Option.some.inj h
      exact ⟨by rw [seqIndex_of h0 h1, e], by omega, by omega, h1⟩
    · rw [if_neg h1] at h; cases h
  · rw [if_neg h0] at h
    by_cases h1 : -(n : Int) ≤ i
    · rw [if_pos h1] at h
      have e : (i + n).toNat = j := Option.some.inj h
      exact ⟨by rw [seqIndex_neg (by omega) h1, e], by omega, h1, by omega⟩
    · rw [if_neg h1] at h; cases h
theorem atI_get {α : Type} {xs : List α} {i : Int} {v : α} (h : atI xs i = some v) : ∃ j, seqIndex? i xs.length = some j ∧ xs[j]? = some v ∧ j < xs.length ∧ -(xs.length : Int) ≤ i ∧ i < xs.length := by
  unfold atI at h
  cases e : ixN xs.length i with
  | none => rw [e] at h; cases h
  | some j =>
    rw [e] at h
    obtain ⟨h1, h2, h3, h4⟩ := ixN_seq e
    exact ⟨j, h1, h, h2, h3, h4⟩
theorem atI_nat {α : Type} {xs : List α} {j : Nat} {v : α} (h : xs[j]? = some v) : atI xs (j : Int) = some v := by
  have hj : j < xs.length := (List.getElem?_eq_some_iff.mp h).1
  have e : ixN xs.length (j : Int) = some j := by
    unfold ixN
    rw [if_pos (by omega), if_pos (by omega)]; simp
  unfold atI; rw [e]; exact h
def PlainIx (b : Expr) : Prop := ∀ o i, subscripted b false o i = operate [o, i] (getItem o i)
def IxR (X : Cx) (r : R2) : Prop :=
  ∀ (value slice : Expr) (pins : List (Addr × Obj)) (s : Shared) (σ : St) (H : Hp) (x y : V) (v u : Value) (Q : VK), Inv X pins σ H s → RelV x v → RelV y u → r x y H Q →
    subscripted slice false v u = operate [v, u] (getItem v u) → wpAny (model X.prog X.w) X.A (subscriptTail value slice v u) (EP X pins σ Q) X.xe s
def MtR (X : Cx) (id : String) (r : V → List V → Hp → VK → Prop) : Prop :=
  ∀ (pins : List (Addr × Obj)) (s : Shared) (σ : St) (H : Hp) (x : V) (xs : List V) (v : Value) (us : List Value) (Q : VK), Inv X pins σ H s → RelV x v → Vals xs us → r x xs H Q →
    wpAny (model X.prog X.w) X.A (call (.builtin id) (v :: us)) (EP X pins σ Q) X.xe s
section
variable {X : Cx} {a b : Expr} {ta tb : TE} {pos : Pos}
theorem pe_ix {r : R2} (hr : IxR X r) (ha : PE X a ta) (hb : PE X b tb) (hs : PlainIx b) : PE X (.Subscript a b pos) (tOp r ta tb) := by
  intro pins s σ H Q I h
  exact Subscript_ (binT ha hb I h fun v u s2 x y H2 I2 rx ry q => hr a b pins s2 σ H2 x y v u Q I2 rx ry q (hs _ _))
def rIxL (K : PySem.W.Frag) : R2 := fun x y H Q => ∃ p xs i v, x = .ref p ∧ y = .int i ∧ SqL K H p xs ∧ atI xs i = some v ∧ Q v H
def rIxT (K : PySem.W.Frag) : R2 := fun x y H Q => ∃ p xs i v, x = .ref p ∧ y = .int i ∧ SqT K H p xs ∧ atI xs i = some v ∧ Q v H
theorem ix_list : IxR X (rIxL X.K) := by
  intro value slice pins s σ H x y v u Q I rx ry h hs
  obtain ⟨p, xs, i, z, rfl, rfl, hq, he, q⟩ := h
  cases rx
  obtain ⟨t, rfl⟩ := ry
  obtain ⟨its, r, pl, hz⟩ := I.list hq
  obtain ⟨j, h1, h2, h3, h4, h5⟩ := atI_get he
  obtain ⟨w, ew, rw'⟩ := r.get h2
  have hl := r.length
  have hn := line63
  have fin : EP X pins σ Q w s := ⟨z, H, I, rw', q⟩
  by_cases h0 : 0 ≤ i
  · have hj : i.toNat = j := by
      rw [seqIndex_of h0 h5] at h1
      exact Option.some.inj h1
    exact item_listR pl.isList h0 (by omega) (by rw [hj]; simpa using ew) fin hs
  · have hj : (i + (its.toArray.size : Int)).toNat = j := by
      rw [seqIndex_neg (by omega) h4] at h1
      rw [List.size_toArray, ← hl]
      exact Option.some.inj h1
    exact subscriptTail_builtinR (x := w) pl.isList.typeIs slot_list_getitem.lookup
      (wpAny_getItem_list_neg (Q := fun r s' => r = w ∧ EP X pins σ Q r s') pl.isList (by omega) (by rw [List.size_toArray] <;> omega) (by omega) (by rw [hj]; simpa using ew) ⟨rfl, fin⟩) hs
theorem ix_tup : IxR X (rIxT X.K) := by
  intro value slice pins s σ H x y v u Q I rx ry h hs
  obtain ⟨p, xs, i, z, rfl, rfl, hq, he, q⟩ := h
  cases rx
  obtain ⟨t, rfl⟩ := ry
  obtain ⟨its, r, pl, hz⟩ := I.tuple hq
  obtain ⟨j, h1, h2, h3, h4, h5⟩ := atI_get he
  obtain ⟨w, ew, rw'⟩ := r.get h2
  have hl := r.length
  have hn := line63
  have fin : EP X pins σ Q w s := ⟨z, H, I, rw', q⟩
  exact subscriptTail_builtinR (x := w) pl.typeIs slot_tuple_getitem.lookup
    (getItem_tuple (j := j) (Q := fun r s' => r = w ∧ EP X pins σ Q r s') pl (by omega) (by omega) (by rw [List.size_toArray, ← hl]; exact h1) (by simpa using ew) ⟨rfl, fin⟩) hs
theorem slice_bounds (lo hi : Option Int) (n : Nat) : (sliceBounds lo hi none n).1 = ((HT.sIx n 0 lo : Nat) : Int) ∧ (sliceBounds lo hi none n).2.1 = ((HT.sIx n n hi : Nat) : Int) ∧ (sliceBounds lo hi none n).2.2 = 1 := by
  refine ⟨?_, ?_, rfl⟩
  · cases lo with
    | none => simp [sliceBounds, HT.sIx]
    | some i =>
      simp only [sliceBounds, HT.sIx, Option.getD_none, show (1 : Int) > 0 by decide, if_true]
      by_cases h : i < 0
      · simp only [h, if_true] <;> omega
      · simp only [h, if_false] <;> omega
  · cases hi with
    | none => simp [sliceBounds, HT.sIx]
    | some i =>
      simp only [sliceBounds, HT.sIx, Option.getD_none, show (1 : Int) > 0 by decide, if_true]
      by_cases h : i < 0
      · simp only [h, if_true] <;> omega
      · simp only [h, if_false] <;> omega
theorem slicePick_cut (its : List Value) (lo hi : Option Int) : slicePick its.toArray lo hi none = ((its.drop (HT.sIx its.length 0 lo)).take (HT.sIx its.length its.length hi - HT.sIx its.length 0 lo)).toArray := by
  obtain ⟨h1, h2, h3⟩ := slice_bounds lo hi its.toArray.size
  unfold slicePick
  rw [h1, h2, h3]
  simp only [sliceRange_one, pick_run, List.size_toArray] <;> rfl
def rSlL (K : PySem.W.Frag) : V → Option Int → Option Int → Hp → VK → Prop := fun x lo hi H Q => ∃ a xs, x = .ref a ∧ SqL K H a xs ∧ ∀ p, H p = none → Q (.ref p) (upd H p (.lst (cutV xs lo hi)))
theorem sl_list : SlR X (rSlL X.K) := by
  intro pins s σ H x v vl vu lo hi sl Q I rx hs pl pu h
  obtain ⟨a, xs, rfl, hx, q⟩ := h
  cases rx
  obtain ⟨its, r, ht, hz⟩ := I.list hx
  have hlen := r.length
  refine ⟨"list", _, slot_list_getitem.lookup, ht.isList.typeIs, ?_⟩
  refine wpAny_getItem_list_slice ht.isList hs pl pu .none (by simp) ?_ (by rw [List.size_toArray] <;> omega)
  rw [slicePick_cut, ← hlen]
  refine ⟨.ref s.heap.objs.size, _, I.laid (t' := s.toks) (o := .lst (cutV xs lo hi)) (fun b ob q => Heap.get?_push_of_some _ q) (Nat.le_refl _) ?_, rfl, q _ (I.hok.fresh (Nat.le_refl _))⟩
  exact ⟨Nat.le_trans (cutV_length xs lo hi) hz, _, 0, (r.drop (HT.sIx xs.length 0 lo)).take (HT.sIx xs.length xs.length hi - HT.sIx xs.length 0 lo), Heap.get?_push_size _ rfl⟩
def flatV : V → Bool
  | .non => true
  | .bl _ => true
  | .int _ => true
  | .str _ => true
  | _ => false
def eqV : V → V → Bool
  | .non, .non => true
  | .bl a, .bl b => a == b
  | .bl a, .int b => (if a then 1 else 0) == b
  | .int a, .bl b => a == (if b then 1 else 0)
  | .int a, .int b => a == b
  | .str a, .str b => a == b
  | _, _ => false
theorem eqAt_V {A : Around} {s : Shared} {y x : V} {u v : Value} (ry : RelV y u) (rx : RelV x v) (fy : flatV y = true) (fx : flatV x = true) : SeqAt.EqAt A s u v (eqV y x) := by
  cases y with
  | non =>
    cases ry
    cases x with
    | non => cases rx; exact SeqAt.EqAt.same _
    | bl b => cases rx; exact SeqAt.EqAt.none_bool b
    | int b => obtain ⟨t, rfl⟩ := rx; exact SeqAt.EqAt.none_int b t
    | str b => obtain ⟨t, rfl⟩ := rx; exact SeqAt.EqAt.none_str b t
    | _ => exact absurd (show false = true from fx) Bool.false_ne_true
  | bl a =>
    cases ry
    cases x with
    | non => cases rx; exact SeqAt.EqAt.bool_none a
    | bl b => cases rx; exact SeqAt.EqAt.bool_bool a b
    | int b => obtain ⟨t, rfl⟩ := rx; exact SeqAt.EqAt.bool_int a b t
    | str b => obtain ⟨t, rfl⟩ := rx; exact SeqAt.EqAt.bool_str a b t
    | _ => exact absurd (show false = true from fx) Bool.false_ne_true
  | int a =>
    obtain ⟨t', rfl⟩ := ry
    cases x with
    | non => cases rx; exact SeqAt.EqAt.int_none a t'
    | bl b => cases rx; exact SeqAt.EqAt.int_bool a t' b
    | int b => obtain ⟨t, rfl⟩ := rx; exact SeqAt.EqAt.int_int a t' b t
    | str b => obtain ⟨t, rfl⟩ := rx; exact SeqAt.EqAt.int_str a t' b t
    | _ => exact absurd (show false = true from fx) Bool.false_ne_true
  | str a =>
    obtain ⟨t', rfl⟩ := ry
    cases x with
    | non => cases rx; exact SeqAt.EqAt.str_none a t'
    | bl b => cases rx; exact SeqAt.EqAt.str_bool a t' b
    | int b => obtain ⟨t, rfl⟩ := rx; exact SeqAt.EqAt.str_int a t' b t
    | str b => obtain ⟨t, rfl⟩ := rx; exact SeqAt.EqAt.str_str a t' b t
    | _ => exact absurd (show false = true from fx) Bool.false_ne_true
  | _ => exact absurd (show false = true from fy) Bool.false_ne_true
def eqU (x : V) (u : Value) : Bool := match u with
  | .none => eqV .non x
  | .bool b => eqV (.bl b) x
  | .int i _ => eqV (.int i) x
  | .str z _ => eqV (.str z) x
  | _ => false
theorem eqU_of {x y : V} {u : Value} (r : RelV y u) (f : flatV y = true) : eqU x u = eqV y x := by
  cases y with
  | non => cases r; rfl
  | bl b => cases r; rfl
  | int i => obtain ⟨t, rfl⟩ := r; rfl
  | str z => obtain ⟨t, rfl⟩ := r; rfl
  | _ => exact absurd (show false = true from f) Bool.false_ne_true
theorem any_eqU {x : V} : ∀ {xs : List V} {us : List Value}, Vals xs us → xs.all flatV = true → us.any (eqU x) = xs.any fun y => eqV y x
  | _, _, .nil, _ => rfl
  | y :: xs, u :: us, .cons r t, f => by
    rw [List.all_cons, Bool.and_eq_true] at f
    rw [List.any_cons, List.any_cons, eqU_of r f.1, any_eqU t f.2]
theorem mem_eqAt {A : Around} {s : Shared} {x : V} {v : Value} (rx : RelV x v) (fx : flatV x = true) : ∀ {xs : List V} {us : List Value}, Vals xs us → xs.all flatV = true → ∀ u ∈ us, SeqAt.EqAt A s u v (eqU x u)
  | _, _, .nil, _ => fun u hu => by cases hu
  | y :: xs, u :: us, .cons r t, f => fun u' hu => by
    rw [List.all_cons, Bool.and_eq_true] at f
    rcases List.mem_cons.mp hu with rfl | hu
    · rw [eqU_of r f.1]; exact eqAt_V r rx f.1 fx
    · exact mem_eqAt rx fx t f.2 u' hu
def inV (x : V) (xs : List V) : Bool := xs.any fun y => eqV y x
def rIn (K : PySem.W.Frag) (neg : Bool) : R2 := fun x y H Q => ∃ p xs, y = .ref p ∧ (SqL K H p xs ∨ SqT K H p xs) ∧ flatV x = true ∧ xs.all flatV = true ∧ Q (.bl (if neg then !inV x xs else inV x xs)) H
theorem op_in_seq : OpR X (compareOp .In) (rIn X.K false) := by
  intro pins s σ H x y v u Q I rx ry h
  obtain ⟨p, xs, rfl, hq, fx, fs, q⟩ := h
  cases ry
  rcases hq with hq | hq
  · obtain ⟨its, r, pl, hz⟩ := I.list hq
    refine SeqAt.in_listAt (eqU x) pl.isList (fun w hw => mem_eqAt rx fx r fs w (by simpa using hw)) ⟨.bl _, H, I, rfl, ?_⟩
    rw [show its.toArray.any (eqU x) = its.any (eqU x) by simp, any_eqU r fs]
    exact q
  · obtain ⟨its, r, pl, hz⟩ := I.tuple hq
    refine SeqAt.in_tupleAt (eqU x) pl (fun w hw => mem_eqAt rx fx r fs w (by simpa using hw)) ⟨.bl _, H, I, rfl, ?_⟩
    rw [show its.toArray.any (eqU x) = its.any (eqU x) by simp, any_eqU r fs]
    exact q
theorem op_notIn_seq : OpR X (compareOp .NotIn) (rIn X.K true) := by
  intro pins s σ H x y v u Q I rx ry h
  obtain ⟨p, xs, rfl, hq, fx, fs, q⟩ := h
  cases ry
  rcases hq with hq | hq
  · obtain ⟨its, r, pl, hz⟩ := I.list hq
    refine SeqAt.notIn_listAt (eqU x) pl.isList (fun w hw => mem_eqAt rx fx r fs w (by simpa using hw)) ⟨.bl _, H, I, rfl, ?_⟩
    rw [show its.toArray.any (eqU x) = its.any (eqU x) by simp, any_eqU r fs]
    exact q
  · obtain ⟨its, r, pl, hz⟩ := I.tuple hq
    refine SeqAt.notIn_tupleAt (eqU x) pl (fun w hw => mem_eqAt rx fx r fs w (by simpa using hw)) ⟨.bl _, H, I, rfl, ?_⟩
    rw [show its.toArray.any (eqU x) = its.any (eqU x) by simp, any_eqU r fs]
    exact q
theorem call_len_seq : CallR X (.builtin "len") (fun xs H Q => ∃ p ys, xs = [.ref p] ∧ (SqL X.K H p ys ∨ SqT X.K H p ys) ∧ Q (.int ys.length) H) := by
  intro pins s σ H xs us Q I r h
  obtain ⟨p, ys, rfl, hq, q⟩ := h
  obtain ⟨u, rfl, rx⟩ := vals1 r
  cases rx
  have hn := line63
  rcases hq with hq | hq
  · obtain ⟨its, r', pl, hz⟩ := I.list hq
    have hlen := r'.length
    exact Calls.call_len_list pl.isList (by simp only [List.size_toArray] <;> omega) ⟨.int ys.length, H, I.tok _, ⟨s.toks + 1, by rw [List.size_toArray, hlen]⟩, q⟩
  · obtain ⟨its, r', pl, hz⟩ := I.tuple hq
    have hlen := r'.length
    exact len_tuple pl (by simp only [List.size_toArray] <;> omega) ⟨.int ys.length, H, I.tok _, ⟨s.toks + 1, by rw [List.size_toArray, hlen]⟩, q⟩
theorem call_list_of : CallR X (.type "list") (fun xs H Q => ∃ p ys, xs = [.ref p] ∧ (SqL X.K H p ys ∨ SqT X.K H p ys) ∧ ∀ l, H l = none → Q (.ref l) (upd H l (.lst ys))) := by
  intro pins s σ H xs us Q I r h
  obtain ⟨p, ys, rfl, hq, q⟩ := h
  obtain ⟨u, rfl, rx⟩ := vals1 r
  cases rx
  have fin : ∀ (its : List Value), Vals ys its → ys.length ≤ sizeLine → ∀ (h' : Heap) (c' : Nat), (∀ b o', s.heap.get? b = some o' → h'.get? b = some o') →
      h'.get? s.heap.objs.size = some { cls := .type "list", dict := none, data := .seq its.toArray c', slots := #[] } → EP X pins σ Q (.ref s.heap.objs.size) { s with heap := h' } := fun its r' hz h' c' kp e =>
    ⟨.ref s.heap.objs.size, _, I.laid (t' := s.toks) kp (Nat.le_refl _) (show ObjOk X.prog X.w _ h' _ (.lst ys) from ⟨hz, its, c', r', e⟩), rfl, q _ (I.hok.fresh (Nat.le_refl _))⟩
  rcases hq with hq | hq
  · obtain ⟨its, r', pl, hz⟩ := I.list hq
    have hlen := r'.length
    obtain ⟨o, ho, hc, n, hd⟩ := pl.isList
    exact call_list_seq p (.inl rfl) ho hc hd (fun h' c' kp e => fin its r' hz h' c' kp e) (by simp only [List.size_toArray] <;> omega)
  · obtain ⟨its, r', pl, hz⟩ := I.tuple hq
    have hlen := r'.length
    obtain ⟨o, ho, hc, n, hd⟩ := pl
    exact call_list_seq p (.inr rfl) ho hc hd (fun h' c' kp e => fin its r' hz h' c' kp e) (by simp only [List.size_toArray] <;> omega)
theorem call_tuple_of : CallR X (.type "tuple") (fun xs H Q => ∃ p ys, xs = [.ref p] ∧ ((SqL X.K H p ys ∧ ∀ l, H l = none → Q (.ref l) (upd H l (.tup ys))) ∨ (SqT X.K H p ys ∧ Q (.ref p) H))) := by
  intro pins s σ H xs us Q I r h
  obtain ⟨p, ys, rfl, h⟩ := h
  obtain ⟨u, rfl, rx⟩ := vals1 r
  cases rx
  rcases h with ⟨hq, q⟩ | ⟨hq, q⟩
  · obtain ⟨its, r', pl, hz⟩ := I.list hq
    have hlen := r'.length
    refine call_tuple_list pl.isList (fun h' kp => ?_) (by simp only [List.size_toArray] <;> omega)
    have I1 : Inv X pins σ H { s with heap := h' } := I.kept (t' := s.toks) kp
    have I2 : Inv X pins σ (upd H h'.objs.size (.tup ys)) { s with heap := h'.push { cls := .type "tuple", data := .seq its.toArray } } :=
      I1.laid (t' := s.toks) (fun b o e => Heap.get?_push_of_some _ e) (Nat.le_refl _) (show ObjOk X.prog X.w _ _ _ (.tup ys) from ⟨hz, its, r', IsTup.new _ _⟩)
    exact ⟨.ref h'.objs.size, _, I2, rfl, q _ (I1.hok.fresh (Nat.le_refl _))⟩
  · obtain ⟨its, r', pl, hz⟩ := I.tuple hq
    exact call_tuple_same pl ⟨.ref p, H, I, rfl, q⟩
def tyV (K : PySem.W.Frag) (T : String) (x : V) (H : Hp) : Prop := match x with
  | .str _ => T = "str"
  | .int _ => T = "int"
  | .ref p => (T = "list" ∧ ∃ xs, SqL K H p xs) ∨ (T = "tuple" ∧ ∃ o, K.lookup p = some o ∧ o.cls = .type "tuple" ∧ o.dict = none) ∨
      (T = "dict" ∧ ((∃ kvs, H p = some (.dK kvs)) ∨ ∃ kvs, H p = some (.dT kvs))) ∨ (T = "set" ∧ ∃ S n, H p = some (.set S n))
  | _ => False
theorem tyV_is {pins : List (Addr × Obj)} {σ : St} {H : Hp} {s : Shared} {T : String} {x : V} {v : Value} (I : Inv X pins σ H s) (r : RelV x v) (ty : tyV X.K T x H) :
    s.TypeIs v T ∧ ∀ a, v = .ref a → ∃ ob, s.heap.get? a = some ob ∧ ob.dict = none := by
  cases x with
  | str z =>
    obtain ⟨t, rfl⟩ := r
    cases (show T = "str" from ty)
    exact ⟨typeIs_str s z t, fun _ e => nomatch e⟩
  | int i =>
    obtain ⟨t, rfl⟩ := r
    cases (show T = "int" from ty)
    exact ⟨typeIs_int s i t, fun _ e => nomatch e⟩
  | ref p =>
    cases r
    rcases ty with ⟨rfl, xs, hq⟩ | ⟨rfl, o, hk, hc, hd⟩ | ⟨rfl, hk⟩ | ⟨rfl, S, n, hk⟩
    · obtain ⟨its, _, pl, _⟩ := I.list hq
      refine ⟨pl.isList.typeIs, fun a e => ?_⟩
      cases e
      obtain ⟨o, n, e, c, hd, _⟩ := pl
      exact ⟨o, e, hd⟩
    · refine ⟨⟨o, I.kIn p o hk, hc⟩, fun a e => ?_⟩
      cases e
      exact ⟨o, I.kIn _ o hk, hd⟩
    · have z : ∃ o, s.heap.get? p = some o ∧ o.ExactDict := by
        rcases hk with ⟨kvs, hk⟩ | ⟨kvs, hk⟩
        · obtain ⟨_, _, _, _, o, _, _, e, ex, _⟩ := I.hok p _ hk
          exact ⟨o, e, ex⟩
        · obtain ⟨_, _, _, _, o, _, _, e, ex, _⟩ := I.hok p _ hk
          exact ⟨o, e, ex⟩
      obtain ⟨o, e, ex⟩ := z
      refine ⟨⟨o, e, ex.1⟩, fun a e2 => ?_⟩
      cases e2
      exact ⟨o, e, ex.2.1⟩
    · obtain ⟨o, _, _, _, e, ex, _⟩ := I.hok p _ hk
      refine ⟨⟨o, e, ex.1⟩, fun a e2 => ?_⟩
      cases e2
      exact ⟨o, e, ex.2.1⟩
  | _ => exact False.elim ty
def tBM (K : PySem.W.Frag) (T : String) (r : V → List V → Hp → VK → Prop) (to : TE) (t : TA) : TE := fun σ H Q => to σ H fun x H1 => tyV K T x H1 ∧ t σ H1 fun xs H2 => r x xs H2 Q
variable {o e : Expr} {es : List Expr} {to : TE} {t : TA} {name : Str} {apos cpos : Pos} {T id : String} {r : V → List V → Hp → VK → Prop}
theorem pe_bm (pa : PlainAttrs T) (slot : Slot T name id) (hty : typeOf (.builtin id) = pure (.type "method_descriptor")) (hm : MtR X id r) (ho : PE X o to) (ha : PA X (e :: es) t)
    (hbase : attributeBase o name X.env (eval o X.env) = eval o X.env := by rfl)
    (hfew : ((backTo cpos (starEach (e :: es) X.env)).all (fun x => !x.1) && (backToKw cpos (keywordEach [] X.env)).all (fun x => x.1.isSome)
      && decide ((e :: es).length + ([] : List Keyword).length + (if ([] : List Keyword).isEmpty then 0 else 1) < 30)) = true := by rfl)
    (hline : (apos.endLine == cpos.line) = true := by rfl) (hs : starEach (e :: es) X.env = (false, eval e X.env) :: starEach es X.env := by rfl) (hplain : (backTo cpos (starEach es X.env)).any (·.1) = false := by rfl) :
    PE X (.Call (.Attribute o name apos) (e :: es) [] cpos) (tBM X.K T r to t) := by
  intro pins s σ H Q I h
  refine wpAny_Call_method_late hbase hfew hline rfl (thn (ho pins s σ H _ I h) fun v s1 ⟨x, H1, I1, r1, ty, q1⟩ => ?_)
  obtain ⟨h1, h2⟩ := tyV_is I1 r1 ty
  refine ⟨T, id, pa, slot, hty, h1, h2, ?_⟩
  have hA := ha cpos pins s1 σ H1 _ I1 q1
  rw [hs] at hA ⊢
  refine Calls.callWith_builtin (by show (false || (backTo cpos (starEach es X.env)).any (·.1)) = false; rw [hplain] <;> rfl) (Calls.evalArgs_plain ?_)
  exact thn hA fun us s2 ⟨vs, H2, I2, r2, q2⟩ => hm pins s2 σ H2 x vs v us Q I2 r1 r2 q2
end
end L2
namespace L2
open PySem PySem.Spec PyProof.Rows
def MtM (X : Cx) (id : String) (r : V → List V → Hp → VK → Prop) : Prop :=
  ∀ (pins : List (Addr × Obj)) (s : Shared) (σ : St) (H : Hp) (x : V) (xs : List V) (v : Value) (us : List Value) (Q : VK), Inv X pins σ H s → RelV x v → Vals xs us → r x xs H Q →
    wpAny (model X.prog X.w) X.A (call (.builtin id) (v :: us)) (EP X pins σ Q) X.xe s
theorem Vals.one : ∀ {x : V} {us : List Value}, Vals [x] us → ∃ u, us = [u] ∧ RelV x u
  | _, _, .cons r .nil => ⟨_, rfl, r⟩
theorem Vals.two : ∀ {x y : V} {us : List Value}, Vals [x, y] us → ∃ u v, us = [u, v] ∧ RelV x u ∧ RelV y v
  | _, _, _, .cons r (.cons q .nil) => ⟨_, _, rfl, r, q⟩
theorem Vals.rep {xs : List V} {us : List Value} (h : Vals xs us) : ∀ k : Nat, Vals (List.replicate k xs).flatten (List.replicate k us).flatten
  | 0 => .nil
  | k + 1 => by
    rw [List.replicate_succ, List.replicate_succ, List.flatten_cons, List.flatten_cons]
    exact Vals.append h (Vals.rep h k)
theorem foldl_rep (its : List Value) : ∀ (k : Nat) (acc : List Value),
    List.foldl (fun x1 x2 => x1 ++ x2) acc.toArray (List.replicate k its.toArray) = (acc ++ (List.replicate k its).flatten).toArray
  | 0, acc => by simp
  | k + 1, acc => by
    have e : acc.toArray ++ its.toArray = (acc ++ its).toArray := by simp
    have e2 : (acc ++ its) ++ (List.replicate k its).flatten = acc ++ (List.replicate (k + 1) its).flatten := by
      rw [List.replicate_succ, List.flatten_cons, List.append_assoc]
    rw [← e2, ← foldl_rep its k (acc ++ its), ← e, List.replicate_succ, List.foldl_cons]
section
variable {X : Cx} {pins : List (Addr × Obj)} {σ : St} {H : Hp} {s : Shared} {l b : Addr} {xs ys zs : List V}
theorem Inv.lset {its its' : List Value} {n : Nat} {f : Array Value → Array Value} {t' : Nat} (I : Inv X pins σ H s) (hH : H l = some (.lst xs))
    (e : s.heap.get? l = some { cls := .type "list", data := .seq its.toArray n }) (hf : f its.toArray = its'.toArray) (hv : Vals ys its') (hz : ys.length ≤ sizeLine) :
    Inv X pins σ (upd H l (.lst ys)) { s with heap := s.heap.update l (Obj.mapSeq f), toks := t' } := by
  have q := PySem.IsL.update e f
  rw [hf] at q
  refine I.write (x := l) (e := l) (by rw [hH]; exact trivial) (.inl rfl) (fun b' u hb hu => (Heap.get?_update_other s.heap (Obj.mapSeq f) (Ne.symm hb)).trans hu) ⟨_, q⟩ ?_
  exact ⟨hz, its', _, hv, q⟩
theorem Inv.lstM (I : Inv X pins σ H s) (hH : H l = some (.lst xs)) : xs.length ≤ sizeLine ∧ ∃ (its : List Value) (n : Nat), Vals xs its ∧ xs.length = its.length ∧ s.heap.get? l = some { cls := .type "list", data := .seq its.toArray n } := by
  obtain ⟨z, its, n, r, e⟩ := I.hok l _ hH
  exact ⟨z, its, n, r, r.length, e⟩
end
section
variable {X : Cx}
def rAppend : V → List V → Hp → VK → Prop := fun x vs H Q => ∃ l xs y, x = .ref l ∧ vs = [y] ∧ H l = some (.lst xs) ∧ xs.length < sizeLine ∧ Q .non (upd H l (.lst (xs ++ [y])))
theorem mt_append : MtM X "list.append" rAppend := by
  intro pins s σ H x vs v us Q I rx rv h
  obtain ⟨l, xs, y, rfl, rfl, hH, hz, q⟩ := h
  cases rx
  obtain ⟨u, rfl, ru⟩ := rv.one
  obtain ⟨z, its, n, r, hl, e⟩ := I.lstM hH
  refine call_meets F.slot_list_append ⟨_, e, rfl⟩ F.entry_list_append (F.args_list_append_2 _ _) (PySem.list_append l its.toArray n u (by rw [List.size_toArray]; omega)) ⟨e, ?_⟩
  refine ⟨.non, _, I.lset (its' := its ++ [u]) hH e (by simp) (r.append (.cons ru .nil)) ?_, rfl, q⟩
  rw [List.length_append, List.length_singleton]
  omega
theorem len_rep {α : Type} (xs : List α) (k : Nat) : (List.replicate k xs).flatten.length = k * xs.length := by
  induction k with
  | zero => simp
  | succ k ih => rw [List.replicate_succ, List.flatten_cons, List.length_append, ih, Nat.succ_mul, Nat.add_comm]
end
section
variable {prog : Program} {w : World} {A : Around} {E : Value → Shared → Prop} {s : Shared}
end
section
variable {X : Cx}
end
end L2
namespace Att
open PySem PySem.W PySem.Calls PyProof.Rows
theorem ints_of_wellAll {P : Params} {h : Heap} : ∀ (ns : List Int) (vs : List Value), WellAll P h vs (ns.map WData.int) → IntsAre vs ns := by
  intro ns
  induction ns with
  | nil =>
    intro vs w
    rw [List.map_nil] at w
    cases w
    exact .nil
  | cons n ns ih =>
    intro vs w
    rw [List.map_cons] at w
    cases w with
    | cons a b =>
      cases a
      exact .cons _ _ (ih _ b)
theorem script_of {l : OpenLaw} {n : Nat} (hn : l.most = some n) {P : Params} {h : Heap} {args : List WData} {vals : List Value}
    (hpre : l.row.toRowW.claim.pre args = true) (hwl : WellAll P h vals args) :
    ∃ a vs ns, vals = [Value.ref a] ∧ args = [WData.list (ns.map WData.int)] ∧ h.get? a = some { cls := .type "list", data := .seq vs.toArray } ∧ IntsAre vs ns ∧ ns.length ≤ n := by
  have hsh : WShape.hasAll [] args [.list .int] = true := (pre_splitW hpre).1
  have hc : l.pre.holds [] { args := args } = true := (pre_splitW hpre).2
  obtain ⟨d, r, rfl, h1, h2⟩ := hasAllW_cons hsh
  obtain rfl := hasAllW_nil h2
  obtain ⟨xs, rfl, h3⟩ := hasW_list h1
  obtain ⟨ns, rfl⟩ := items_int h3
  have hlen : ns.length ≤ n := by
    unfold OpenLaw.pre at hc
    have h4 : (WTm.not (.lt (.lit (.int (n : Int))) (.len (.arg 0)))).holds [] { args := [.list (ns.map .int)] } = true := by
      have h4 := (holds_andW hc).1
      rw [hn] at h4
      exact h4
    have h5 := condW_of h4 (w_not (w_lt w_lit (w_len_list (w_arg rfl))))
    rw [List.length_map] at h5
    refine Nat.le_of_not_lt fun q => ?_
    have q' : (n : Int) < ((ns.length : Nat) : Int) := by omega
    first
      | (rw [decide_eq_true q'] at h5; exact absurd h5 (by decide))
      | (simp at h5; omega)
  cases hwl with
  | cons w1 w2 =>
    cases w2
    cases w1 with
    | list ho hall => exact ⟨_, _, ns, rfl, rfl, ho, ints_of_wellAll ns _ hall, hlen⟩
theorem post_true (l : OpenLaw) (args : List WData) : l.row.toRowW.claim.post args (.bool true) args = true :=
  postW_of (r := l.row.toRowW) (X := (true == true))
    (show WShape.has [] (.bool true) .bool = true by first | rfl | decide | simp [WShape.has, WShape.arms, WShape.armsAll])
    (show (WTm.eq .res (.lit (.bool true))).value [] { args := args, res := some (.bool true), after := args } = some (.bool (true == true)) from w_eq_bool (w_res rfl) w_lit) rfl
theorem attach_call {l : OpenLaw} {n : Nat} {q : Program} {loose : List Str} {XP : (Str → Option Value) → Heap → Prop} {YP : World → Heap → Prop} {d : DefRec}
    (hn : l.most = some n) (hdf : d.params.defaults = [])
    (call : ∀ (w : World) (s₀ s₁ : Shared) (mg mb : Str → Option Value) (fa : Addr) (o : Obj) (pm cd doc : Value) (a : Addr) (vs : List Value) (ns : List Int),
      Ground q loose [] XP w s₀ mg mb s₁.heap → YP w s₁.heap →
      s₁.heap.get? fa = some o → o.data = .func (docDef d.name d.params d.body d.scope pm cd doc) → s₁.heap.CodeRec cd d.name → mg d.name = some (.ref fa) →
      s₁.heap.get? a = some { cls := .type "list", data := .seq vs.toArray } → IntsAre vs ns → ns.length ≤ n → s₁.gens = #[] →
      codeAny (model l.prog w) callerA (.call (.ref fa) ⟨[.ref a], []⟩) (fun r s' => r = .ok (.ret (.bool true)) ∧ OldK s₁.heap s'.heap ∧ s'.os = s₁.os ∧ AllBare s'.gens) s₁) :
    WalkO q loose XP YP l.row.toRowW d [] (fun f vs => PySem.call f vs) := by
  intro w s₀ s₁ mg mb G Y fa o pm cd doc dV kV ho hd hcd hD hmg hg args vals as hpre hlay hrd hwl hlo
  obtain rfl : dV = .none := Dflts.none hD hdf
  obtain rfl : kV = .none := Dflts.noKw hD
  obtain ⟨a, vs, ns, rfl, rfl, hobj, hints, hlen⟩ := script_of hn hpre hwl
  refine enter_call (codeAny_mono (call w s₀ s₁ mg mb fa o pm cd doc a vs ns G Y ho (fd_plain hd) hcd hmg hobj hints hlen hg) fun r s' hq => ?_)
  obtain ⟨rfl, h2, h3, h4⟩ := hq
  exact ⟨.inl ⟨.bool true, .bool true, [], rfl, fun _ => rfl, .bool true, post_true l _, fun _ => ⟨List.Pairwise.nil, fun _ hm => (nomatch hm)⟩⟩, h2, h3, h4⟩
section
variable {prog : Program} {w : World} {A : Around} {E : Value → Shared → Prop} {s : Shared} {K : Frag}
end
end Att
namespace L2
open PySem PySem.Spec PyProof.Rows
theorem vals_ints : ∀ {vs : List Value} {ns : List Int}, IntsAre vs ns → Vals (ns.map V.int) vs
  | _, _, .nil => .nil
  | _, _, .cons n t h => .cons ⟨t, rfl⟩ (vals_ints h)
def Only (H : Hp) : Prop := ∀ b, H b = none ∨ ∃ o xs, H b = some (.frz o (.lst xs))
theorem law_call {P : Program} {w : World} {K : PySem.W.Frag} {mg mb : Str → Option Value} {CX : CXT} {k : Nat} {fa a : Addr} {fd : FuncData} {x : Str} {sp : Sp} {s₁ : Shared} {vs : List Value} {ns : List Int}
    (KX : K.In s₁.heap) (hns : s₁.heap.Ns mainGlobals mg) (hb : s₁.heap.Ns builtinsNs mb) (hbb : ∀ x : Str, x ≠ "__name__" → mb x = bootBuiltins x) (hlim : s₁.heap.NoLimit) (hg : s₁.gens = #[])
    (ha : s₁.heap.get? a = some { cls := .type "list", data := .seq vs.toArray }) (hi : IntsAre vs ns) (hl : ns.length ≤ sizeLine) (hr : Room k callerA)
    (F : ∀ base : Heap, K.In base → base.Ns mainGlobals mg → FnOk P w K mg base CX k fa fd [x] sp) (hbind : ∀ (s : Shared) (u : Value), BindsTo s fd ⟨[u], []⟩ [(x, u)])
    (hsp : ∀ H : Hp, Only H → SqL K H a (ns.map V.int) → sp [.ref a] H (fun v _ => v = .bl true) fun _ _ _ => False)
    (hCX : ∀ H e s', CX [] H s₁ (fun _ _ _ => False) e s' → False) :
    codeAny (model P w) callerA (.call (.ref fa) ⟨[.ref a], []⟩) (fun r s' => r = .ok (.ret (.bool true)) ∧ OldK s₁.heap s'.heap ∧ s'.os = s₁.os ∧ AllBare s'.gens) s₁ := by
  have rv := vals_ints hi
  have lenV := hi.length
  have core : ∀ H : Hp, Only H → SqL K H a (ns.map V.int) → HOk P w H s₁.heap → (∀ b, H b ≠ none → b = a) → (H a ≠ none → K.lookup a = none) →
      codeAny (model P w) callerA (.call (.ref fa) ⟨[.ref a], []⟩) (fun r s' => r = .ok (.ret (.bool true)) ∧ OldK s₁.heap s'.heap ∧ s'.os = s₁.os ∧ AllBare s'.gens) s₁ := by
    intro H hO hS hok hA hK
    have base_of : ∀ {b : Addr} {o : Obj}, s₁.heap.get? b = some o → H b = none → (hidT s₁.heap H).get? b = some o := fun e n => hidT_get e n
    have noA : ∀ {b : Addr} {o : Obj} {es : Array DictEntry} {ep : Nat}, s₁.heap.get? b = some o → o.data = .dict es ep → H b = none := fun {b o es ep} e d => by
      cases q : H b with
      | none => rfl
      | some u =>
        have e' : b = a := hA b (by rw [q]; simp)
        subst e'
        rw [ha] at e; cases e
        have d' : Data.seq vs.toArray _ = Data.dict es ep := d
        cases d'
    have nsK : ∀ {b : Addr} {m : Str → Option Value}, s₁.heap.Ns b m → (hidT s₁.heap H).Ns b m := fun {b m} ⟨o, es, ep, e, d, r⟩ => ⟨o, es, ep, base_of e (noA e d), d, r⟩
    have hKb : K.In (hidT s₁.heap H) := fun b o e => base_of (KX b o e) (by
      cases q : H b with
      | none => rfl
      | some u =>
        have e' : b = a := hA b (by rw [q]; simp)
        subst e'
        rw [hK (by rw [q]; simp)] at e; cases e)
    have hM : Mod K mg (hidT s₁.heap H) := ⟨hKb, nsK hns, ⟨mb, nsK hb, hbb⟩, let ⟨mc, h1, h2⟩ := hlim; ⟨mc, nsK h1, h2⟩⟩
    have e0 : Env0 P w K mg (hidT s₁.heap H) callerA [] s₁ H := ⟨rfl, hM, fun b o e => of_hidT e, Nat.le_of_eq (hidT_size _ _), trivial, fun b hb => absurd (show b ∈ ([] : List Addr) from hb) (by simp), hok, .of_eq hg⟩
    refine codeAny_mono ((F _ hKb (nsK hns)).run callerA [] s₁ H ⟨[.ref a], []⟩ [.ref a] [.ref a] _ _ hr e0 (hbind s₁ (.ref a)) (.cons rfl .nil) (hsp H hO hS)) fun r s' h => ?_
    cases r with
    | error e => exact (hCX H e s' h).elim
    | ok fl =>
      cases fl with
      | next => exact False.elim h
      | brk => exact False.elim h
      | cont => exact False.elim h
      | ret u =>
        obtain ⟨v, H', os, bare, un, hok', r', q⟩ := h
        have q' : v = .bl true := q
        subst q'
        obtain rfl : u = Value.bool true := r'
        refine ⟨rfl, OldK.of_keep fun b o e => ?_, os, bare⟩
        cases q : H b with
        | none => exact un.keep b o e q (by intro z; exact absurd (show b ∈ ([] : List Addr) from z) (by simp)) (by simp)
        | some u =>
          rcases hO b with z | ⟨ob, xs, z⟩
          · rw [q] at z; cases z
          · have z2 := un.frzs b ob _ z
            obtain ⟨e1, _⟩ := hok b _ z
            obtain ⟨e2, _⟩ := hok' b _ z2
            rw [e] at e1; cases e1
            exact e2
  cases hk : K.lookup a with
  | some o =>
    have e := KX a o hk
    rw [ha] at e
    cases e
    refine core (fun _ => none) (fun _ => .inl rfl) (.inr ⟨_, vs.toArray, _, hk, rfl, rfl, rfl, by rw [List.size_toArray, lenV]; exact hl, by simpa using rv⟩) (fun b u z => by have z' : (none : Option HO) = some u := z; cases z') (fun b z => absurd rfl z) fun z => absurd rfl z
  | none =>
    refine core (fun b => if b = a then some (.frz { cls := .type "list", data := .seq vs.toArray } (.lst (ns.map V.int))) else none) (fun b => ?_) (.inl (.inr ⟨{ cls := .type "list", data := .seq vs.toArray }, if_pos rfl⟩)) (fun b u z => ?_) (fun b z => ?_) fun _ => hk
    · by_cases hb : b = a
      · exact .inr ⟨_, _, if_pos hb⟩
      · exact .inl (if_neg hb)
    · by_cases hb : b = a
      · have z' := (if_pos hb).symm.trans z
        cases z'
        subst hb
        exact ⟨ha, by rw [List.length_map]; exact hl, vs, _, rv, ha⟩
      · have z' := (if_neg hb).symm.trans z
        cases z'
    · by_cases hb : b = a
      · exact hb
      · exact absurd (if_neg hb) z
end L2
namespace L2
open PySem PySem.Spec PyProof.Rows
theorem walk_of {l : PySem.W.OpenLaw} {n k : Nat} {q : Program} {loose : List Str} {XP : (Str → Option Value) → Heap → Prop} {YP : World → Heap → Prop} {d : DefRec} {K : Params → PySem.W.Frag} {CX : World → CXT} {sp : World → Sp} {x : Str}
    (hn : l.most = some n) (hn2 : n ≤ sizeLine) (hdf : d.params.defaults = []) (hr : Room k callerA)
    (hY : ∀ (w : World) (h : Heap), YP w h → (K w.params).In h)
    (F : ∀ (w : World) (mg : Str → Option Value) (fa : Addr) (h : Heap), (K w.params).In h → h.Ns mainGlobals mg → mg d.name = some (.ref fa) →
      ∃ fd : FuncData, (∀ (s : Shared) (u : Value), BindsTo s fd ⟨[u], []⟩ [(x, u)]) ∧
        ∀ base : Heap, (K w.params).In base → base.Ns mainGlobals mg → FnOk l.prog w (K w.params) mg base (CX w) k fa fd [x] (sp w))
    (hsp : ∀ (w : World) (H : Hp) (a : Addr) (ns : List Int), ns.length ≤ n → Only H → SqL (K w.params) H a (ns.map V.int) → sp w [.ref a] H (fun v _ => v = .bl true) fun _ _ _ => False)
    (hCX : ∀ (w : World) (H : Hp) (s : Shared) (e : Value) (s' : Shared), CX w [] H s (fun _ _ _ => False) e s' → False) :
    PySem.W.WalkO q loose XP YP l.row.toRowW d [] (fun f vs => PySem.call f vs) := by
  refine Att.attach_call hn hdf fun w s₀ s₁ mg mb fa o pm cd doc a vs ns G Y ho hd hcd hmg hobj hints hlen hg => ?_
  have KX := hY w _ Y
  obtain ⟨fd, hb, hF⟩ := F w mg fa _ KX G.T.g hmg
  exact law_call KX G.T.g G.T.b G.T.builtins G.T.nolimit hg hobj hints (Nat.le_trans hlen hn2) hr hF hb (fun H hO hS => hsp w H a ns hlen hO hS) fun H e s' => hCX w H s₁ e s'
end L2
namespace L2
open PySem PySem.Spec PyProof.Rows
def inClass (s : Stmt) (j : Nat) : Stmt := match s with
  | .ClassDef _ _ _ body _ _ _ _ _ _ _ => body.getD j (.Pass ⟨0, 0, 0, 0⟩)
  | _ => .Pass ⟨0, 0, 0, 0⟩
def defArgs (s : Stmt) : Arguments := match s with
  | .FunctionDef _ a _ _ _ _ _ _ _ _ => a
  | _ => { posonlyargs := [], args := [], vararg := none, kwonlyargs := [], kw_defaults := [], kwarg := none, defaults := [] }
def defBody (s : Stmt) : List Stmt := match s with
  | .FunctionDef _ _ b _ _ _ _ _ _ _ => b
  | _ => []
def defScope (s : Stmt) : Scope := match s with
  | .FunctionDef _ _ _ _ _ _ sc _ _ _ => sc
  | _ => { kind := .function, names := [], isGenerator := false, isCoroutine := false }
abbrev CX0 : CXT := fun _ _ _ _ _ _ => False
abbrev E0 : XK := fun _ _ _ => False
theorem pass0 {X : Cx} : Passes CX0 X E0 := fun _ _ _ _ _ _ _ h => h.elim
structure Fun (K : PySem.W.Frag) (x qual : Str) (st : Stmt) (f : Addr) (fd : FuncData) : Prop where
  ex : ∃ (oc : Value) (od : Option Addr) (kV doc pm : Value) (an : Option Addr) (cdv ct : Value) (osl : Array (Option Value)),
    fd = PySem.W.fnOf x qual (defArgs st) (defBody st) (defScope st) .none kV doc pm an cdv ct ∧ K.lookup f = some ⟨oc, od, .func fd, osl⟩ ∧ PySem.W.codeIn K cdv qual = true
  kp : PySem.W.keepIn K (.ref f) = true
section
variable {P : Program} {w : World} {K : PySem.W.Frag} {mg : Str → Option Value} {base : Heap}
theorem Fun.ok {x qual : Str} {st : Stmt} {f : Addr} {fd : FuncData} {N ps : List Str} {k : Nat} {sp : Sp} (F : Fun K x qual st f fd) (S : FnScope N ps (defScope st)) (len : ∀ vs H Q E, sp vs H Q E → vs.length = ps.length)
    (hbody : ∀ (cdv : Value) (A : Around) (outer : List Env) (s : Shared) (H : Hp) (vs : List V) (Q : VK) (E : XK), Room k (A.deeper (envOfC qual (defScope st) s.heap.objs.size f cdv)) → sp vs H Q E →
      ∃ t, PSs (cxOf CX0 P w K mg base N qual (defScope st) f cdv A outer s H E).nox (defBody st) t ∧ t { nx := fun _ H' => Q .non H', rt := Q } (start N vs) H) : FnOk P w K mg base CX0 (k + 1) f fd ps sp := by
  obtain ⟨oc, od, kV, doc, pm, an, cdv, ct, osl, rfl, lk, hcd⟩ := F.ex
  refine fn_of lk hcd S len fun A outer s H vs Q E hr hsp => ?_
  obtain ⟨t, h, q⟩ := hbody cdv A outer s H vs Q E hr hsp
  exact ⟨t, h.nox, q⟩
theorem Fun.binds {x qual : Str} {st : Stmt} {f : Addr} {fd : FuncData} {ps : List Str} (F : Fun K x qual st f fd)
    (h : ∀ (kV doc pm : Value) (an : Option Addr) (cdv ct : Value) (us : List Value), us.length = ps.length → bindArgs (PySem.W.fnOf x qual (defArgs st) (defBody st) (defScope st) .none kV doc pm an cdv ct) ⟨us, []⟩ = pure (ps.zip us)) : Binds K fd ps [] := by
  obtain ⟨oc, od, kV, doc, pm, an, cdv, ct, osl, rfl, lk, hcd⟩ := F.ex
  exact .all (h kV doc pm an cdv ct)
theorem fun_mk {x qual : Str} {st : Stmt} {f : Addr} {oc : Value} {od an : Option Addr} {osl : Array (Option Value)} {kV doc pm cdv ct : Value} (l : K.lookup f = some ⟨oc, od, .func (PySem.W.fnOf x qual (defArgs st) (defBody st) (defScope st) .none kV doc pm an cdv ct), osl⟩)
    (c : PySem.W.codeIn K cdv qual = true) (k : PySem.W.keepIn K (.ref f) = true) : Fun K x qual st f (PySem.W.fnOf x qual (defArgs st) (defBody st) (defScope st) .none kV doc pm an cdv ct) := ⟨⟨oc, od, kV, doc, pm, an, cdv, ct, osl, rfl, l, c⟩, k⟩
end
theorem small1000 {n : Nat} (h : n ≤ 1000) : n < sizeLine := Nat.lt_of_le_of_lt h (by decide)
section
variable {X : Cx}
theorem pv (i : Nat) {x : Str} {pos : Pos} (hN : X.N[i]? = some x := by rfl) (hv : Vis X.env.scope x := by first | exact Or.inl rfl | exact Or.inr (Or.inl rfl) | exact Or.inr (Or.inr rfl)) (hd : (x == ("__debug__" : Str)) = false := by decide)
    (hcd : (x == ("__classdict__" : Str)) = false := by decide) : PE X (.Name x pos) (tVar i) := pe_var hN hv hd hcd
end
theorem iteF {A B : Prop} (h : B) : if false = true then A else B := by
  rw [if_neg Bool.false_ne_true]
  exact h
theorem iteT {A B : Prop} (h : A) : if true = true then A else B := by
  rw [if_pos rfl]
  exact h
theorem ite2 {c A B : Prop} [Decidable c] (h1 : c → A) (h2 : ¬ c → B) : if c then A else B := by
  by_cases h : c
  · rw [if_pos h]
    exact h1 h
  · rw [if_neg h]
    exact h2 h
def Same (H H' : Hp) : Prop := ∀ b o, H b = some o → H' b = some o
theorem Same.refl (H : Hp) : Same H H := fun _ _ h => h
theorem Same.trans {H H1 H2 : Hp} (a : Same H H1) (b : Same H1 H2) : Same H H2 := fun c o h => b c o (a c o h)
theorem Same.free {H H' : Hp} (e : Same H H') {l : Addr} (h : H' l = Option.none) : H l = Option.none := by
  cases q : H l with
  | none => rfl
  | some o =>
    rw [e l o q] at h
    cases h
theorem Same.seq {K : PySem.W.Frag} {H H' : Hp} {a : Addr} {xs : List V} (e : Same H H') (h : SqL K H a xs) : SqL K H' a xs := by
  rcases h with (h | ⟨o, h⟩) | h
  · exact .inl (.inl (e _ _ h))
  · exact .inl (.inr ⟨o, e _ _ h⟩)
  · exact .inr h
end L2
section
namespace L2
open PySem PySem.Spec PyProof.Rows
def cloOf (cells : List (Str × Addr)) : List (Str × NameKind) → List (Str × Addr) → List (Str × Addr)
  | [], cs => cs
  | (n, k) :: r, cs => cloOf cells r (if k == .free then match cells.lookup n with | some c => (n, c) :: cs | none => cs else cs)
theorem cloOf_sub {cells : List (Str × Addr)} : ∀ {names : List (Str × NameKind)} {cs : List (Str × Addr)}, (∀ x c, cs.lookup x = some c → cells.lookup x = some c) → ∀ x c, (cloOf cells names cs).lookup x = some c → cells.lookup x = some c
  | [], _, h => h
  | (n, k) :: r, cs, h => by
    unfold cloOf
    refine cloOf_sub (names := r) ?_
    intro x c e
    by_cases hk : (k == NameKind.free) = true
    · rw [if_pos hk] at e
      cases q : cells.lookup n with
      | none => rw [q] at e; exact h x c e
      | some d =>
        rw [q] at e
        rw [List.lookup_cons] at e
        cases hx : x == n with
        | true =>
          rw [hx] at e
          have hxn : x = n := eq_of_beq hx
          subst hxn
          rw [q]; exact e
        | false => rw [hx] at e; exact h x c e
    · rw [if_neg hk] at e; exact h x c e
theorem cloOf_mono {cells : List (Str × Addr)} {x : Str} : ∀ {names : List (Str × NameKind)} {cs : List (Str × Addr)}, (cs.lookup x).isSome = true → ((cloOf cells names cs).lookup x).isSome = true
  | [], _, h => h
  | (n, k) :: r, cs, h => by
    unfold cloOf
    refine cloOf_mono (names := r) ?_
    by_cases hk : (k == NameKind.free) = true
    · rw [if_pos hk]
      cases q : cells.lookup n with
      | none => exact h
      | some d =>
        show (List.lookup x ((n, d) :: cs)).isSome = true
        rw [List.lookup_cons]
        cases hx : x == n with
        | true => rfl
        | false => exact h
    · rw [if_neg hk]; exact h
theorem cloOf_has {cells : List (Str × Addr)} {x : Str} (hc : (cells.lookup x).isSome = true) : ∀ {names : List (Str × NameKind)} {cs : List (Str × Addr)}, (x, NameKind.free) ∈ names → ((cloOf cells names cs).lookup x).isSome = true
  | [], _, h => by cases h
  | (n, k) :: r, cs, h => by
    unfold cloOf
    rcases List.mem_cons.mp h with e | h
    · cases e
      refine cloOf_mono ?_
      rw [if_pos (show (NameKind.free == NameKind.free) = true from rfl)]
      obtain ⟨d, q⟩ := Option.isSome_iff_exists.mp hc
      rw [q]
      show (List.lookup x ((x, d) :: cs)).isSome = true
      rw [List.lookup_cons, beq_self_eq_true]
      rfl
    · exact cloOf_has hc h
theorem clo_go {env : Env} : ∀ (names : List (Str × NameKind)) (cs : List (Str × Addr)), (∀ y ∈ names, y.2 = .free → (env.cells.lookup y.1).isSome = true) →
    (forIn names cs fun (x : Str × NameKind) (r : List (Str × Addr)) => match x with
      | (name, kind) => if (kind == .free) = true then do let c ← cellOf env name; pure (ForInStep.yield ((name, c) :: r)) else pure (ForInStep.yield r) : Sem (List (Str × Addr))) = pure (cloOf env.cells names cs)
  | [], cs, _ => rfl
  | (n, k) :: r, cs, h => by
    have hr : ∀ y ∈ r, y.2 = .free → (env.cells.lookup y.1).isSome = true := fun y hy => h y (List.mem_cons_of_mem _ hy)
    rw [List.forIn_cons]
    unfold cloOf
    by_cases hk : (k == NameKind.free) = true
    · have hf : k = .free := by simpa using hk
      obtain ⟨d, q⟩ := Option.isSome_iff_exists.mp (h (n, k) List.mem_cons_self hf)
      have q' : env.cells.lookup n = some d := q
      have hcell : cellOf env n = pure d := by unfold cellOf; rw [q']
      simp only [hk, if_true, hcell, pure_bind, q']
      exact clo_go r _ hr
    · simp only [hk, if_false, pure_bind, Bool.false_eq_true]
      exact clo_go r _ hr
theorem clo_of {scope : Scope} {env : Env} (h : ∀ y ∈ scope.names, y.2 = .free → (env.cells.lookup y.1).isSome = true) : closureFor scope env = pure (cloOf env.cells scope.names []) := by
  unfold closureFor
  have e := clo_go (env := env) scope.names [] h
  simp only [bind_pure]
  exact e
theorem lookup_relabel_free {env : Env} : ∀ {names : List (Str × NameKind)} {x : Str}, names.lookup x = some .free →
    (names.map fun (n, k) => if (k == NameKind.free && env.scope.kind == .function && env.kindOf n == some .cell) then (n, NameKind.cell) else (n, k)).lookup x = some .cell ∨
    (names.map fun (n, k) => if (k == NameKind.free && env.scope.kind == .function && env.kindOf n == some .cell) then (n, NameKind.cell) else (n, k)).lookup x = some .free
  | [], _, h => by simp at h
  | (n, k) :: r, x, h => by
    have ih := @lookup_relabel_free env r x
    rw [List.map_cons]
    show List.lookup x ((if (k == NameKind.free && env.scope.kind == .function && env.kindOf n == some .cell) = true then (n, NameKind.cell) else (n, k)) :: _) = _ ∨ List.lookup x ((if (k == NameKind.free && env.scope.kind == .function && env.kindOf n == some .cell) = true then (n, NameKind.cell) else (n, k)) :: _) = _
    cases hx : x == n with
    | true =>
      rw [List.lookup_cons, hx] at h
      have hk : k = .free := by simpa using h
      by_cases hc : (k == NameKind.free && env.scope.kind == .function && env.kindOf n == some .cell) = true
      · rw [if_pos hc]; left; rw [List.lookup_cons, hx]
      · rw [if_neg hc]; right; rw [List.lookup_cons, hx, hk]
    | false =>
      rw [List.lookup_cons, hx] at h
      by_cases hc : (k == NameKind.free && env.scope.kind == .function && env.kindOf n == some .cell) = true
      · rw [if_pos hc]; rw [List.lookup_cons, hx]; exact ih h
      · rw [if_neg hc]; rw [List.lookup_cons, hx]; exact ih h
theorem relabel_mem {env : Env} {x : Str} : ∀ {names : List (Str × NameKind)}, (∀ y ∈ names, y.2 ≠ .cell) →
    ((names.map fun (n, k) => if (k == NameKind.free && env.scope.kind == .function && env.kindOf n == some .cell) then (n, NameKind.cell) else (n, k)).lookup x = some .cell ∨
     (names.map fun (n, k) => if (k == NameKind.free && env.scope.kind == .function && env.kindOf n == some .cell) then (n, NameKind.cell) else (n, k)).lookup x = some .free) → (x, NameKind.free) ∈ names
  | [], _, h => by simp at h
  | (n, k) :: r, hc, h => by
    have ih := @relabel_mem env x r fun y hy => hc y (List.mem_cons_of_mem _ hy)
    rw [List.map_cons] at h
    have h' : List.lookup x ((if (k == NameKind.free && env.scope.kind == .function && env.kindOf n == some .cell) = true then (n, NameKind.cell) else (n, k)) :: _) = _ ∨ List.lookup x ((if (k == NameKind.free && env.scope.kind == .function && env.kindOf n == some .cell) = true then (n, NameKind.cell) else (n, k)) :: _) = _ := h
    by_cases hb : (k == NameKind.free && env.scope.kind == .function && env.kindOf n == some .cell) = true
    · rw [if_pos hb] at h'
      have hk : k = .free := by simp at hb; exact hb.1.1
      rw [List.lookup_cons] at h'
      cases hx : x == n with
      | true =>
        have : x = n := eq_of_beq hx
        subst this; subst hk
        exact List.mem_cons_self
      | false => rw [hx] at h'; exact List.mem_cons_of_mem _ (ih h')
    · rw [if_neg hb] at h'
      rw [List.lookup_cons] at h'
      cases hx : x == n with
      | true =>
        rw [hx] at h'
        have : x = n := eq_of_beq hx
        subst this
        rcases h' with h' | h'
        · exact absurd (Option.some.inj h') (hc (x, k) List.mem_cons_self)
        · have hk : k = .free := Option.some.inj h'
          subst hk
          exact List.mem_cons_self
      | false => rw [hx] at h'; exact List.mem_cons_of_mem _ (ih h')
def compOk (osc sc : Scope) : Bool :=
  (decide (sc.kind = .function)) && sc.names.all (fun y => decide (y.2 ≠ .cell)) && sc.names.all (fun y => decide (y.2 = .local → sc.names.lookup y.1 = some .local)) &&
    sc.names.all (fun y => decide (y.2 = .free → osc.names.lookup y.1 = some .cell ∨ osc.names.lookup y.1 = some .free))
structure CompOk (osc sc : Scope) : Prop where
  kind : sc.kind = .function
  nocell : ∀ y ∈ sc.names, y.2 ≠ .cell
  loc : ∀ y ∈ sc.names, y.2 = .local → sc.names.lookup y.1 = some .local
  free : ∀ y ∈ sc.names, y.2 = .free → osc.names.lookup y.1 = some .cell ∨ osc.names.lookup y.1 = some .free
theorem CompOk.of {osc sc : Scope} (h : compOk osc sc = true) : CompOk osc sc := by
  unfold compOk at h
  rw [Bool.and_eq_true, Bool.and_eq_true, Bool.and_eq_true] at h
  obtain ⟨⟨⟨h1, h2⟩, h3⟩, h4⟩ := h
  exact ⟨of_decide_eq_true h1, fun y hy => of_decide_eq_true (List.all_eq_true.mp h2 y hy), fun y hy => of_decide_eq_true (List.all_eq_true.mp h3 y hy), fun y hy => of_decide_eq_true (List.all_eq_true.mp h4 y hy)⟩
abbrev cloX (X : Cx) (scope : Scope) : List (Str × Addr) := cloOf X.env.cells scope.names []
def cxComp (X : Cx) (N' : List Str) (scope : Scope) (fp : List Addr) (s : Shared) (H : Hp) : Cx where
  prog := X.prog
  w := X.w
  K := X.K
  mg := X.mg
  base := X.base
  A := X.A
  N := N'
  s₀ := s
  H₀ := H
  env := compEnvC scope (cloX X scope) s.heap.objs.size X.env
  outer := X.stack
  stack := X.stack
  ex := fp
  fn := fun _ => false
  calm := X.calm
  pn := []
  xe := fun _ _ => False
def FreeAt (X : Cx) (sc : Scope) : List Str → List Nat → Prop
  | [], [] => True
  | x :: fr, j :: ix => (X.N[j]? = some x ∧ sc.names.lookup x = some .free) ∧ FreeAt X sc fr ix
  | _, _ => False
def start2 (σ : St) (own : List Str) (ix : List Nat) : St := List.replicate own.length none ++ ix.map fun j => (σ[j]?).join
theorem start2_len {X : Cx} {sc : Scope} {σ : St} {own : List Str} : ∀ {fr : List Str} {ix : List Nat}, FreeAt X sc fr ix → (start2 σ own ix).length = (own ++ fr).length := by
  intro fr ix h
  have : fr.length = ix.length := by
    induction fr generalizing ix with
    | nil => cases ix with
      | nil => rfl
      | cons _ _ => exact h.elim
    | cons x fr ihf => cases ix with
      | nil => exact h.elim
      | cons j ix => simp [ihf h.2]
  simp [start2, this]
theorem freeAt_get {X : Cx} {sc : Scope} {σ : St} {x : Str} {v : V} : ∀ {fr : List Str} {ix : List Nat} {i : Nat}, FreeAt X sc fr ix → fr[i]? = some x → (ix.map fun j => (σ[j]?).join)[i]? = some (some v) →
    ∃ j : Nat, X.N[j]? = some x ∧ σ[j]? = some (some v) ∧ sc.names.lookup x = some .free
  | [], _, _, _, h, _ => by simp at h
  | _ :: _, [], _, h, _, _ => h.elim
  | y :: fr, j :: ix, 0, h, h1, h2 => by
    have e1 : y = x := by simpa using h1
    subst e1
    have e2 : (σ[j]?).join = some v := by simpa using h2
    refine ⟨j, h.1.1, ?_, h.1.2⟩
    cases q : σ[j]? with
    | none => rw [q] at e2; cases e2
    | some o => rw [q] at e2; cases o with
      | none => cases e2
      | some z => have : z = v := by simpa using e2
                  rw [this]
  | y :: fr, j :: ix, i + 1, h, h1, h2 => freeAt_get (fr := fr) (ix := ix) (i := i) h.2 (by simpa using h1) (by simpa using h2)
theorem start2_get {X : Cx} {sc : Scope} {σ : St} {own fr : List Str} {ix : List Nat} {i : Nat} {x : Str} {v : V} (h : FreeAt X sc fr ix) (h1 : (own ++ fr)[i]? = some x) (h2 : (start2 σ own ix)[i]? = some (some v)) :
    ∃ j : Nat, X.N[j]? = some x ∧ σ[j]? = some (some v) ∧ sc.names.lookup x = some .free := by
  by_cases hi : i < own.length
  · unfold start2 at h2
    rw [List.getElem?_append_left (by simpa using hi), List.getElem?_replicate, if_pos hi] at h2
    cases h2
  · unfold start2 at h2
    rw [List.getElem?_append_right (by simpa using hi)] at h2
    rw [List.getElem?_append_right (by simpa using hi)] at h1
    exact freeAt_get h h1 (by simpa using h2)
def PIfs (X : Cx) (ifs : List Expr) (t : TT) : Prop :=
  ∀ (pins : List (Addr × Obj)) (s : Shared) (σ : St) (H : Hp) (Q : Bool → Hp → Prop), Inv X pins σ H s → t σ H Q →
    wpAny (model X.prog X.w) X.A (forIn ifs true fun c r => if r = true then do let ok ← isTrue c X.env (eval c X.env); pure (ForInStep.yield ok) else pure (ForInStep.yield r)) (TP X pins σ Q) X.xe s
def tYes : TT := fun _ H Q => Q true H
theorem pifs_nil {X : Cx} : PIfs X [] tYes := fun _ _ _ H _ I h => wpAny_tests_nil ⟨H, I, h⟩
theorem pifs_one {X : Cx} {c : Expr} {t : TT} (h : PT X c t) : PIfs X [c] t := fun pins s σ H Q I hw => wpAny_tests_one (h pins s σ H Q I hw)
theorem codeAny_compLoop_any {prog : Program} {w : World} {A : Around} {R : Result → Shared → Prop} {s : Shared} {elt target iter : Expr} {ifs : List Expr} {scope : Scope} {pos : Pos} {it acc : Value} {env : Env} (I : Nat → Shared → Prop)
    (turn : ∀ n s, I n s → wpAny (model prog w) A (pyNext it) (fun r s₁ => match r with
      | none => R (.ok .next) s₁
      | some v => wpAny (model prog w) A (letOwnedTupleGo target it v) (fun _ s₁' => wpAny (model prog w) A (assign target env v) (fun _ s₂ =>
          wpAny (model prog w) A (forIn ifs true fun c r => if r = true then do let ok ← isTrue c env (eval c env); pure (ForInStep.yield ok) else pure (ForInStep.yield r)) (fun ok s₃ =>
            if ok = true then wpAny (model prog w) A (eval elt env) (fun x s₄ =>
              wpAny (model prog w) A (call (.builtin "list.append") [acc, x]) (fun _ s₅ => ∃ m, m < n ∧ I m s₅) (fun _ _ => False) s₄) (fun _ _ => False) s₃
            else ∃ m, m < n ∧ I m s₃) (fun _ _ => False) s₂) (fun _ _ => False) s₁') (fun _ _ => False) s₁) (fun _ _ => False) s)
    (n : Nat) (h : I n s) :
    codeAny (model prog w) A (.compLoop (.ListComp elt [⟨target, iter, ifs, 0⟩] scope pos) 0 it acc env) R s := by
  refine codeAny_loop rfl I (fun n s hI => ?_) n h
  show wpAny _ A ((compTurn (.ListComp elt [⟨target, iter, ifs, 0⟩] scope pos) 0 it acc env).onRaise (fun x => do noteFrame x env; theTreesLotGoes x)) _ _ s
  refine wpAny_noted ?_
  rw [compTurn_list]
  refine wpAny_bind (wpAny_standAt (wpAny_bind (wpAny_mono (turn n s hI) (fun r s₁ h₁ => ?_) fun _ _ h' => h'.elim)))
  cases r with
  | none => exact wpAny_pure h₁
  | some v =>
    refine wpAny_bind (wpAny_mono h₁ (fun _ s₁' h₁' => ?_) fun _ _ h' => h'.elim)
    refine wpAny_bind (wpAny_mono h₁' (fun _ s₂ h₂ => wpAny_bind (wpAny_mono h₂ (fun ok s₃ h₃ => ?_) fun _ _ h' => h'.elim)) fun _ _ h' => h'.elim)
    cases ok with
    | false => exact wpAny_pure ⟨rfl, h₃⟩
    | true =>
      exact wpAny_bind (wpAny_bind (wpAny_mono h₃ (fun x s₄ h₄ => wpAny_bind (wpAny_mono h₄ (fun _ s₅ h₅ => wpAny_pure (wpAny_pure ⟨rfl, h₅⟩)) fun _ _ h' => h'.elim)) fun _ _ h' => h'.elim))
def Behind (X : Cx) (pins : List (Addr × Obj)) (σ : St) (R : Hp → Prop) (C : Addr) (s' : Shared) : Prop :=
  ∃ (H' : Hp) (m : Str → Option Value), Inv X pins σ H' s' ∧ s'.heap.Ns C m ∧ FpOk X pins H' C ∧ R H'
theorem Inv.sameBut {X : Cx} {pins : List (Addr × Obj)} {σ : St} {H : Hp} {s : Shared} {h' : Heap} {C : Addr} (I : Inv X pins σ H s) (f : FpOk X pins H C) (sb : Heap.SameBut C s.heap h') : Inv X pins σ H { s with heap := h' } := by
  obtain ⟨f0, f1, f2, f3, f4, f5⟩ := f
  exact I.turned (t' := s.toks) (fun b o hb e => (sb.2 b hb).trans e) f0 f1 f3 f4 f5
def tTurns (J : It) (D : Addr) (g : TG) (tc : TT) (te : TE) (R : Hp → Prop) (τ : St) (H : Hp) : Prop :=
  ∃ W : Nat → Nat → St → Hp → Prop, (∃ m, W 0 m τ H) ∧ ∀ i m τ H, W i m τ H →
    (J.stop i H ∧ R H) ∨ (J.go i H ∧ ∃ N : St → Hp → Prop, (∀ τ' H', N τ' H' → ∃ m', m' < m ∧ W (i + 1) m' τ' H') ∧ ∀ x H', J.yld i H x H' → g x τ H' fun τ2 H2 => tc τ2 H2 fun b H3 =>
      if b = true then te τ2 H3 fun v H4 => ∃ ys, H4 D = some (.lst ys) ∧ ys.length < sizeLine ∧ N τ2 (upd H4 D (.lst (ys ++ [v]))) else N τ2 H3)
section
variable {X : Cx} {pins : List (Addr × Obj)} {σ : St} {H : Hp} {s : Shared} {tg elt iter : Expr} {ifs : List Expr} {scope : Scope} {pos : Pos} {own fr : List Str} {ix : List Nat} {g : TG} {tc : TT} {te : TE} {it : Addr} {fp : List Addr}
  {tn : Nat → Heap → Prop} {J : It}
theorem comp_inner {R : Hp → Prop} {D : Addr} {h₁ : Heap} {ob : Obj} {m0 : Str → Option Value} {tk : Nat} (hc : X.calm = true) (ok : CompOk X.env.scope scope) (hfr : FreeAt X scope fr ix)
    (hg : PG (cxComp X (own ++ fr) scope fp s H) tg g) (hi : PIfs (cxComp X (own ++ fr) scope fp s H) ifs tc) (he : PE (cxComp X (own ++ fr) scope fp s H) elt te)
    (I3 : Inv X pins σ H s) (T : Turn X.prog X.w X.K tg J fp it tn) (st3 : tn 0 s.heap) (f3 : ∀ b ∈ fp, FpOk X pins H b)
    (hns : h₁.Ns s.heap.objs.size m0) (hsb : Heap.SameBut s.heap.objs.size (s.heap.push ob) h₁) (hq : tTurns J D g tc te R (start2 σ own ix) H) :
    codeAny (model X.prog X.w) X.A (.compStart (.ListComp elt [⟨tg, iter, ifs, 0⟩] scope pos) 0 (.ref it) (.ref D) (compEnvC scope (cloX X scope) s.heap.objs.size X.env))
      (fun r s' => r = .ok .next ∧ Behind X pins σ R s.heap.objs.size s') { s with heap := h₁, toks := tk } := by
  have old : ∀ b o, s.heap.get? b = some o → h₁.get? b = some o := fun b o e => hsb.extBut b o (Nat.ne_of_lt (Heap.lt_size e)) (Heap.get?_push_of_some _ e)
  have sub : ∀ x c, (cloX X scope).lookup x = some c → X.env.cells.lookup x = some c := cloOf_sub (fun x c e => by simp at e)
  have outerK : ∀ x, (x, NameKind.free) ∈ scope.names → X.env.kindOf x = some .cell ∨ X.env.kindOf x = some .free := fun x hx => ok.free (x, .free) hx rfl
  have has : ∀ x, (x, NameKind.free) ∈ scope.names → ∃ c, (cloX X scope).lookup x = some c := fun x hx => by
    obtain ⟨c, hcl⟩ := I3.ok.has x (outerK x hx)
    exact Option.isSome_iff_exists.mp (cloOf_has (by rw [hcl]; rfl) hx)
  have lt3 : ∀ b ∈ fp, b < s.heap.objs.size := fun b hb => by
    obtain ⟨o, ho, _⟩ := T.obj 0 _ st3 b hb
    exact Heap.lt_size ho
  have nostk : ∀ b ∈ fp, b ∉ frs X.stack := fun b hb hs => by
    rcases List.mem_cons.mp (I3.stkSub b hs) with z | z
    · exact (f3 b hb).2.1 z
    · exact (f3 b hb).2.2.1 z
  have ncell : ∀ b ∈ fp, ∀ x c, (cloX X scope).lookup x = some c → c ≠ b := fun b hb x c h => (f3 b hb).2.2.2.2.1 x c (sub x c h)
  have I4 : Inv (cxComp X (own ++ fr) scope fp s H) [] (start2 σ own ix) H { s with heap := h₁, toks := tk } := by
    refine ⟨⟨I3.ok.mod, ok.kind, I3.ok.glob, I3.ok.blt, Nat.le_refl _, ?inj, ?has, ?cab, I3.ok.hd, I3.ok.frames, .inl rfl, ?exf, I3.bs, Nat.le_trans I3.ok.bsz I3.sz, ?noex, nostk, I3.stack, I3.stkFree⟩,
      rfl, I3.bare, Un.kept old, ⟨m0, hns, ?loc⟩, ?cell, I3.hok.fresh (Nat.le_refl _), ?freeC, ?pin, I3.hok.kept old, ?len⟩
    case inj => exact fun x y c h1 h2 => I3.ok.inj x y c (sub x c h1) (sub y c h2)
    case has => exact fun x hx => has x (relabel_mem ok.nocell hx)
    case cab => exact fun x c h => by cases h
    case exf => exact fun b hb => ⟨Nat.ne_of_lt (lt3 b hb), ncell b hb⟩
    case noex =>
      intro b o e hb
      rcases (f3 b hb).2.2.2.1 with z | z
      · exact I3.ok.noex b o e z
      · exact absurd (Nat.lt_of_lt_of_le (Nat.lt_of_lt_of_le (Heap.lt_size e) I3.ok.bsz) z) (Nat.lt_irrefl _)
    case loc =>
      intro i x v e1 e2 e3
      obtain ⟨j, a1, a2, a3⟩ := start2_get hfr e1 e2
      have mem : (x, NameKind.free) ∈ scope.names := PySem.mem_of_lookup a3
      obtain ⟨m, hn, hl⟩ := I3.loc
      have ok1 := outerK x mem
      obtain ⟨u, r, l⟩ := hl j x v a1 a2 (ok1.elim (fun z => .inr (.inl z)) fun z => .inr (.inr z))
      rcases l with ⟨k, _⟩ | ⟨k, c, hcl, o, ho, hd⟩
      · rcases ok1 with z | z
        · rw [k] at z; cases z
        · rw [k] at z; cases z
      · obtain ⟨c', hc'⟩ := has x mem
        have e := sub x c' hc'
        rw [hcl] at e
        cases e
        exact ⟨u, r, .inr ⟨lookup_relabel_free a3, c, hc', o, old _ _ ho, hd⟩⟩
    case cell =>
      intro x c h
      obtain ⟨v, o, ho, hd⟩ := I3.cell x c (sub x c h)
      exact ⟨v, o, old _ _ ho, hd⟩
    case freeC => exact fun x c h => I3.freeC x c (sub x c h)
    case pin => exact fun p hp => absurd (show p ∈ ([] : List (Addr × Obj)) from hp) (by simp)
    case len => exact start2_len hfr
  have st4 : tn 0 h₁ := T.keep 0 _ _ st3 fun b _ o e => old b o e
  have stat : ∀ {H' : Hp}, (∀ b ∈ fp, H' b = none) → ∀ b ∈ fp, FpOk (cxComp X (own ++ fr) scope fp s H) [] H' b := fun {H'} hn b hb =>
    ⟨hn b hb, Nat.ne_of_lt (lt3 b hb), nostk b hb, .inl hb, ncell b hb, fun p hp => absurd (show p ∈ ([] : List (Addr × Obj)) from hp) (by simp)⟩
  obtain ⟨W, ⟨m1, w0⟩, turn⟩ := hq
  have loop : codeAny (model X.prog X.w) X.A (.compLoop (.ListComp elt [⟨tg, iter, ifs, 0⟩] scope pos) 0 (.ref it) (.ref D) (compEnvC scope (cloX X scope) s.heap.objs.size X.env))
      (fun r s' => r = .ok .next ∧ Behind X pins σ R s.heap.objs.size s') { s with heap := h₁, toks := tk } := by
    refine codeAny_compLoop_any (fun n s' => ∃ i τ H', Inv (cxComp X (own ++ fr) scope fp s H) [] τ H' s' ∧ tn i s'.heap ∧ (∀ b ∈ fp, H' b = none) ∧ W i n τ H') ?_ m1 ⟨0, _, H, I4, st4, fun b hb => (f3 b hb).1, w0⟩
    rintro n s5 ⟨i, τ5, H5, I5, st5, fr5, w5⟩
    rcases turn i n τ5 H5 w5 with ⟨stop, qn⟩ | ⟨go, N, hN, step⟩
    · refine thn (T.done (cxComp X (own ++ fr) scope fp s H) rfl rfl rfl hc i [] s5 τ5 H5 _ I5 (stat fr5) st5 stop) fun r s6 ⟨hr, I6⟩ => ?_
      subst hr
      obtain ⟨m6, hn6, _⟩ := I6.loc
      exact ⟨rfl, H5, m6, I3.call' (ch := fp) I6.os I6.base I6.hok I6.bare (fun b hb => ⟨(f3 b hb).2.2.2.1, (f3 b hb).2.1, (f3 b hb).2.2.2.2.1, (f3 b hb).2.2.2.2.2⟩), hn6, I3.fpOk (Nat.le_refl _) I6.free, qn⟩
    · refine thn (T.item (cxComp X (own ++ fr) scope fp s H) rfl rfl rfl hc i [] s5 τ5 H5 _ I5 (stat fr5) st5 go) fun r s6 ⟨u, hr, h6⟩ => ?_
      subst hr
      refine thn h6 fun _ s7 ⟨x, H7, I7, r7, y7, st7, fr7⟩ => ?_
      have I7' := I7.pinned (stat fr7) (T.obj _ _ st7)
      have again : ∀ {τ8 : St} {H8 : Hp} {s8 : Shared}, Inv (cxComp X (own ++ fr) scope fp s H) ([] ++ pinsAt fp s7.heap) τ8 H8 s8 → N τ8 H8 →
          ∃ m, m < n ∧ ∃ i τ H', Inv (cxComp X (own ++ fr) scope fp s H) [] τ H' s8 ∧ tn i s8.heap ∧ (∀ b ∈ fp, H' b = none) ∧ W i m τ H' := fun {τ8 H8 s8} I8 n8 => by
        obtain ⟨m', hm, w8⟩ := hN τ8 H8 n8
        refine ⟨m', hm, i + 1, τ8, H8, I8.unpinned, T.keep _ _ _ st7 fun b hb o e => (I8.pin (b, o) (List.mem_append_right _ (List.mem_append_right _ (mem_pinsAt hb e)))).1, fun b hb => ?_, w8⟩
        obtain ⟨o, e, d⟩ := T.obj _ _ st7 b hb
        exact (I8.pin (b, o) (List.mem_append_right _ (List.mem_append_right _ (mem_pinsAt hb e)))).2.1
      refine thn (hg _ s7 τ5 H7 x u _ I7' r7 (step x H7 y7)) fun _ s8 ⟨τ8, H8, I8, q8⟩ => ?_
      refine thn (hi _ s8 τ8 H8 _ I8 q8) fun b s9 ⟨H9, I9, q9⟩ => ?_
      cases b with
      | false => exact again I9 q9
      | true =>
        refine thn (he _ s9 τ8 H9 _ I9 q9) fun uv s10 ⟨v, H10, I10, r10, ys, hD, hz, q10⟩ => ?_
        refine thn (mt_append (X := cxComp X (own ++ fr) scope fp s H) _ s10 τ8 H10 (.ref D) [v] (.ref D) [uv] (fun _ H' => N τ8 H') I10 rfl (.cons r10 .nil) ⟨D, ys, v, rfl, rfl, hD, hz, q10⟩) fun _ s11 ⟨_, H11, I11, _, q11⟩ => ?_
        exact again I11 q11
  exact codeAny_compStart_list loop (T.self X.A 0 _ _ _ st4 loop)
theorem comp_run {R : V → Hp → Prop} (hc : X.calm = true) (ok : CompOk X.env.scope scope) (hfr : FreeAt X scope fr ix)
    (hg : ∀ fp s H, PG (cxComp X (own ++ fr) scope fp s H) tg g) (hi : ∀ fp s H, PIfs (cxComp X (own ++ fr) scope fp s H) ifs tc) (he : ∀ fp s H, PE (cxComp X (own ++ fr) scope fp s H) elt te)
    (I2 : Inv X pins σ H s) (T : Turn X.prog X.w X.K tg J fp it tn) (st2 : tn 0 s.heap) (f2 : ∀ b ∈ fp, FpOk X pins H b)
    (hq : ∀ D, H D = none → tTurns J D g tc te (R (.ref D)) (start2 σ own ix) (upd H D (.lst []))) {E : Value → Shared → Prop} :
    wpAny (model X.prog X.w) X.A (newList []) (fun acc s₃ => wpAny (model X.prog X.w) X.A (newFunctionEnv scope X.env.globals (cloX X scope) [] X.env.qual none .none (some X.env)) (fun cenv s₄ =>
      codeAny (model X.prog X.w) X.A (.compStart (.ListComp elt [⟨tg, iter, ifs, 0⟩] scope pos) 0 (.ref it) acc { cenv with scope := relabel scope X.env })
        (fun r s' => r = .ok .next ∧ ∃ v, RelV v acc ∧ Behind X pins σ (R v) cenv.locals s') s₄) E s₃) E s := by
  refine wpAny_newObj_type (wpAny_newFunctionEnv ok.nocell (by intro y hy; simp at hy) (fun h₁ hns₁ hsb₁ => ?_) ok.kind)
  have hD : H s.heap.objs.size = none := I2.hok.fresh (Nat.le_refl _)
  have I3 : Inv X pins σ (upd H s.heap.objs.size (.lst [])) { s with heap := s.heap.push { cls := .type "list", dict := none, data := .seq ([] : List Value).toArray } } :=
    I2.laid (t' := s.toks) (fun b u e => Heap.get?_push_of_some _ e) (Nat.le_refl _) ⟨Nat.zero_le _, [], 0, .nil, Heap.get?_push_size _ rfl⟩
  have st3 : tn 0 (s.heap.push { cls := .type "list", dict := none, data := .seq ([] : List Value).toArray }) := T.keep 0 _ _ st2 fun b _ o e => Heap.get?_push_of_some _ e
  have f3 : ∀ b ∈ fp, FpOk X pins (upd H s.heap.objs.size (.lst [])) b := fun b hb => by
    obtain ⟨f0, fr⟩ := f2 b hb
    obtain ⟨o, ho, _⟩ := T.obj 0 _ st2 b hb
    exact ⟨by rw [upd_ne (Nat.ne_of_lt (Heap.lt_size ho))]; exact f0, fr⟩
  refine codeAny_mono (comp_inner (R := R (.ref s.heap.objs.size)) (D := s.heap.objs.size) hc ok hfr (hg _ _ _) (hi _ _ _) (he _ _ _) I3 T st3 f3 hns₁ hsb₁ (hq _ hD)) fun r s' ⟨e, b⟩ => ⟨e, V.ref s.heap.objs.size, rfl, b⟩
def tComp (own : List Str) (ix : List Nat) (wi : TI) (g : TG) (tc : TT) (te : TE) : TE := fun σ H Q => wi σ H fun J H1 => ∀ D, H1 D = none → tTurns J D g tc te (Q (.ref D)) (start2 σ own ix) (upd H1 D (.lst []))
end
section
variable {X : Cx} {tg elt iter : Expr} {ifs : List Expr} {scope : Scope} {pos : Pos} {g : TG} {tc : TT} {te : TE} {wi : TI}
theorem has_cells {pins : List (Addr × Obj)} {σ : St} {H : Hp} {s : Shared} (I : Inv X pins σ H s) (ok : CompOk X.env.scope scope) : ∀ y ∈ scope.names, y.2 = .free → (X.env.cells.lookup y.1).isSome = true := fun y hy hf => by
  obtain ⟨c, h⟩ := I.ok.has y.1 (ok.free y hy hf)
  rw [h]; rfl
theorem pe_comp (osc : Scope) (own fr : List Str) (ix : List Nat) (hc : X.calm = true) (ho : X.env.scope = osc) (hok : compOk osc scope = true) (hfr : FreeAt X scope fr ix) (hit : PI X tg iter wi)
    (hg : ∀ fp s H, PG (cxComp X (own ++ fr) scope fp s H) tg g) (hi : ∀ fp s H, PIfs (cxComp X (own ++ fr) scope fp s H) ifs tc) (he : ∀ fp s H, PE (cxComp X (own ++ fr) scope fp s H) elt te)
    (hs : ∀ x, foldedSetIterable iter X.env x = pure x := by intro _; rfl) : PE X (.ListComp elt [⟨tg, iter, ifs, 0⟩] scope pos) (tComp own ix wi g tc te) := by
  intro pins s σ H Q I h
  have ok := CompOk.of (ho ▸ hok)
  rw [eval_ListComp]
  refine wpAny_comprehension_free (use := none) rfl hs (clo_of (has_cells I ok)) ok.kind ok.loc (thn (hit pins s σ H _ I h) fun xv s₁ h₁ => thn h₁ fun itv s₂ h₂ => ?_)
  obtain ⟨it, fp, tn, J, H2, rfl, I2, T, st2, f2, hq⟩ := h₂
  refine thn (comp_run (R := Q) hc ok hfr hg hi he I2 T st2 f2 hq) fun acc s₃ h₃ => thn h₃ fun cenv s₄ h₄ => codeAny_mono h₄ fun r s' ⟨hr, v, rv, H', m, I', hn, fpo, q⟩ => ?_
  subst hr
  exact ⟨m, hn, fun h' sb => ⟨v, H', I'.sameBut fpo sb, rv, q⟩⟩
theorem ps_comp {i : Nat} {x : Str} {pos' spos : Pos} (osc : Scope) (own fr : List Str) (ix : List Nat) (hN : X.N.Nodup) (hx : X.N[i]? = some x) (hl : Loc X.env.scope x) (hc : X.calm = true) (ho : X.env.scope = osc) (hok : compOk osc scope = true) (hfr : FreeAt X scope fr ix) (hit : PI X tg iter wi)
    (hg : ∀ fp s H, PG (cxComp X (own ++ fr) scope fp s H) tg g) (hi : ∀ fp s H, PIfs (cxComp X (own ++ fr) scope fp s H) ifs tc) (he : ∀ fp s H, PE (cxComp X (own ++ fr) scope fp s H) elt te)
    (hsw : swapsWith (.ListComp elt [⟨tg, iter, ifs, 0⟩] scope pos) (some (.Name x pos')) spos.line X.env = pure true := by rfl) (hs : ∀ x, foldedSetIterable iter X.env x = pure x := by intro _; rfl)
    (hf : X.fn x = true ∨ X.env.scope.names.lookup x = some .local := by first | exact .inl rfl | exact .inr rfl | assumption) :
    PS X (.Assign [.Name x pos'] (.ListComp elt [⟨tg, iter, ifs, 0⟩] scope pos) spos) (tAsg (tComp own ix wi g tc te) (gName i)) := by
  intro pins s σ H D I h
  have ok := CompOk.of (ho ▸ hok)
  rw [exec_Assign_Name_used _ _ _ _ hsw]
  refine wpAny_bind (wpAny_standAt (wpAny_bind ?_))
  show wpAny _ X.A (do let _ ← comprehension (.ListComp elt [⟨tg, iter, ifs, 0⟩] scope pos) scope X.env _ (newList []) false (eval iter X.env) (some (assign (.Name x pos') X.env))) _ _ s
  refine wpAny_bind (wpAny_mono (wpAny_comprehension_free (use := some (assign (.Name x pos') X.env)) (Q := fun _ s' => SP X pins D .next s') rfl hs (clo_of (has_cells I ok)) ok.kind ok.loc
    (thn (hit pins s σ H _ I h) fun xv s₁ h₁ => thn h₁ fun itv s₂ h₂ => ?_)) (fun _ s' hq => wpAny_pure (wpAny_pure hq)) fun _ _ e => e)
  obtain ⟨it, fp, tn, J, H2, rfl, I2, T, st2, f2, hq⟩ := h₂
  refine thn (comp_run (R := fun v H' => D.nx (σ.set i (some v)) H') hc ok hfr hg hi he I2 T st2 f2 hq) fun acc s₃ h₃ => thn h₃ fun cenv s₄ h₄ => codeAny_mono h₄ fun r s' ⟨hr, v, rv, H', m, I', hn, fpo, q⟩ => ?_
  subst hr
  show wpAny _ X.A (assign (.Name x pos') X.env acc) _ _ s'
  refine wpAny_assign_Name (store_ok2 I' hN hx hl rv (fun s'' I'' hch => ?_) hf)
  obtain ⟨a, sb, ha⟩ := hch
  have hCa : cenv.locals ≠ a := by
    rcases ha with z | z
    · rw [z]; exact fpo.2.1
    · exact fun e => fpo.2.2.2.2.1 x a z e.symm
  exact ⟨m, hn.sameBut sb hCa, fun h' sb' => ⟨_, H', I''.sameBut fpo sb', q⟩⟩
end
end L2
end
section
namespace L2
open PySem PySem.Spec PyProof.Rows
section
variable {prog : Program} {w : World} {A : Around} {E : Value → Shared → Prop} {s : Shared}
theorem nextOf_tuple_item {it l : Addr} {i : Nat} {items} {x : Value} {Q : Value → Shared → Prop} (hit : s.heap.IsTupleIter it l i)
    (hl : s.heap.IsTuple l items) (hx : items[i]? = some x)
    (hQ : ∀ h', h'.IsTupleIter it l (i + 1) → Heap.SameBut it s.heap h' → Q x { s with heap := h' }) :
    wpAny (model prog w) A (Builtin.SmallTypes.nextOf (.ref it)) Q E s := by
  obtain ⟨o, ho, hc, hd⟩ := id hit
  obtain ⟨ol, hol, _, nl, hdl⟩ := hl
  unfold Builtin.SmallTypes.nextOf
  refine wpAny_bind (wpAny_callSpecial?_slot (name := Str.ofString "__next__") hit.typeIs F.slot_tuple_iterator_next
    (wpAny_call_entry F.slot_tuple_iterator_next hit.typeIs F.entry_tuple_iterator_next ?_ (F.args_tuple_iterator_next_1 _)))
  show wpAny _ _ (field (.ref it) 0 >>= _) _ _ s
  refine wpAny_bind (wpAny_field ho hd (x := .ref l) rfl ?_)
  show wpAny _ _ (if (Value.ref l == Value.none) = true then _ else _) _ _ s
  rw [if_neg (show ¬ ((Value.ref l == Value.none) = true) from Bool.false_ne_true)]
  show wpAny _ _ (field (.ref it) 1 >>= _) _ _ s
  refine wpAny_bind (wpAny_field ho hd (x := .int i 0) rfl ?_)
  show wpAny _ _ (seqItems? (.ref l) >>= _) _ _ s
  refine wpAny_bind (wpAny_seqItems hol hdl ?_)
  simp only [Int.toNat_natCast, hx]
  refine wpAny_bind (wpAny_setField ho hd (by simp) (wpAny_pure ⟨x, rfl, wpAny_pure (hQ _ ?_ (Heap.SameBut.update ..))⟩))
  exact ⟨_, Heap.get?_update_self _ ho (Obj.isFreed_of_fields (Obj.data_mapFields hd _)), (Obj.cls_mapFields ..).trans hc, by
    rw [Obj.data_mapFields hd]; simp [rawInt]⟩
theorem nextOf_tuple_end {it l : Addr} {i : Nat} {items} {Q : Value → Shared → Prop} (hh : A.handled = none)
    (hit : s.heap.IsTupleIter it l i) (hl : s.heap.IsTuple l items) (hx : items[i]? = none)
    (hE : ∀ h' e, Heap.ExtBut it s.heap h' → (∃ o, h'.get? e = some o ∧ o.cls = .type "StopIteration") → E (.ref e) { s with heap := h' }) :
    wpAny (model prog w) A (Builtin.SmallTypes.nextOf (.ref it)) Q E s := by
  obtain ⟨o, ho, hc, hd⟩ := id hit
  obtain ⟨ol, hol, _, nl, hdl⟩ := hl
  unfold Builtin.SmallTypes.nextOf
  refine wpAny_bind (wpAny_callSpecial?_slot (name := Str.ofString "__next__") hit.typeIs F.slot_tuple_iterator_next
    (wpAny_call_entry F.slot_tuple_iterator_next hit.typeIs F.entry_tuple_iterator_next ?_ (F.args_tuple_iterator_next_1 _)))
  show wpAny _ _ (field (.ref it) 0 >>= _) _ _ s
  refine wpAny_bind (wpAny_field ho hd (x := .ref l) rfl ?_)
  show wpAny _ _ (if (Value.ref l == Value.none) = true then _ else _) _ _ s
  rw [if_neg (show ¬ ((Value.ref l == Value.none) = true) from Bool.false_ne_true)]
  show wpAny _ _ (field (.ref it) 1 >>= _) _ _ s
  refine wpAny_bind (wpAny_field ho hd (x := .int i 0) rfl ?_)
  show wpAny _ _ (seqItems? (.ref l) >>= _) _ _ s
  refine wpAny_bind (wpAny_seqItems hol hdl ?_)
  simp only [Int.toNat_natCast, hx]
  refine wpAny_bind (wpAny_rule (wpAny_bind (wpAny_setField ho hd (by simp) ?_)))
  show wpAny _ _ (newExc (.type "StopIteration") [] >>= _) _ _ _
  refine wpAny_bind ?_
  simp only [newExc, newTuple]
  refine wpAny_bind (wpAny_newObj_type ?_ (by size_fits))
  refine wpAny_bind (m := firstArgMember _ _) (wpAny_of_eq (a := Value.none) (by first | rfl | (simp only [firstArgMember]; rfl)) ?_)
  refine wpAny_newObj_type ?_ (by size_fits)
  simp only [raiseNew]
  refine wpAny_bind (wpAny_handled ?_)
  first | rw [show A.in1.handled = none from hh] | rw [hh]
  refine wpAny_bind (wpAny_pure (wpAny_throw ?_))
  exact hE _ _ (((Heap.SameBut.update ..).extBut.push _).push _) ⟨_, Heap.get?_push_size _ rfl, rfl⟩
end
theorem draws_tuple {prog : Program} {w : World} {A : Around} (hh : A.handled = none) (it l : Addr) (hne : l ≠ it) (items : Array Value) :
    Draws prog w A it [it, l] items.size (fun i v => items[i]? = some v) (fun i h => h.IsTupleIter it l i ∧ h.IsTuple l items) where
  live := fun _ _ st => let ⟨o, ho, _⟩ := st.1; ⟨o, ho⟩
  frame := fun _ _ _ st hk => ⟨st.1.at fun o e => hk it (by simp) o e, st.2.at fun o e => hk l (by simp) o e⟩
  item := fun i s Q E hi st hQ => by
    refine nextOf_tuple_item st.1 st.2 (x := items[i]) (by simp [hi]) fun h' hit' hs' => ?_
    exact hQ _ h' s.toks (by simp [hi]) ⟨hit', st.2.extBut hs'.extBut hne⟩ hs'
  done := fun s Q E st hE => nextOf_tuple_end hh st.1 st.2 (by simp) hE
section
open AutoSeq1 (wpAny_loadPart')
theorem meets_enumerate_newT (l : Addr) (items : Array Value) (n : Nat) (dct : Option Addr) (sl : Array (Option Value)) :
    Meets (Builtin.«enumerate.__new__» ⟨[.type "enumerate", .ref l], []⟩) (fun _ R s => s.heap.get? l = some { cls := .type "tuple", dict := dct, data := .seq items n, slots := sl } ∧
      R (.ok (.ret (.ref (s.heap.push { cls := .type "tuple_iterator", data := .fields #[.ref l, .int 0 0] }).objs.size)))
        { s with heap := (s.heap.push { cls := .type "tuple_iterator", data := .fields #[.ref l, .int 0 0] }).push { cls := .type "enumerate", data := .fields #[.none, .bool false, .ref s.heap.objs.size, rawInt 0, .none, .none] } }) :=
  .of_wp fun prog w A R s h => by
    obtain ⟨hp, g, d, tk, os⟩ := s; obtain ⟨hl, h⟩ := h
    have hsub := sub_enumerate
    have hL : Heap.IsTuple (Shared.heap ⟨hp, g, d, tk, os⟩) l items := ⟨_, hl, rfl, n, rfl⟩
    wp_walk using wpAny_loadPart' hl
    refine wpAny_stack_any fun st => wpAny_pure ?_
    split
    · rename_i c _ _ _ _ _
      cases (c == Value.type "enumerate")
      · wp_walk using wpAny_loadPart' hl, wpAny_pyIter_tuple hL
        exact ⟨_, rfl, h⟩
      · wp_walk using wpAny_loadPart' hl, wpAny_pyIter_tuple hL
        exact ⟨_, rfl, h⟩
    · wp_walk using wpAny_loadPart' hl, wpAny_pyIter_tuple hL
      exact ⟨_, rfl, h⟩
end
theorem call_enumerate_tuple {prog : Program} {w : World} {A : Around} {E : Value → Shared → Prop} {s : Shared} {l : Addr} {items : Array Value} {Q : Value → Shared → Prop} (hL : s.heap.IsTuple l items)
    (h : ∀ h', IsEnum h' (s.heap.objs.size + 1) s.heap.objs.size 0 .none → h'.IsTupleIter s.heap.objs.size l 0 → h'.objs.size = s.heap.objs.size + 2 →
      (∀ b o, s.heap.get? b = some o → h'.get? b = some o) → Q (.ref (s.heap.objs.size + 1)) { s with heap := h' }) :
    wpAny (model prog w) A (call (.type "enumerate") [.ref l]) Q E s := by
  obtain ⟨⟨c, dct, dt, sl⟩, hl, hc, n, hd⟩ := hL
  replace hc : c = .type "tuple" := hc
  replace hd : dt = .seq items n := hd
  subst hc hd
  refine callType_new F.called_enumerate (by decide) (F.typeCall_enumerate_1 _) (F.newCall_enumerate_1 _) (fun obj => F.args_object_init_2 obj _) F.entry_enumerate_new
    (meets_enumerate_newT l items n dct sl) ⟨hl, ?_⟩
  have hz : (s.heap.push { cls := .type "tuple_iterator", data := .fields #[.ref l, .int 0 0] }).objs.size = s.heap.objs.size + 1 := Heap.size_push ..
  show _ ∧ _
  rw [hz]
  have he : IsEnum ((s.heap.push { cls := .type "tuple_iterator", data := .fields #[.ref l, .int 0 0] }).push
      { cls := .type "enumerate", data := .fields #[.none, .bool false, .ref s.heap.objs.size, rawInt 0, .none, .none] }) (s.heap.objs.size + 1) s.heap.objs.size 0 .none := by
    have := Heap.get?_push_size (s.heap.push { cls := .type "tuple_iterator", data := .fields #[.ref l, .int 0 0] })
      (o := { cls := .type "enumerate", data := .fields #[.none, .bool false, .ref s.heap.objs.size, rawInt 0, .none, .none] }) rfl
    rw [hz] at this; exact this
  refine ⟨⟨_, he, rfl⟩, h _ he ⟨_, Heap.get?_push_of_some _ (Heap.get?_push_size _ rfl), rfl, rfl⟩ (by rw [Heap.size_push, hz]) fun b o x => Heap.get?_push_of_some _ (Heap.get?_push_of_some _ x)⟩
section
variable {X : Cx} {pins : List (Addr × Obj)} {σ : St} {H : Hp} {s : Shared} {h' : Heap}
theorem Inv.walked {t' : Nat} {wr : List Addr} (I : Inv X pins σ H s) (k : ∀ b o, b ∉ wr → s.heap.get? b = some o → h'.get? b = some o) (hf : ∀ b ∈ wr, FpOk X pins H b) : Inv X pins σ H { s with heap := h', toks := t' } := by
  have nit : ∀ b u, H b = some u → b ∉ wr := fun b u e z => by rw [(hf b z).1] at e; cases e
  refine I.step (g' := s.gens) (d' := s.drawn) (ch := wr) (fun b hb => ?_) (fun b o _ _ hc e _ => k b o hc e) (fun b o _ _ hc e _ => ⟨o.slots, k b o hc e⟩) (fun _ _ _ _ n => n)
    (fun b o hc e => ⟨o, k b o hc e⟩) (fun _ _ e => e) (fun _ _ _ e => e) (fun b ps e => ⟨#[], by rw [e]; simp⟩) (fun m hm => ?_) (fun b u e => ?_) I.bare
  · obtain ⟨f0, f1, f2, f3, f4, f5⟩ := hf b hb
    exact ⟨f3, f1, f4, f5⟩
  · obtain ⟨o, es, ep, ho, r⟩ := hm
    exact ⟨o, es, ep, k _ o (fun z => (hf _ z).2.1 rfl) ho, r⟩
  · refine (I.hok b u e).stay (fun c v hc q => k c v ?_ q) (fun _ q => q) fun _ _ q => q
    rcases hc with z | z
    · rw [z]; exact nit b u e
    · exact nit c _ z
theorem Inv.track {a : Addr} {o : HO} (I : Inv X pins σ H s) (f : FpOk X pins H a) (new : ObjOk X.prog X.w (upd H a o) s.heap a o) : Inv X pins σ (upd H a o) s := by
  obtain ⟨f0, f1, f2, f3, f4, f5⟩ := f
  have ne : ∀ b u, H b = some u → b ≠ a := fun b u e z => by rw [z, f0] at e; cases e
  obtain ⟨hh, g, d, t, os⟩ := s
  refine I.step (h' := hh) (g' := g) (d' := d) (t' := t) (ch := [a]) (fun b hb => ?_) (fun b o _ _ _ e _ => e) (fun b o _ _ _ e _ => ⟨o.slots, e⟩) (fun b o hc _ n => ?_) (fun b o _ e => ⟨o, e⟩)
    (fun b xs e => ?_) (fun b u xs e => ?_) (fun b ps e => ⟨#[], ?_⟩) (fun m hm => hm) (fun b u e => ?_) I.bare
  · have e : b = a := by simpa using hb
    subst e
    exact ⟨f3, f1, f4, f5⟩
  · rw [upd_ne (fun z => hc (by simp [z]))]; exact n
  · rw [upd_ne (ne b _ e)]; exact e
  · rw [upd_ne (ne b _ e)]; exact e
  · rw [upd_ne (ne b _ e), e]; simp
  · by_cases hb : b = a
    · subst hb; rw [upd_same] at e; cases e; exact new
    · rw [upd_ne hb] at e
      exact (I.hok b u e).stay (fun _ _ _ q => q) (fun c q => by rw [upd_ne (ne c _ q)]; exact q) fun c xs q => by rw [upd_ne (ne c _ q)]; exact q
end
def Ien (S : Hp → List V → Prop) : It :=
  ⟨fun i H => ∃ xs x, S H xs ∧ xs[i]? = some x, fun i H v H' => ∃ T x, v = .ref T ∧ H T = none ∧ H' = upd H T (.tup [.int i, x]) ∧ ∀ xs, S H xs → xs[i]? = some x, fun i H => ∃ xs, S H xs ∧ xs.length = i⟩
theorem enum_turn {P : Program} {w : World} {K : PySem.W.Frag} {elts : List Expr} {k : Nat} {tp : Pos} {S : Hp → List V → Prop} {e it l : Addr} {St0 : Nat → Heap → Prop}
    (hei : e ≠ it)
    (obj : ∀ i h, St0 i h → ∃ o, h.get? it = some o ∧ ∀ v, o.data ≠ .cell v)
    (keep : ∀ i h h', St0 i h → (∀ o, h.get? it = some o → h'.get? it = some o) → St0 i h')
    (drw : ∀ (X : Cx), X.prog = P → X.w = w → X.K = K → X.calm = true → ∀ (i : Nat) (pins : List (Addr × Obj)) (s : Shared) (σ : St) (H : Hp) (xs : List V), Inv X pins σ H s → St0 i s.heap → (∃ old, IsEnum s.heap e it i old) → S H xs →
      ∃ (its : List Value) (fp : List Addr) (St : Nat → Heap → Prop), Vals xs its ∧ Draws P w X.A.in1 it fp its.toArray.size (fun i v => its.toArray[i]? = some v) St ∧ St i s.heap ∧ e ∉ fp ∧ it ∈ fp ∧ (∀ j h, St j h → St0 j h))
    (inj : ∀ (X : Cx), X.K = K → ∀ (pins : List (Addr × Obj)) (s : Shared) (σ : St) (H : Hp) (xs ys : List V), Inv X pins σ H s → S H xs → S H ys → xs = ys) :
    Turn P w K (.Tuple elts k tp) (Ien S) [e, it] e (fun i h => (∃ old, IsEnum h e it i old) ∧ St0 i h) where
  mem := by simp
  obj := fun i h st b hb => by
    obtain ⟨⟨old, he⟩, hs⟩ := st
    rcases List.mem_cons.mp hb with rfl | hb
    · exact ⟨_, he, fun v z => by
        have z' : Data.fields _ = Data.cell v := z
        cases z'⟩
    · have e1 : b = it := by simpa using hb
      subst e1
      exact obj i h hs
  keep := fun i h h' st k => ⟨let ⟨old, he⟩ := st.1; ⟨old, k e (by simp) _ he⟩, keep i h h' st.2 fun o q => k it (by simp) o q⟩
  item := by
    intro X hP hw hK hc i pins s σ H E I hf st hg
    obtain ⟨xs, x, hq, hx⟩ := hg
    obtain ⟨its, fp, St, rv, Dr, hst, hef, hif, hback⟩ := drw X hP hw hK hc i pins s σ H xs I st.2 st.1 hq
    subst hP hw
    obtain ⟨u, hu, ru⟩ := rv.get hx
    have hi : i < its.toArray.size := by rw [List.size_toArray]; exact (List.getElem?_eq_some_iff.mp hu).1
    have hu' : its.toArray[i]? = some u := by simpa using hu
    have WT := WalksT.enumerateD Dr e hei hef hif
    refine WT.item i s _ _ hi ⟨st.1, hst⟩ fun T vals h' tk hPt hsz hT hmid hk => ⟨.ref T, rfl, ?_⟩
    obtain ⟨t, y, hy, rfl⟩ := hPt
    have hTw : T ∉ [e, it] := WT.apart i T _ hmid
    rw [hu'] at hy
    have hy' : u = y := Option.some.inj hy
    subst hy'
    have hwr : ∀ b ∈ [e, it], FpOk X pins H b := hf
    have I1 : Inv X pins σ H { s with heap := h', toks := tk } := I.walked hk hwr
    have hTn : H T = none := I.hok.fresh hsz
    have I2 : Inv X pins σ (upd H T (.tup [.int i, x])) { s with heap := h', toks := tk } := by
      refine I1.track (I.fpOk hsz hTn) ⟨by show 2 ≤ sizeLine; decide, [.int i t, u], .cons ⟨t, rfl⟩ (.cons ru .nil), ?_⟩
      exact hT
    have hwr2 : ∀ b ∈ [e, it], FpOk X pins (upd H T (.tup [.int i, x])) b := fun b hb => by
      obtain ⟨f0, fr⟩ := hf b hb
      have ne : b ≠ T := fun z => hTw (by rw [← z]; exact hb)
      exact ⟨by rw [upd_ne ne]; exact f0, fr⟩
    refine WT.go elts k tp i T _ _ _ hmid fun h'' hst'' hk'' => ?_
    refine ⟨.ref T, _, I2.walked (t' := tk) hk'' hwr2, rfl, ⟨T, x, rfl, hTn, rfl, fun ys hy => by rw [inj X hK pins s σ H ys xs I hy hq]; exact hx⟩, ⟨hst''.1, hback _ _ hst''.2⟩, fun b hb => (hwr2 b hb).1⟩
  done := by
    intro X hP hw hK hc i pins s σ H E I hf st hg
    obtain ⟨xs, hq, hx⟩ := hg
    obtain ⟨its, fp, St, rv, Dr, hst, hef, hif, hback⟩ := drw X hP hw hK hc i pins s σ H xs I st.2 st.1 hq
    subst hP hw
    have hl := rv.length
    have hi : i = its.toArray.size := by rw [List.size_toArray]; omega
    subst hi
    exact (WalksT.enumerateD Dr e hei hef hif).done s _ _ ⟨st.1, hst⟩ fun h' tk hk => ⟨rfl, I.walked hk hf⟩
  self := fun A i s Q E st h => by
    obtain ⟨⟨old, he⟩, _⟩ := st
    exact wpAny_pyIter_enum he h
theorem ne_cls {h : Heap} {a b : Addr} {o u : Obj} (ha : h.get? a = some o) (hb : h.get? b = some u) (hc : o.cls ≠ u.cls) : a ≠ b := fun e => by
  subst e; rw [ha] at hb; cases hb; exact hc rfl
theorem turn_enumL {P : Program} {w : World} {K : PySem.W.Frag} {elts : List Expr} {k : Nat} {tp : Pos} {e it a : Addr} (hei : e ≠ it) :
    Turn P w K (.Tuple elts k tp) (Ien fun H xs => SqL K H a xs) [e, it] e (fun i h => (∃ old, IsEnum h e it i old) ∧ h.IsListIter it a i) := by
  refine enum_turn (l := a) hei (fun i h st => ?_) (fun i h h' st k => st.at k) (fun X hP hw hK hc i pins s σ H xs I st he hq => ?_) (fun X hK pins s σ H xs ys I h1 h2 => ?_)
  · obtain ⟨o, e, c, d⟩ := st
    exact ⟨o, e, fun v z => by rw [d] at z; cases z⟩
  · subst hP hw hK
    obtain ⟨its, rv, p, hz⟩ := I.list hq
    obtain ⟨old, he⟩ := he
    obtain ⟨ol, nl, hol, hcl, _, _⟩ := id p
    obtain ⟨oi, hoi, hci, _⟩ := id st
    have h1 : a ≠ it := ne_cls hol hoi (by rw [hcl, hci]; decide)
    have h2 : e ≠ a := ne_cls he hol (by rw [hcl]; show Value.type "enumerate" ≠ Value.type "list"; decide)
    exact ⟨its, [it, a], _, rv, Draws.list (A := X.A.in1) (I.ok.hd hc) it a h1 its.toArray, ⟨st, p.isList⟩, by simp [hei, h2], by simp, fun j h z => z.1⟩
  · subst hK
    exact I.list_inj h1 h2
theorem turn_enumT {P : Program} {w : World} {K : PySem.W.Frag} {elts : List Expr} {k : Nat} {tp : Pos} {e it a : Addr} (hei : e ≠ it) :
    Turn P w K (.Tuple elts k tp) (Ien fun H xs => SqT K H a xs) [e, it] e (fun i h => (∃ old, IsEnum h e it i old) ∧ h.IsTupleIter it a i) := by
  refine enum_turn (l := a) hei (fun i h st => ?_) (fun i h h' st k => st.at k) (fun X hP hw hK hc i pins s σ H xs I st he hq => ?_) (fun X hK pins s σ H xs ys I h1 h2 => ?_)
  · obtain ⟨o, e, c, d⟩ := st
    exact ⟨o, e, fun v z => by rw [d] at z; cases z⟩
  · subst hP hw hK
    obtain ⟨its, rv, p, hz⟩ := I.tuple hq
    obtain ⟨old, he⟩ := he
    obtain ⟨ol, hol, hcl, _⟩ := id p
    obtain ⟨oi, hoi, hci, _⟩ := id st
    have h1 : a ≠ it := ne_cls hol hoi (by rw [hcl, hci]; decide)
    have h2 : e ≠ a := ne_cls he hol (by rw [hcl]; show Value.type "enumerate" ≠ Value.type "tuple"; decide)
    exact ⟨its, [it, a], _, rv, draws_tuple (A := X.A.in1) (I.ok.hd hc) it a h1 its.toArray, ⟨st, p⟩, by simp [hei, h2], by simp, fun j h z => z.1⟩
  · subst hK
    exact I.tuple_inj h1 h2
section
variable {X : Cx} {elts : List Expr} {k : Nat} {tp : Pos}
def iEnL (K : PySem.W.Frag) (ta : TA) : TI := fun σ H R => ta σ H fun vs H1 => ∃ a, vs = [.ref a] ∧ (∃ xs, SqL K H1 a xs) ∧ R (Ien fun H xs => SqL K H a xs) H1
def iEnT (K : PySem.W.Frag) (ta : TA) : TI := fun σ H R => ta σ H fun vs H1 => ∃ a, vs = [.ref a] ∧ (∃ xs, SqT K H1 a xs) ∧ R (Ien fun H xs => SqT K H a xs) H1
theorem pi_enumL {l : Expr} {ta : TA} {p pos : Pos} (hg : Gl X "enumerate") (hm : X.mg "enumerate" = none) (ha : PA X [l] ta) (hs : starEach [l] X.env = [(false, eval l X.env)] := by rfl) :
    PI X (.Tuple elts k tp) (.Call (.Name "enumerate" p) [l] [] pos) (iEnL X.K ta) := by
  intro pins s σ H R I h
  refine Call_ (ld_blt I hg hm boot_enumerate (PyProof.Rows.callWith_type1 (thn (ha pos pins s σ H _ I h) fun us s1 ⟨vs, H1, I1, r1, q1⟩ => ?_) hs rfl))
  obtain ⟨a, rfl, ⟨xs, hq⟩, q⟩ := q1
  obtain ⟨u, rfl, ru⟩ := r1.one
  cases ru
  obtain ⟨its, rv, pl, hz⟩ := I1.list hq
  refine call_enumerate_list pl.isList fun h' he hit hsz hk => wpAny_pyIter_enum he ?_
  have I2 : Inv X pins σ H1 { s1 with heap := h' } := I1.kept (t' := s1.toks) hk
  refine ⟨s1.heap.objs.size + 1, [s1.heap.objs.size + 1, s1.heap.objs.size], _, _, H1, rfl, I2, turn_enumL (Nat.succ_ne_self _), ⟨⟨_, he⟩, hit⟩, fun b hb => ?_, q⟩
  have e : s1.heap.objs.size ≤ b := by
    rcases List.mem_cons.mp hb with rfl | hb
    · exact Nat.le_succ _
    · rw [List.mem_singleton.mp hb]; exact Nat.le_refl _
  exact I1.fpOk e (I1.hok.fresh e)
theorem pi_enumT {l : Expr} {ta : TA} {p pos : Pos} (hg : Gl X "enumerate") (hm : X.mg "enumerate" = none) (ha : PA X [l] ta) (hs : starEach [l] X.env = [(false, eval l X.env)] := by rfl) :
    PI X (.Tuple elts k tp) (.Call (.Name "enumerate" p) [l] [] pos) (iEnT X.K ta) := by
  intro pins s σ H R I h
  refine Call_ (ld_blt I hg hm boot_enumerate (PyProof.Rows.callWith_type1 (thn (ha pos pins s σ H _ I h) fun us s1 ⟨vs, H1, I1, r1, q1⟩ => ?_) hs rfl))
  obtain ⟨a, rfl, ⟨xs, hq⟩, q⟩ := q1
  obtain ⟨u, rfl, ru⟩ := r1.one
  cases ru
  obtain ⟨its, rv, pl, hz⟩ := I1.tuple hq
  refine call_enumerate_tuple pl fun h' he hit hsz hk => wpAny_pyIter_enum he ?_
  have I2 : Inv X pins σ H1 { s1 with heap := h' } := I1.kept (t' := s1.toks) hk
  refine ⟨s1.heap.objs.size + 1, [s1.heap.objs.size + 1, s1.heap.objs.size], _, _, H1, rfl, I2, turn_enumT (Nat.succ_ne_self _), ⟨⟨_, he⟩, hit⟩, fun b hb => ?_, q⟩
  have e : s1.heap.objs.size ≤ b := by
    rcases List.mem_cons.mp hb with rfl | hb
    · exact Nat.le_succ _
    · rw [List.mem_singleton.mp hb]; exact Nat.le_refl _
  exact I1.fpOk e (I1.hok.fresh e)
end
theorem turns_by {J : It} {D : Addr} {g : TG} {tc : TT} {te : TE} {R : Hp → Prop} {τ : St} {H : Hp} (n : Nat) (Pv : Nat → St → Hp → Prop) (h0 : Pv 0 τ H) (hgo : ∀ i τ H, i < n → Pv i τ H → J.go i H) (hstop : ∀ τ H, Pv n τ H → J.stop n H)
    (hs : ∀ i τ H x H', i < n → Pv i τ H → J.yld i H x H' → g x τ H' fun τ2 H2 => tc τ2 H2 fun b H3 => if b = true then te τ2 H3 fun v H4 => ∃ ys, H4 D = some (.lst ys) ∧ ys.length < sizeLine ∧ Pv (i + 1) τ2 (upd H4 D (.lst (ys ++ [v]))) else Pv (i + 1) τ2 H3)
    (hd : ∀ τ H, Pv n τ H → R H) : tTurns J D g tc te R τ H := by
  refine ⟨fun i m τ H => m = n - i ∧ i ≤ n ∧ Pv i τ H, ⟨n, by simp, Nat.zero_le _, h0⟩, ?_⟩
  rintro i m τ H ⟨rfl, hi, p⟩
  by_cases hlt : i < n
  · exact .inr ⟨hgo i τ H hlt p, Pv (i + 1), fun τ' H' p' => ⟨n - (i + 1), by omega, rfl, hlt, p'⟩, fun x H' y => hs i τ H x H' hlt p y⟩
  · have e : i = n := by omega
    subst e
    exact .inl ⟨hstop τ H p, hd τ H p⟩
theorem for_by {J : It} {g : TG} {tb : TS} {D : Ends} {σ : St} {H : Hp} (n : Nat) (Pv : Nat → St → Hp → Prop) (h0 : Pv 0 σ H) (hgo : ∀ i σ H, i < n → Pv i σ H → J.go i H) (hstop : ∀ σ H, Pv n σ H → J.stop n H)
    (hs : ∀ i σ H x H', i < n → Pv i σ H → J.yld i H x H' → g x σ H' fun σ2 H2 => tb { D with nx := Pv (i + 1), ct := Pv (i + 1), bk := D.nx } σ2 H2) (hd : ∀ σ H, Pv n σ H → D.nx σ H) :
    ∃ W : Nat → Nat → St → Hp → Prop, (∃ m, W 0 m σ H) ∧ ∀ i m σ H, W i m σ H →
      (J.stop i H ∧ D.nx σ H) ∨ (J.go i H ∧ ∃ N : St → Hp → Prop, (∀ σ' H', N σ' H' → ∃ m', m' < m ∧ W (i + 1) m' σ' H') ∧ ∀ x H', J.yld i H x H' → g x σ H' fun σ2 H2 => tb { D with nx := N, ct := N, bk := D.nx } σ2 H2) := by
  refine ⟨fun i m σ H => m = n - i ∧ i ≤ n ∧ Pv i σ H, ⟨n, by simp, Nat.zero_le _, h0⟩, ?_⟩
  rintro i m σ H ⟨rfl, hi, p⟩
  by_cases hlt : i < n
  · exact .inr ⟨hgo i σ H hlt p, Pv (i + 1), fun σ' H' p' => ⟨n - (i + 1), by omega, rfl, hlt, p'⟩, fun x H' y => hs i σ H x H' hlt p y⟩
  · have e : i = n := by omega
    subst e
    exact .inl ⟨hstop σ H p, hd σ H p⟩
section
variable {prog : Program} {w : World} {A : Around} {E : Value → Shared → Prop} {s : Shared}
theorem collect_tuple {l : Addr} {vs : List Value} {Q : List Value → Shared → Prop} (hl : s.heap.IsTuple l vs.toArray)
    (h : Q vs { s with heap := (s.heap.push (seqObj "list" #[] 0)).update s.heap.objs.size (Obj.mapSeq (· ++ vs.toArray)) }) (hsz : vs.length ≤ sizeLine := by size_fits) :
    wpAny (model prog w) A (collect (.ref l)) Q E s := by
  obtain ⟨o, ho, hc, n, hd⟩ := id hl
  unfold collect
  refine wpAny_bind (wpAny_runValue (codeAny_builtin entry_proto_collect' ?_))
  show wpAny _ _ (do again (.builtin "list.__iadd__" ⟨[← newList [], .ref l], []⟩)) _ _ s
  refine wpAny_bind (wpAny_newList (wpAny_pure ⟨Code.quiet_builtin _ (by decide +kernel), codeAny_builtin entry_list_iadd' ?_⟩))
  show wpAny _ _ (Builtin.List.listExtendWith (.ref s.heap.objs.size) (.ref l) (.ref s.heap.objs.size)) _ _ { s with heap := s.heap.push (seqObj "list" #[] 0) }
  unfold Builtin.List.listExtendWith
  have ho' : (s.heap.push (seqObj "list" #[] 0)).get? l = some o := Heap.get?_push_of_some _ ho
  refine wpAny_bind (wpAny_typeOf (T := "tuple") ⟨o, ho', hc⟩ ?_)
  have ht : (Value.type "tuple" == Value.type "tuple") = true := by rfl
  rw [if_pos (by rw [ht]; simp)]
  refine wpAny_bind (listItems_at ho' hd ?_)
  refine wpAny_bind (listItems_at (xs := #[]) (n := 0) (Heap.get?_push_size _ rfl) rfl ?_)
  rw [if_neg (by simp)]
  refine wpAny_bind (listUpdate_at (xs := #[]) (n := 0) (Heap.get?_push_size _ rfl) rfl ?_ (Nat.zero_le _) (by show (#[] ++ vs.toArray).size ≤ sizeLine + 1; simp only [Array.size_append, List.size_toArray, List.length_nil]; omega))
  refine wpAny_pure ?_
  show wpAny (model prog w) A (do
      let o ← load s.heap.objs.size
      match o.data with
      | .seq xs _ => pure xs.toList
      | _ => unsupported "internal:collect") Q E { s with heap := (s.heap.push (seqObj "list" #[] 0)).update s.heap.objs.size (Obj.mapSeq (· ++ vs.toArray)) }
  refine wpAny_bind (wpAny_load (get?_update_seq (Heap.get?_push_size _ rfl) _) ?_)
  show wpAny _ _ (pure ((#[] : Array Value) ++ vs.toArray).toList) Q E _
  rw [show ((#[] : Array Value) ++ vs.toArray).toList = vs by simp]
  exact wpAny_pure h
theorem sorted_tuple {l : Addr} {vs : List Value} {ns : List Int} {Q : Value → Shared → Prop} (hl : s.heap.IsTuple l vs.toArray) (hI : IntsAre vs ns) (h64 : vs.length < 64)
    (h : ∀ (out : Array Value) (ns' : List Int), IntsAre out.toList ns' → ns'.Perm ns → ns'.Pairwise (· ≤ ·) → Q (.ref (s.heap.objs.size + 1)) { s with heap := sortedAll s.heap vs out }) :
    wpAny (model prog w) A (call (.builtin "sorted") [.ref l]) Q E s := by
  refine Calls.call_function_entry kind_sorted plain_sorted entry_sorted (args_sorted1 _) ?_
  unfold Builtin.«sorted»
  refine wpAny_bind (m := checkCount "sorted" 1 1 _) (wpAny_pure ?_)
  refine wpAny_bind (collect_tuple hl ?_ (by have : (64 : Nat) ≤ sizeLine := by decide
                                             omega))
  refine wpAny_bind (wpAny_newList ?_)
  have hsz : ((s.heap.push (seqObj "list" #[] 0)).update s.heap.objs.size (Obj.mapSeq (· ++ vs.toArray))).objs.size = s.heap.objs.size + 1 := by
    rw [Heap.size_update, size_push']
  have hoL : (((s.heap.push (seqObj "list" #[] 0)).update s.heap.objs.size (Obj.mapSeq (· ++ vs.toArray))).push (seqObj "list" vs.toArray 0)).get? (s.heap.objs.size + 1) = some (seqObj "list" vs.toArray 0) := by
    rw [← hsz]; exact Heap.get?_push_size _ rfl
  show wpAny _ _ _ _ _ { s with heap := ((s.heap.push (seqObj "list" #[] 0)).update s.heap.objs.size (Obj.mapSeq (· ++ vs.toArray))).push (seqObj "list" vs.toArray 0) }
  rw [hsz]
  refine wpAny_bind (wpAny_holding (wpAny_call_entry slot_list_sort ⟨_, hoL, rfl⟩ entry_list_sort (list_sort_tree hoL hI h64 fun out ns' a1 a2 a3 => ⟨_, rfl, ?_⟩) (args_list_sort _)))
  exact wpAny_pure ⟨_, rfl, h out ns' a1 a2 a3⟩
end
section
variable {X : Cx}
def rSorted (K : PySem.W.Frag) : List V → Hp → VK → Prop := fun xs H Q => ∃ (p : Addr) (ns : List Int), xs = [.ref p] ∧ (SqL K H p (ns.map V.int) ∨ SqT K H p (ns.map V.int)) ∧ ns.length < 64 ∧ ∀ (l : Addr) (ms : List Int), H l = none → ms.Perm ns → ms.Pairwise (· ≤ ·) → Q (.ref l) (upd H l (.lst (ms.map V.int)))
theorem vals_intsAre : ∀ {us : List Value} {ns : List Int}, IntsAre us ns → Vals (ns.map V.int) us
  | _, _, .nil => .nil
  | _, _, .cons n t r => .cons ⟨t, rfl⟩ (vals_intsAre r)
theorem call_sorted : CallR X (.builtin "sorted") (rSorted X.K) := by
  intro pins s σ H xs us Q I r h
  obtain ⟨p, ns, rfl, hq, h64, q⟩ := h
  obtain ⟨u, rfl, ru⟩ := r.one
  cases ru
  have fin : ∀ (its : List Value) (out : Array Value) (ms : List Int), IntsAre out.toList ms → ms.Perm ns → ms.Pairwise (· ≤ ·) → EP X pins σ Q (.ref (s.heap.objs.size + 1)) { s with heap := sortedAll s.heap its out } := fun its out ms a1 a2 a3 => by
    obtain ⟨e, he⟩ := sortedAll_at s.heap its out
    have hn : H (s.heap.objs.size + 1) = none := I.hok.fresh (Nat.le_succ _)
    have hv := vals_intsAre a1
    have hms : ms.length = ns.length := a2.length_eq
    refine ⟨.ref (s.heap.objs.size + 1), _, I.laid (a := s.heap.objs.size + 1) (o := .lst (ms.map V.int)) (t' := s.toks) (fun b o => sortedAll_old) (Nat.le_succ _) ⟨?_, out.toList, e, hv, ?_⟩, rfl, q _ ms hn a2 a3⟩
    · rw [List.length_map, hms]
      exact Nat.le_trans (Nat.le_of_lt h64) (by decide)
    · rw [Array.toArray_toList]
      exact he
  rcases hq with hq | hq
  · obtain ⟨its, rv, pl, hz⟩ := I.list hq
    have hl := rv.length
    rw [List.length_map] at hl
    exact sorted_ints pl.isList (intsAre_of rv) (by omega) fun out ms a1 a2 a3 => fin its out ms a1 a2 a3
  · obtain ⟨its, rv, pl, hz⟩ := I.tuple hq
    have hl := rv.length
    rw [List.length_map] at hl
    exact sorted_tuple pl (intsAre_of rv) (by omega) fun out ms a1 a2 a3 => fin its out ms a1 a2 a3
theorem isi_list : CallR X (.builtin "isinstance") (fun xs H Q => ∃ p ys, xs = [.ref p, .ty "list"] ∧ SqL X.K H p ys ∧ Q (.bl true) H) := by
  intro pins s σ H xs us Q I r h
  obtain ⟨p, ys, rfl, hq, q⟩ := h
  obtain ⟨u, v, rfl, ru, rv⟩ := r.two
  cases ru; cases rv
  obtain ⟨its, _, ⟨o, n, ho, hc, _⟩, _⟩ := I.list hq
  exact IsiPair.list_list ho hc ⟨.bl true, H, I, rfl, q⟩
theorem isi_tuple : CallR X (.builtin "isinstance") (fun xs H Q => ∃ p ys, xs = [.ref p, .ty "tuple"] ∧ SqT X.K H p ys ∧ Q (.bl true) H) := by
  intro pins s σ H xs us Q I r h
  obtain ⟨p, ys, rfl, hq, q⟩ := h
  obtain ⟨u, v, rfl, ru, rv⟩ := r.two
  cases ru; cases rv
  obtain ⟨its, _, ⟨o, ho, hc, _⟩, _⟩ := I.tuple hq
  exact IsiPair.tuple_tuple ho hc ⟨.bl true, H, I, rfl, q⟩
end
end L2
end
section
namespace L2
open PySem PySem.Spec PyProof.Rows
abbrev Rep (α : Type) := Hp → α → V → Prop
def rInt : Rep Int := fun _ i v => v = .int i
def rTup (K : PySem.W.Frag) {α : Type} (R : Rep α) : Rep (List α) := fun H as v => ∃ p xs, v = .ref p ∧ SqT K H p xs ∧ Paired (R H) as xs
def rLst (K : PySem.W.Frag) {α : Type} (R : Rep α) : Rep (List α) := fun H as v => ∃ p xs, v = .ref p ∧ SqL K H p xs ∧ Paired (R H) as xs
theorem Paired.get {α β : Type} {F : α → β → Prop} : ∀ {l₁ : List α} {l₂ : List β} {i : Nat} {b : β}, Paired F l₁ l₂ → l₂[i]? = some b → ∃ a, l₁[i]? = some a ∧ F a b
  | _, _, _, _, .nil, e => by simp at e
  | _, _, 0, _, .cons r _, e => by simp at e; subst e; exact ⟨_, rfl, r⟩
  | _, _, i + 1, b, .cons _ t, e => by
    obtain ⟨a, h1, h2⟩ := Paired.get (i := i) (b := b) t (by simpa using e)
    exact ⟨a, by simpa using h1, h2⟩
theorem Paired.getL {α β : Type} {F : α → β → Prop} : ∀ {l₁ : List α} {l₂ : List β} {i : Nat} {a : α}, Paired F l₁ l₂ → l₁[i]? = some a → ∃ b, l₂[i]? = some b ∧ F a b
  | _, _, _, _, .nil, e => by simp at e
  | _, _, 0, _, .cons r _, e => by simp at e; subst e; exact ⟨_, rfl, r⟩
  | _, _, i + 1, a, .cons _ t, e => by
    obtain ⟨b, h1, h2⟩ := Paired.getL (i := i) (a := a) t (by simpa using e)
    exact ⟨b, by simpa using h1, h2⟩
theorem Paired.app {α β : Type} {F : α → β → Prop} : ∀ {l₁ m₁ : List α} {l₂ m₂ : List β}, Paired F l₁ l₂ → Paired F m₁ m₂ → Paired F (l₁ ++ m₁) (l₂ ++ m₂)
  | _, _, _, _, .nil, s => s
  | _, _, _, _, .cons r t, s => .cons r (Paired.app t s)
theorem Paired.one {α β : Type} {F : α → β → Prop} {a : α} {b : β} (h : F a b) : Paired F [a] [b] := .cons h .nil
theorem Paired.uniq {α β : Type} {F : α → β → Prop} (fn : ∀ a a' b, F a b → F a' b → a = a') : ∀ {l₁ l₁' : List α} {l₂ : List β}, Paired F l₁ l₂ → Paired F l₁' l₂ → l₁ = l₁'
  | _, _, _, .nil, .nil => rfl
  | _, _, _, .cons r t, .cons r' t' => by rw [fn _ _ _ r r', Paired.uniq fn t t']
theorem paired_ints {H : Hp} : ∀ (ns : List Int), Paired (rInt H) ns (ns.map V.int)
  | [] => .nil
  | _ :: r => .cons rfl (paired_ints r)
theorem ints_paired {H : Hp} : ∀ {ns : List Int} {xs : List V}, Paired (rInt H) ns xs → xs = ns.map V.int
  | _, _, .nil => rfl
  | _, _, .cons r t => by rw [List.map_cons, ← ints_paired t]; exact congrArg (· :: _) r
structure Dat (X : Cx) {α : Type} [DecidableEq α] (n : Nat) (R : Rep α) : Prop where
  eq : ∀ (pins : List (Addr × Obj)) (s : Shared) (σ : St) (H : Hp) (A : Around) (a b : α) (x y : V) (u v : Value), Inv X pins σ H s → A.units + n < cLine → R H a x → R H b y → RelV x u → RelV y v → SeqAt.EqAt A s u v (decide (a = b))
  fn : ∀ (pins : List (Addr × Obj)) (s : Shared) (σ : St) (H : Hp) (a b : α) (x : V), Inv X pins σ H s → R H a x → R H b x → a = b
section
variable {X : Cx} {α : Type} [DecidableEq α] {n : Nat} {R : Rep α}
theorem dat_int : Dat X 0 rInt where
  eq := fun pins s σ H A a b x y u v I hu ha hb ru rv => by
    cases ha; cases hb
    obtain ⟨t, rfl⟩ := ru
    obtain ⟨t', rfl⟩ := rv
    have e := SeqAt.EqAt.int_int (A := A) (s := s) a t b t'
    rw [Bool.beq_eq_decide_eq] at e
    exact e
  fn := fun pins s σ H a b x I ha hb => by
    cases ha
    exact (V.int.inj hb)
theorem all_places {as bs : List α} {m k : Nat} (h1 : as.length = m) (h2 : bs.length = k) : ((List.range (min m k)).all (fun j => decide (as[j]? = bs[j]?)) && m == k) = decide (as = bs) := by
  subst h1; subst h2
  by_cases e : as = bs
  · subst e
    simp
  · rw [decide_eq_false e]
    cases q : ((List.range (min as.length bs.length)).all (fun j => decide (as[j]? = bs[j]?)) && as.length == bs.length) with
    | false => rfl
    | true =>
      rw [Bool.and_eq_true] at q
      obtain ⟨q1, q2⟩ := q
      have hl : as.length = bs.length := by simpa using q2
      refine absurd (List.ext_getElem? fun j => ?_) e
      by_cases hj : j < as.length
      · exact of_decide_eq_true (List.all_eq_true.mp q1 j (List.mem_range.mpr (by omega)))
      · rw [List.getElem?_eq_none (by omega), List.getElem?_eq_none (by omega)]
theorem Dat.place (D : Dat X n R) {pins : List (Addr × Obj)} {s : Shared} {σ : St} {H : Hp} {A : Around} (I : Inv X pins σ H s) (hu : A.units + n < cLine) {as bs : List α} {xs ys : List V} {its jts : List Value}
    (pa : Paired (R H) as xs) (pb : Paired (R H) bs ys) (ra : Vals xs its) (rb : Vals ys jts) : ∀ (j : Nat) (h1 : j < its.toArray.size) (h2 : j < jts.toArray.size), SeqAt.EqAt A s its.toArray[j] jts.toArray[j] (decide (as[j]? = bs[j]?)) := by
  intro j h1 h2
  rw [List.size_toArray] at h1 h2
  have hx : j < xs.length := by rw [ra.length]; exact h1
  have hy : j < ys.length := by rw [rb.length]; exact h2
  have ex : xs[j]? = some xs[j] := List.getElem?_eq_getElem hx
  have ey : ys[j]? = some ys[j] := List.getElem?_eq_getElem hy
  obtain ⟨u, hu1, ru⟩ := ra.get ex
  obtain ⟨v, hv1, rv⟩ := rb.get ey
  obtain ⟨a, ha, qa⟩ := Paired.get pa ex
  obtain ⟨b, hb, qb⟩ := Paired.get pb ey
  have e1 : its.toArray[j] = u := by
    rw [List.getElem_toArray]
    rw [List.getElem?_eq_getElem h1] at hu1
    exact Option.some.inj hu1
  have e2 : jts.toArray[j] = v := by
    rw [List.getElem_toArray]
    rw [List.getElem?_eq_getElem h2] at hv1
    exact Option.some.inj hv1
  rw [e1, e2, ha, hb]
  have e3 : decide (some a = some b) = decide (a = b) := by simp
  rw [e3]
  exact D.eq pins s σ H A a b _ _ u v I hu qa qb ru rv
theorem dat_tup (D : Dat X n R) : Dat X (n + 1) (rTup X.K R) where
  eq := fun pins s σ H A as bs x y u v I hu ha hb ru rv => by
    obtain ⟨p, xs, rfl, hp, pa⟩ := ha
    obtain ⟨q, ys, rfl, hq, pb⟩ := hb
    cases ru; cases rv
    by_cases e : p = q
    · subst e
      have exy := I.tuple_inj hp hq
      subst exy
      have eab : as = bs := Paired.uniq (fun a a' b h1 h2 => D.fn pins s σ H a a' b I h1 h2) pa pb
      subst eab
      rw [decide_eq_true rfl]
      exact SeqAt.EqAt.same _
    · obtain ⟨its, ra, ta, _⟩ := I.tuple hp
      obtain ⟨jts, rb, tb, _⟩ := I.tuple hq
      have l1 : as.length = its.toArray.size := by rw [List.size_toArray, ← ra.length]; exact Paired.length pa
      have l2 : bs.length = jts.toArray.size := by rw [List.size_toArray, ← rb.length]; exact Paired.length pb
      have r := SeqAt.RcAt.tuples (A := A) (s := s) (e := fun j => decide (as[j]? = bs[j]?)) ta tb (by omega) (D.place (A := A.in1) I (by show A.units + 1 + n < cLine; omega) pa pb ra rb)
      rw [all_places l1 l2] at r
      exact .of_refs e r
  fn := fun pins s σ H as bs x I ha hb => by
    obtain ⟨p, xs, rfl, hp, pa⟩ := ha
    obtain ⟨q, ys, e, hq, pb⟩ := hb
    cases e
    have exy := I.tuple_inj hp hq
    subst exy
    exact Paired.uniq (fun a a' b h1 h2 => D.fn pins s σ H a a' b I h1 h2) pa pb
open Classical in
noncomputable def isDat (R : Rep α) (H : Hp) (a : α) (u : Value) : Bool := decide (∃ z, RelV z u ∧ R H a z)
theorem isDat_eq (D : Dat X n R) {pins : List (Addr × Obj)} {s : Shared} {σ : St} {H : Hp} (I : Inv X pins σ H s) {a b : α} {z : V} {u : Value} (rz : RelV z u) (hb : R H b z) : isDat R H a u = decide (b = a) := by
  unfold isDat
  by_cases e : b = a
  · subst e
    rw [decide_eq_true rfl]
    exact @decide_eq_true _ (Classical.propDecidable _) ⟨z, rz, hb⟩
  · rw [decide_eq_false e]
    refine @decide_eq_false _ (Classical.propDecidable _) ?_
    rintro ⟨z', rz', h'⟩
    have ez : z' = z := rz'.inj rz
    subst ez
    exact e (D.fn pins s σ H b a z' I hb h')
theorem any_dat (D : Dat X n R) {pins : List (Addr × Obj)} {s : Shared} {σ : St} {H : Hp} (I : Inv X pins σ H s) {a : α} : ∀ {as : List α} {xs : List V} {its : List Value}, Paired (R H) as xs → Vals xs its → its.any (isDat R H a) = decide (a ∈ as)
  | _, _, _, .nil, .nil => by simp
  | _, _, _, .cons (l₁ := as) r t, .cons rv tv => by
    rw [List.any_cons, isDat_eq D I rv r, any_dat D I t tv]
    rename_i b _ _ _ _
    by_cases e : b = a
    · subst e; simp
    · have e' : ¬ a = b := fun z => e z.symm
      simp [e, e']
theorem mem_dat (D : Dat X n R) {pins : List (Addr × Obj)} {s : Shared} {σ : St} {H : Hp} {A : Around} (I : Inv X pins σ H s) (hu : A.units + n < cLine) {a : α} {x : V} {v : Value} (rx : RelV x v) (ha : R H a x) :
    ∀ {as : List α} {xs : List V} {its : List Value}, Paired (R H) as xs → Vals xs its → ∀ u ∈ its, SeqAt.EqAt A s u v (isDat R H a u)
  | _, _, _, .nil, .nil => fun u hm => by cases hm
  | _, _, _, .cons r t, .cons rv tv => fun u hm => by
    rcases List.mem_cons.mp hm with rfl | hm
    · rw [isDat_eq D I rv r]
      exact D.eq pins s σ H A _ a _ x _ v I hu r ha rv rx
    · exact mem_dat D I hu rx ha t tv u hm
def rInL (K : PySem.W.Frag) {α : Type} [DecidableEq α] (R : Rep α) (neg : Bool) : R2 := fun x y H Q => ∃ a as, R H a x ∧ (rLst K R H as y ∨ rTup K R H as y) ∧ Q (.bl (if neg then !decide (a ∈ as) else decide (a ∈ as))) H
theorem op_inL (D : Dat X n R) (hu : X.A.units + (n + 1) < cLine) : OpR X (compareOp .In) (rInL X.K R false) := by
  intro pins s σ H x y v u Q I rx ry h
  obtain ⟨a, as, ha, hs, h⟩ := h
  have hu1 : X.A.in1.units + n < cLine := by show X.A.units + 1 + n < cLine; omega
  rcases hs with ⟨p, xs, rfl, hp, pa⟩ | ⟨p, xs, rfl, hp, pa⟩
  · cases ry
    obtain ⟨its, r, pl, _⟩ := I.list hp
    refine SeqAt.in_listAt (isDat R H a) pl.isList (fun w hw => mem_dat D I hu1 rx ha pa r w (by simpa using hw)) ⟨.bl _, H, I, rfl, ?_⟩
    rw [show its.toArray.any (isDat R H a) = its.any (isDat R H a) by simp, any_dat D I pa r]
    exact h
  · cases ry
    obtain ⟨its, r, pl, _⟩ := I.tuple hp
    refine SeqAt.in_tupleAt (isDat R H a) pl (fun w hw => mem_dat D I hu1 rx ha pa r w (by simpa using hw)) ⟨.bl _, H, I, rfl, ?_⟩
    rw [show its.toArray.any (isDat R H a) = its.any (isDat R H a) by simp, any_dat D I pa r]
    exact h
theorem op_notInL (D : Dat X n R) (hu : X.A.units + (n + 1) < cLine) : OpR X (compareOp .NotIn) (rInL X.K R true) := by
  intro pins s σ H x y v u Q I rx ry h
  obtain ⟨a, as, ha, hs, h⟩ := h
  have hu1 : X.A.in1.units + n < cLine := by show X.A.units + 1 + n < cLine; omega
  rcases hs with ⟨p, xs, rfl, hp, pa⟩ | ⟨p, xs, rfl, hp, pa⟩
  · cases ry
    obtain ⟨its, r, pl, _⟩ := I.list hp
    refine SeqAt.notIn_listAt (isDat R H a) pl.isList (fun w hw => mem_dat D I hu1 rx ha pa r w (by simpa using hw)) ⟨.bl _, H, I, rfl, ?_⟩
    rw [show its.toArray.any (isDat R H a) = its.any (isDat R H a) by simp, any_dat D I pa r]
    exact h
  · cases ry
    obtain ⟨its, r, pl, _⟩ := I.tuple hp
    refine SeqAt.notIn_tupleAt (isDat R H a) pl (fun w hw => mem_dat D I hu1 rx ha pa r w (by simpa using hw)) ⟨.bl _, H, I, rfl, ?_⟩
    rw [show its.toArray.any (isDat R H a) = its.any (isDat R H a) by simp, any_dat D I pa r]
    exact h
end
def TSm (H H' : Hp) : Prop := ∀ b u, H b = some u → (∃ xs, u = .tup xs ∨ ∃ o, u = .frz o (.tup xs)) → H' b = some u
theorem TSm.trans {H H1 H2 : Hp} (a : TSm H H1) (b : TSm H1 H2) : TSm H H2 := fun c u h t => b c u (a c u h t) t
theorem Same.ts {H H' : Hp} (e : Same H H') : TSm H H' := fun b u h _ => e b u h
theorem TSm.lst {H : Hp} {l : Addr} {xs : List V} {o : HO} (h : H l = some (.lst xs)) : TSm H (upd H l o) := fun b u hb t => by
  rw [upd_ne ?_]
  · exact hb
  · rintro rfl
    rw [h] at hb
    cases hb
    obtain ⟨ys, e | ⟨o, e⟩⟩ := t
    · cases e
    · cases e
theorem TSm.new {H : Hp} {p : Addr} {o : HO} (h : H p = none) : TSm H (upd H p o) := fun b u hb _ => by rw [upd_ne (ne_of_none hb h)]; exact hb
theorem TSm.seq {K : PySem.W.Frag} {H H' : Hp} {a : Addr} {xs : List V} (e : TSm H H') (h : SqT K H a xs) : SqT K H' a xs := by
  rcases h with (h | ⟨o, h⟩) | h
  · exact .inl (.inl (e _ _ h ⟨xs, .inl rfl⟩))
  · exact .inl (.inr ⟨o, e _ _ h ⟨xs, .inr ⟨o, rfl⟩⟩⟩)
  · exact .inr h
theorem Paired.imp {α β : Type} {F G : α → β → Prop} (f : ∀ a b, F a b → G a b) : ∀ {l₁ : List α} {l₂ : List β}, Paired F l₁ l₂ → Paired G l₁ l₂
  | _, _, .nil => .nil
  | _, _, .cons r t => .cons (f _ _ r) (Paired.imp f t)
def TRep {α : Type} (R : Rep α) : Prop := ∀ H H' a x, TSm H H' → R H a x → R H' a x
theorem trep_int : TRep rInt := fun _ _ _ _ _ h => h
theorem trep_tup {K : PySem.W.Frag} {α : Type} {R : Rep α} (t : TRep R) : TRep (rTup K R) := fun H H' as x e h => by
  obtain ⟨p, xs, rfl, hp, pa⟩ := h
  exact ⟨p, xs, rfl, e.seq hp, Paired.imp (fun a b => t H H' a b e) pa⟩
theorem rLst_same {K : PySem.W.Frag} {α : Type} {R : Rep α} (t : TRep R) {H H' : Hp} {as : List α} {x : V} (e : Same H H') (h : rLst K R H as x) : rLst K R H' as x := by
  obtain ⟨p, xs, rfl, hp, pa⟩ := h
  exact ⟨p, xs, rfl, e.seq hp, Paired.imp (fun a b => t H H' a b e.ts) pa⟩
theorem Same.new {H : Hp} {p : Addr} (h : H p = none) (o : HO) : Same H (upd H p o) := fun b u q => by rw [upd_ne (ne_of_none q h)]; exact q
abbrev rPair (K : PySem.W.Frag) : Rep (List Int) := rTup K rInt
theorem rPair_of {K : PySem.W.Frag} {H : Hp} {p : Addr} {ns : List Int} (h : H p = some (.tup (ns.map V.int))) : rPair K H ns (.ref p) := ⟨p, _, rfl, SqT.of h, paired_ints ns⟩
theorem rPair_seq {K : PySem.W.Frag} {H : Hp} {ns : List Int} {x : V} (h : rPair K H ns x) : ∃ p, x = .ref p ∧ SqT K H p (ns.map V.int) := by
  obtain ⟨p, xs, rfl, hp, pa⟩ := h
  rw [ints_paired pa] at hp
  exact ⟨p, rfl, hp⟩
def rSeq (K : PySem.W.Frag) : Rep (List Int) := fun H t x => rLst K rInt H t x ∨ rPair K H t x
theorem rSeq_seq {K : PySem.W.Frag} {H : Hp} {ns : List Int} {x : V} (h : rSeq K H ns x) : ∃ p, x = .ref p ∧ (SqL K H p (ns.map V.int) ∨ SqT K H p (ns.map V.int)) := by
  rcases h with ⟨p, xs, rfl, hp, pa⟩ | h
  · rw [ints_paired pa] at hp
    exact ⟨p, rfl, .inl hp⟩
  · obtain ⟨p, e, hp⟩ := rPair_seq h
    exact ⟨p, e, .inr hp⟩
end L2
end
section
namespace L2
open PySem PySem.Spec PyProof.Rows
section
variable {K : PySem.W.Frag} {a D : Addr} {xs : List V} {g : TG} {tc : TT} {te : TE} {R : Hp → Prop} {τ : St} {H : Hp}
abbrev putD (D : Addr) (N : St → Hp → Prop) (te : TE) (τ2 : St) : Bool → Hp → Prop := fun b H3 => if b = true then te τ2 H3 fun v H4 => ∃ ys, H4 D = some (.lst ys) ∧ ys.length < sizeLine ∧ N τ2 (upd H4 D (.lst (ys ++ [v]))) else N τ2 H3
theorem yesD {N : St → Hp → Prop} (h : te τ H fun v H4 => ∃ ys, H4 D = some (.lst ys) ∧ ys.length < sizeLine ∧ N τ (upd H4 D (.lst (ys ++ [v])))) : tYes τ H (putD D N te τ) := by
  show putD D N te τ true H
  unfold putD
  rw [if_pos rfl]
  exact h
theorem yesN {N : St → Hp → Prop} {i : Nat} {x : V} (h : te (τ.set i (some x)) H fun v H4 => ∃ ys, H4 D = some (.lst ys) ∧ ys.length < sizeLine ∧ N (τ.set i (some x)) (upd H4 D (.lst (ys ++ [v])))) : gName i x τ H fun τ2 H2 => tYes τ2 H2 (putD D N te τ2) := yesD h
theorem turns_list (Pv : Nat → St → Hp → Prop) (h0 : Pv 0 τ H) (hl : ∀ i τ H, i ≤ xs.length → Pv i τ H → SqL K H a xs)
    (hs : ∀ i x τ H, xs[i]? = some x → Pv i τ H → g x τ H fun τ2 H2 => tc τ2 H2 (putD D (Pv (i + 1)) te τ2)) (hd : ∀ τ H, Pv xs.length τ H → R H) : tTurns (Itl K a) D g tc te R τ H := by
  refine turns_by xs.length Pv h0 (fun i τ H hi p => ⟨xs, xs[i], hl i τ H (Nat.le_of_lt hi) p, by simp [hi]⟩) (fun τ H p => ⟨xs, hl _ τ H (Nat.le_refl _) p, Nat.le_refl _⟩) (fun i τ H x H' hi p y => ?_) hd
  obtain ⟨e, y⟩ := y
  subst e
  exact hs i x τ _ (y xs (hl i τ _ (Nat.le_of_lt hi) p)) p
theorem turns_range {lo : Int} {n : Nat} (Pv : Nat → St → Hp → Prop) (h0 : Pv 0 τ H)
    (hs : ∀ i τ H, i < n → Pv i τ H → g (.int (lo + i)) τ H fun τ2 H2 => tc τ2 H2 (putD D (Pv (i + 1)) te τ2)) (hd : ∀ τ H, Pv n τ H → R H) : tTurns (Itr lo n) D g tc te R τ H := by
  refine turns_by n Pv h0 (fun i τ H hi p => hi) (fun τ H p => Nat.le_refl _) (fun i τ H x H' hi p y => ?_) hd
  obtain ⟨e, y⟩ := y
  subst e y
  exact hs i τ _ hi p
theorem turns_enum {S : Hp → List V → Prop} (Pv : Nat → St → Hp → Prop) (h0 : Pv 0 τ H) (hl : ∀ i τ H, i ≤ xs.length → Pv i τ H → S H xs)
    (hs : ∀ i x τ H T, xs[i]? = some x → H T = none → Pv i τ H → g (.ref T) τ (upd H T (.tup [.int i, x])) fun τ2 H2 => tc τ2 H2 (putD D (Pv (i + 1)) te τ2)) (hd : ∀ τ H, Pv xs.length τ H → R H) : tTurns (Ien S) D g tc te R τ H := by
  refine turns_by xs.length Pv h0 (fun i τ H hi p => ⟨xs, xs[i], hl i τ H (Nat.le_of_lt hi) p, by simp [hi]⟩) (fun τ H p => ⟨xs, hl _ τ H (Nat.le_refl _) p, rfl⟩) (fun i τ H x H' hi p y => ?_) hd
  obtain ⟨T, z, rfl, hT, rfl, y⟩ := y
  exact hs i z τ H T (y xs (hl i τ _ (Nat.le_of_lt hi) p)) hT p
end
theorem un_of {A : Around} {k n : Nat} (hr : Room k A) (h : n ≤ 64 := by decide) : A.units + n < cLine := Nat.lt_of_le_of_lt (Nat.add_le_add_left h _) hr.units
section
variable {X : Cx} {K : PySem.W.Frag} {pos : Pos}
theorem pg_tupK (hK : X.K = K) {es : List Expr} {k : Nat} {t : TGs} {n : Nat} (hc : X.calm = true) (h : PGs X es t)
    (hn : (assignEach es X.env).length = n := by rfl) (hst : (assignEach es X.env).findIdx? (·.1) = none := by rfl) : PG X (.Tuple es k pos) (gTup K n t) := by subst hK; exact pg_tup hc h hn hst
theorem op_in_seqK (hK : X.K = K) : OpR X (compareOp .In) (rIn K false) := by subst hK; exact op_in_seq
theorem call_len_seqK (hK : X.K = K) : CallR X (.builtin "len") (fun xs H Q => ∃ p ys, xs = [.ref p] ∧ (SqL K H p ys ∨ SqT K H p ys) ∧ Q (.int ys.length) H) := by subst hK; exact call_len_seq
theorem ix_tupK (hK : X.K = K) : IxR X (rIxT K) := by subst hK; exact ix_tup
end
theorem inV_ints (x : Int) : ∀ (tie : List Int), inV (.int x) (tie.map V.int) = decide (x ∈ tie)
  | [] => rfl
  | z :: r => by
    have ih := inV_ints x r
    unfold inV at ih ⊢
    rw [List.map_cons, List.any_cons, ih]
    show ((z == x) || decide (x ∈ r)) = decide (x ∈ z :: r)
    by_cases e : z = x
    · subst e; simp
    · have e' : ¬ x = z := fun q => e q.symm
      simp [e, e']
theorem iteNN {c A B : Prop} {inst : Decidable c} (hc : ¬ c) (h : A) : if (!decide c) = true then A else B := by
  rw [decide_eq_false hc]
  exact iteT h
theorem iteNP {c A B : Prop} {inst : Decidable c} (hc : c) (h : B) : if (!decide c) = true then A else B := by
  rw [decide_eq_true hc]
  exact iteF h
theorem iteN {c A B : Prop} {inst : Decidable c} (hc : ¬ c) (h : B) : if decide c = true then A else B := by
  rw [decide_eq_false hc]
  exact iteF h
theorem iteP {c A B : Prop} {inst : Decidable c} (hc : c) (h : A) : if decide c = true then A else B := by
  rw [decide_eq_true hc]
  exact iteT h
theorem atI_ints {ns : List Int} {k : Int} (h0 : 0 ≤ k) (h : k < (ns.length : Int)) : ∃ v : Int, atI (ns.map V.int) k = some (.int v) := by
  have hk : k.toNat < ns.length := by omega
  have ek : k = ((k.toNat : Nat) : Int) := by omega
  have q : atI (ns.map V.int) ((k.toNat : Nat) : Int) = some (.int ns[k.toNat]) := atI_nat (by rw [List.getElem?_map, List.getElem?_eq_getElem hk] <;> rfl)
  rw [← ek] at q
  exact ⟨_, q⟩
theorem small {n : Nat} (h : n ≤ 1000) : n ≤ sizeLine := Nat.le_of_lt (small1000 h)
def srt : List Int → List Int
  | [a, b] => if b < a then [b, a] else [a, b]
  | t => t
theorem srt_pair (a b : Int) : srt [a, b] = if b < a then [b, a] else [a, b] := rfl
theorem srt_mem {t : List Int} {p : Int} : p ∈ srt t ↔ p ∈ t := by
  unfold srt
  split
  · split
    · simp [or_comm]
    · rfl
  · rfl
theorem perm_pair {a b : Int} {ms : List Int} (h : ms.Perm [a, b]) (s : ms.Pairwise (· ≤ ·)) : ms = srt [a, b] := by
  have hl := h.length_eq
  match ms, hl, h, s with
  | [x, y], _, h, s =>
    have hxy : x ≤ y := by simpa using s
    have hx : x ∈ [a, b] := h.mem_iff.mp (by simp)
    have hy : y ∈ [a, b] := h.mem_iff.mp (by simp)
    have ha : a ∈ [x, y] := h.mem_iff.mpr (by simp)
    have hb : b ∈ [x, y] := h.mem_iff.mpr (by simp)
    simp only [List.mem_cons, List.not_mem_nil, or_false] at hx hy ha hb
    rw [srt_pair]
    split
    · have e1 : x = b := by omega
      have e2 : y = a := by omega
      rw [e1, e2]
    · have e1 : x = a := by omega
      have e2 : y = b := by omega
      rw [e1, e2]
def OkTie (m : Int) (t : List Int) : Prop := ∃ a b, t = [a, b] ∧ 0 ≤ a ∧ a < m ∧ 0 ≤ b ∧ b < m ∧ a ≠ b
structure OkTies (m : Int) (as : List (List Int)) : Prop where
  ok : ∀ t ∈ as, OkTie m t
  nd : (as.map srt).Nodup
theorem srt_new {m : Int} {as : List (List Int)} {a b : Int} (h : ∀ t ∈ as, OkTie m t) (h1 : [a, b] ∉ as) (h2 : [b, a] ∉ as) : srt [a, b] ∉ as.map srt := by
  intro hm
  obtain ⟨t, ht, e⟩ := List.mem_map.mp hm
  obtain ⟨c, d, rfl, _⟩ := h t ht
  have e' : [c, d] = [a, b] ∨ [c, d] = [b, a] := by
    rw [srt_pair, srt_pair] at e
    split at e <;> split at e <;> simp only [List.cons.injEq, and_true] at e ⊢ <;> omega
  rcases e' with e' | e'
  · exact h1 (e' ▸ ht)
  · exact h2 (e' ▸ ht)
theorem OkTies.snoc {m : Int} {as : List (List Int)} {a b : Int} (h : OkTies m as) (t : OkTie m [a, b]) (h1 : [a, b] ∉ as) (h2 : [b, a] ∉ as) : OkTies m (as ++ [[a, b]]) := by
  refine ⟨fun u hu => ?_, ?_⟩
  · rcases List.mem_append.mp hu with hu | hu
    · exact h.ok u hu
    · rw [List.mem_singleton.mp hu]; exact t
  · rw [List.map_append, List.map_singleton, List.nodup_append]
    refine ⟨h.nd, by simp, fun x hx y hy e => ?_⟩
    have hy' : y = srt [a, b] := by simpa using hy
    subst hy'
    exact srt_new h.ok h1 h2 (e ▸ hx)
theorem OkTies.take_new {m : Int} {as : List (List Int)} {i : Nat} {t : List Int} (h : OkTies m as) (ht : as[i]? = some t) : srt t ∉ (as.take i).map srt := by
  intro hm
  obtain ⟨u, hu, e⟩ := List.mem_map.mp hm
  obtain ⟨j, hj, ej⟩ := List.mem_iff_getElem.mp hu
  have hji : j < i := by rw [List.length_take] at hj; omega
  have hi : i < as.length := (List.getElem?_eq_some_iff.mp ht).1
  have et : as[i] = t := (List.getElem?_eq_some_iff.mp ht).2
  have eu : as[j]'(by omega) = u := by rw [← ej, List.getElem_take]
  have hnd := h.nd
  have := (List.getElem_inj (h₀ := by rw [List.length_map]; omega) (h₁ := by rw [List.length_map]; omega) hnd (i := j) (j := i)).mp (by rw [List.getElem_map, List.getElem_map, et, eu, e])
  omega
def hitsFrom (p : Int) : Nat → List (List Int) → List Int
  | _, [] => []
  | k, t :: r => if p ∈ t then (k : Int) :: hitsFrom p (k + 1) r else hitsFrom p (k + 1) r
theorem hits_snoc (p : Int) (t : List Int) : ∀ (k : Nat) (as : List (List Int)), hitsFrom p k (as ++ [t]) = hitsFrom p k as ++ (if p ∈ t then [((k + as.length : Nat) : Int)] else [])
  | k, [] => by
    show (if p ∈ t then (k : Int) :: hitsFrom p (k + 1) [] else hitsFrom p (k + 1) []) = _
    split <;> simp [hitsFrom]
  | k, u :: r => by
    have ih := hits_snoc p t (k + 1) r
    have e : k + 1 + r.length = k + (u :: r).length := by simp; omega
    rw [e] at ih
    show (if p ∈ u then (k : Int) :: hitsFrom p (k + 1) (r ++ [t]) else hitsFrom p (k + 1) (r ++ [t])) = (if p ∈ u then (k : Int) :: hitsFrom p (k + 1) r else hitsFrom p (k + 1) r) ++ _
    rw [ih]
    split <;> rfl
abbrev hits (p : Int) (as : List (List Int)) : List Int := hitsFrom p 0 as
theorem hits_take {p : Int} {as : List (List Int)} {i : Nat} {t : List Int} (h : as[i]? = some t) : hits p (as.take (i + 1)) = hits p (as.take i) ++ (if p ∈ t then [(i : Int)] else []) := by
  have hi : i < as.length := (List.getElem?_eq_some_iff.mp h).1
  have e : as.take (i + 1) = as.take i ++ [t] := by rw [List.take_add_one, h]; rfl
  rw [e, hits, hits_snoc]
  have : 0 + (as.take i).length = i := by rw [List.length_take]; omega
  rw [this]
theorem hits_srt (p : Int) : ∀ (k : Nat) (as : List (List Int)), hitsFrom p k (as.map srt) = hitsFrom p k as
  | _, [] => rfl
  | k, t :: r => by
    show (if p ∈ srt t then (k : Int) :: hitsFrom p (k + 1) (r.map srt) else hitsFrom p (k + 1) (r.map srt)) = (if p ∈ t then (k : Int) :: hitsFrom p (k + 1) r else hitsFrom p (k + 1) r)
    rw [hits_srt p (k + 1) r]
    by_cases h : p ∈ t
    · rw [if_pos h, if_pos (srt_mem.mpr h)]
    · rw [if_neg h, if_neg (fun z => h (srt_mem.mp z))]
theorem hits_len (p : Int) : ∀ (k : Nat) (as : List (List Int)), (hitsFrom p k as).length ≤ as.length
  | _, [] => Nat.le_refl _
  | k, t :: r => by
    have ih := hits_len p (k + 1) r
    show (if p ∈ t then (k : Int) :: hitsFrom p (k + 1) r else hitsFrom p (k + 1) r).length ≤ r.length + 1
    split
    · simp; exact ih
    · omega
end L2
end
section
namespace L2
open PySem PySem.Spec PyProof.Rows
section
variable {X : Cx} {K : PySem.W.Frag}
theorem max_list (hc : X.calm = true) : CallR X (.builtin "max") (fun xs H Q => ∃ (p : Addr) (ns : List Int), xs = [.ref p] ∧ SqL X.K H p (ns.map V.int) ∧ 0 < ns.length ∧ ∀ m, m ∈ ns → (∀ a ∈ ns, a ≤ m) → Q (.int m) H) := by
  intro pins s σ H xs us Q I r h
  obtain ⟨p, ns, rfl, hq, hne, q⟩ := h
  obtain ⟨u0, rfl, ru⟩ := r.one
  cases ru
  obtain ⟨its, rv, pl, hz⟩ := I.list hq
  have hi := intsAre_of rv
  have hl := pl.isList
  obtain ⟨ys, e⟩ := hi.allInts.items
  have hns : ns = ys.toList.map (·.1) := by rw [← hi.numsOf, ← nums_intItems, ← e]
  have hsz : 0 < ys.size := by
    rw [hns, List.length_map, Array.length_toList] at hne
    exact hne
  rw [e] at hl
  refine max_intList (I.ok.hd hc) hl hsz fun v h' tk hv hk => ?_
  obtain ⟨t, rfl⟩ := intItems_at hv
  obtain ⟨h1, h2⟩ := argBest_gt (numAt ys) (ys.size - 1)
  refine ⟨.int (numAt ys (argBest (fun i j => decide (numAt ys i > numAt ys j)) (ys.size - 1))), H, I.kept hk, ⟨t, rfl⟩, q _ ?_ fun a ha => ?_⟩
  · rw [hns, numAt_eq]
    exact getD_mem (by rw [List.length_map, Array.length_toList]; omega)
  · rw [hns] at ha
    obtain ⟨j, hj, rfl⟩ := mem_getD ha
    rw [List.length_map, Array.length_toList] at hj
    rw [← numAt_eq]
    exact h2 j (by omega)
end
theorem mem_hits {p x : Int} : ∀ {k : Nat} {as : List (List Int)}, x ∈ hitsFrom p k as ↔ ∃ i : Nat, ∃ t, as[i]? = some t ∧ p ∈ t ∧ x = ((k + i : Nat) : Int)
  | k, [] => by simp [hitsFrom]
  | k, u :: r => by
    have ih := @mem_hits p x (k + 1) r
    have e : hitsFrom p k (u :: r) = if p ∈ u then (k : Int) :: hitsFrom p (k + 1) r else hitsFrom p (k + 1) r := rfl
    rw [e]
    constructor
    · intro h
      split at h
      · rename_i hu
        rcases List.mem_cons.mp h with h | h
        · exact ⟨0, u, rfl, hu, by simpa using h⟩
        · obtain ⟨i, t, h1, h2, h3⟩ := ih.mp h
          exact ⟨i + 1, t, by simpa using h1, h2, by rw [h3]; congr 1; omega⟩
      · obtain ⟨i, t, h1, h2, h3⟩ := ih.mp h
        exact ⟨i + 1, t, by simpa using h1, h2, by rw [h3]; congr 1; omega⟩
    · rintro ⟨i, t, h1, h2, h3⟩
      cases i with
      | zero =>
        have : u = t := by simpa using h1
        subst this
        rw [if_pos h2]
        exact List.mem_cons.mpr (.inl (by simpa using h3))
      | succ i =>
        have hm : x ∈ hitsFrom p (k + 1) r := ih.mpr ⟨i, t, by simpa using h1, h2, by rw [h3]; congr 1; omega⟩
        split
        · exact List.mem_cons_of_mem _ hm
        · exact hm
theorem hits_rise (p : Int) : ∀ (k : Nat) (as : List (List Int)), (hitsFrom p k as).Pairwise (· < ·)
  | _, [] => List.Pairwise.nil
  | k, u :: r => by
    have ih := hits_rise p (k + 1) r
    have e : hitsFrom p k (u :: r) = if p ∈ u then (k : Int) :: hitsFrom p (k + 1) r else hitsFrom p (k + 1) r := rfl
    rw [e]
    split
    · refine List.Pairwise.cons (fun x hx => ?_) ih
      obtain ⟨i, t, _, _, h3⟩ := mem_hits.mp hx
      rw [h3]
      omega
    · exact ih
theorem last_ge : ∀ {ns : List Int} (h : ns ≠ []), ns.Pairwise (· < ·) → ∀ x ∈ ns, x ≤ ns.getLast h
  | [], h, _, _, _ => absurd rfl h
  | [a], _, _, x, hx => by
    have : x = a := by simpa using hx
    subst this
    exact Int.le_refl _
  | a :: b :: r, _, pw, x, hx => by
    have h2 := List.pairwise_cons.mp pw
    have e : (a :: b :: r).getLast (by simp) = (b :: r).getLast (by simp) := by simp
    rw [e]
    have l := last_ge (ns := b :: r) (by simp) h2.2
    rcases List.mem_cons.mp hx with hx | hx
    · subst hx
      have h3 := h2.1 b (by simp)
      have h4 := l b (by simp)
      omega
    · exact l x hx
end L2
end
section
namespace L2
open PySem PySem.Spec PyProof.Rows
structure CompOkC (osc sc : Scope) : Prop where
  kind : sc.kind = .function
  loc : ∀ y ∈ sc.names, y.2 = .local → sc.names.lookup y.1 = some .local
  free : ∀ y ∈ sc.names, y.2 = .free → osc.names.lookup y.1 = some .cell ∨ osc.names.lookup y.1 = some .free
  one : ∀ y ∈ sc.names, y.2 = .free → (y.1, NameKind.cell) ∉ sc.names
section
variable {X : Cx} {pins : List (Addr × Obj)} {σ : St} {H : Hp} {s : Shared} {tg elt iter : Expr} {ifs : List Expr} {scope : Scope} {pos : Pos} {own fr : List Str} {ix : List Nat} {g : TG} {tc : TT} {te : TE} {it : Addr} {fp : List Addr}
  {tn : Nat → Heap → Prop} {J : It}
end
section
variable {X : Cx} {tg elt iter : Expr} {ifs : List Expr} {scope : Scope} {pos : Pos} {g : TG} {tc : TT} {te : TE} {wi : TI}
end
end L2
end
section
namespace L2
def Cl (S : Int → Prop) (es : List (List Int)) : Prop := ∀ e ∈ es, ∀ x ∈ e, ∀ y ∈ e, S x → S y
def gh (h : List Int) (p : Int) : Int := h.getD p.toNat 0
structure Heads (n : Nat) (es : List (List Int)) (h : List Int) : Prop where
  len : h.length = n
  le : ∀ p : Int, 0 ≤ p → p < n → 0 ≤ gh h p ∧ gh h p ≤ p
  idem : ∀ p : Int, 0 ≤ p → p < n → gh h (gh h p) = gh h p
  edge : ∀ e ∈ es, ∀ x ∈ e, ∀ y ∈ e, gh h x = gh h y
  reach : ∀ S : Int → Prop, Cl S es → ∀ p q : Int, 0 ≤ p → p < n → 0 ≤ q → q < n → gh h p = gh h q → S p → S q
structure Spr (n : Nat) (h : List Int) (p : Int) (fs : List Int) : Prop where
  has : p ∈ fs
  nd : fs.Nodup
  all : ∀ q ∈ fs, (0 ≤ q ∧ q < n) ∧ gh h q = gh h p
end L2
end
section
namespace L2
open PySem PySem.Spec PyProof.Rows
section
variable {X : Cx} {tg elt iter : Expr} {ifs : List Expr} {scope : Scope} {pos : Pos} {g : TG} {tc : TT} {te : TE} {wi : TI}
end
theorem vals_of : ∀ {xs : List V} {us : List Value}, xs.length = us.length → (∀ (i : Nat) (x : V) (u : Value), xs[i]? = some x → us[i]? = some u → RelV x u) → Vals xs us
  | [], [], _, _ => .nil
  | [], _ :: _, h, _ => by simp at h
  | _ :: _, [], h, _ => by simp at h
  | x :: xs, u :: us, h, f => .cons (f 0 x u rfl rfl) (vals_of (by simpa using h) fun i y v h1 h2 => f (i + 1) y v (by simpa using h1) (by simpa using h2))
section
variable {X : Cx}
end
end L2
end
section
namespace L2
open PySem PySem.Spec PyProof.Rows
section
variable {P : Program} {w : World} {H H' : Hp} {h h' : Heap} {a : Addr} {o : HO}
end
structure Fly (P : Program) (w : World) (outer : List Env) (H H' : Hp) (s s' : Shared) (a : Addr) (cls : Value) : Prop where
  os : s'.os = s.os
  bare : AllBare s'.gens
  un : Un (frs outer) [] H H' s.heap s'.heap
  new : H' a = none
  fly : ∃ B a0, Heap.FlyingW B outer a cls a0 s'.heap ∧ HOk P w H' B ∧ ∀ b o', (∃ o, s.heap.get? b = some o) → s'.heap.get? b = some o' → b ∉ frs outer → B.get? b = some o'
section
variable {X : Cx} {pins : List (Addr × Obj)} {σ : St} {H1 H2 : Hp} {s1 s2 : Shared} {M : Model} {E' : Value → Shared → Prop} {Q : Unit → Shared → Prop}
end
end L2
end
section
namespace L2
open PySem PySem.Spec PyProof.Rows
section
variable {X : Cx} {rest : List Expr} {n : Nat} {t : TJ} {pos : Pos}
end
section
variable {X : Cx} {pins : List (Addr × Obj)} {σ : St} {H H1 H2 : Hp} {s s1 s2 : Shared} {a : Addr} {oe : Obj}
end
structure XSub (K : PySem.W.Frag) (C D : Addr) : Prop where
  ty : PySem.W.typeIn K (.ref D) = some (.type "type")
  cl : (PySem.W.clsIn K D).isSome = true
  ex : PySem.W.subIn K (.ref D) (.type "BaseException") = some true
  sub : PySem.W.subIn K (.ref C) (.ref D) = some true
end L2
end
section
namespace L2
open PySem PySem.Spec PyProof.Rows
section
variable {X : Cx} {k : Nat} {f C : Addr} {fd : FuncData} {ps : List Str} {sp : Sp} {dvs : List V} {ds : List Value} {E : XK} {x m : Str} {p pos apos : Pos} {e o : Expr} {es : List Expr} {ta : TE} {t : TA}
end
section
variable {X : Cx} {pins : List (Addr × Obj)} {σ : St} {H1 H2 : Hp} {s1 s2 : Shared} {a C D : Addr} {d n : Str} {np hpos pos : Pos} {b0 : Stmt} {suite : List Stmt} {rest : List ExceptHandler} {j : Nat} {th : TS} {DD : Ends} {E' : Value → Shared → Prop}
variable {te : TE} {E : XK} {e : Expr} {G : Addr → Prop} {tt : Addr → Addr → TS}
end
end L2
namespace L2
open PySem PySem.Spec PyProof.Rows
section
variable {X : Cx} {tg : Expr}
end
end L2
end
section
namespace L2
open PySem PySem.Spec PyProof.Rows PySem.W
structure XCl (K : Frag) (C : Addr) : Prop where
  ga : findIn K (.ref C) "__getattribute__" = some (some (.builtin "BaseException.__getattribute__"))
  gt : findIn K (.ref C) "__getattr__" = some none
  cl : findIn K (.ref C) "__class__" = some (some (.builtin "object.__class__"))
  ob : mroIn K C (.type "object") = some true
  be : mroIn K C (.type "BaseException") = some true
  is : (clsIn K C).isSome = true
section
variable {prog : Program} {w : World} {A : Around} {E : Value → Shared → Prop} {K : Frag} {s : Shared} {a C : Addr} {oe : Obj} {h : Heap} {g : Array GenState} {d : Drawn} {t : Nat} {os : OsState}
structure XAt (h : Heap) (a : Addr) (oe : Obj) (C : Addr) : Prop where
  at_ : h.get? a = some oe
  cls : oe.cls = .ref C
end
end L2
namespace L2
open PySem PySem.Spec PyProof.Rows
end L2
namespace L2
open PySem PySem.Spec PyProof.Rows
section
variable {X : Cx} {K : PySem.W.Frag} {T id : String} {name : Str} {r : V → List V → Hp → VK → Prop} {o e : Expr} {es : List Expr} {to : TE} {t : TA} {apos cpos : Pos} {tg l : Expr} {tl : TE}
end
end L2
end
section
namespace L2
open PySem PySem.Spec PyProof.Rows
section
variable {X : Cx} {st : Stmt} {rest : List Stmt} {t u : TS}
def tMid (t u : TS) : TS := fun D σ H => ∃ M : St → Hp → Prop, t { D with nx := M } σ H ∧ ∀ σ' H', M σ' H' → u D σ' H'
theorem pss_mid (h1 : PS X st t) (h2 : PSs X rest u) : PSs X (st :: rest) (tMid t u) := by
  intro pins s σ H D I h
  obtain ⟨M, ha, hb⟩ := h
  refine wpAny_execs_cons (thn (h1 pins s σ H { D with nx := M } I ha) fun f s1 q => ?_)
  cases f with
  | next =>
    obtain ⟨σ', H', I', q⟩ := q
    exact h2 pins s1 σ' H' D I' (hb _ _ q)
  | ret v => exact q
  | brk => exact q
  | cont => exact q
end
end L2
end
section
namespace L2
open PySem PySem.Spec PyProof.Rows PySem.W
section
variable {X : Cx}
theorem Vals.app {xs ys : List V} {us vs : List Value} (h : Vals xs us) (k : Vals ys vs) : Vals (xs ++ ys) (us ++ vs) := by
  induction h with
  | nil => exact k
  | cons r t ih => exact .cons r ih
def rAddL (K : PySem.W.Frag) : R2 := fun x y H Q => ∃ a b xs ys, x = .ref a ∧ y = .ref b ∧ SqL K H a xs ∧ SqL K H b ys ∧ xs.length + ys.length ≤ sizeLine ∧ ∀ p, H p = none → Q (.ref p) (upd H p (.lst (xs ++ ys)))
theorem op_addL : OpR X (binaryOp .Add) (rAddL X.K) := by
  intro pins s σ H x y v u Q I rx ry h
  obtain ⟨a, b, xs, ys, rfl, rfl, ha, hb, hz, q⟩ := h
  cases rx; cases ry
  obtain ⟨vs, r1, p1, _⟩ := I.list ha
  obtain ⟨ws, r2, p2, _⟩ := I.list hb
  have hl := p1.isList
  have hb' := p2.isList
  obtain ⟨⟨cls, dd, data, sl⟩, ho, hc, n, hd⟩ := id hl
  obtain ⟨⟨cls2, dd2, data2, sl2⟩, ho2, hc2, n2, hd2⟩ := id hb'
  simp only at hc hd hc2 hd2
  subst hc hd hc2 hd2
  have e : vs.toArray ++ ws.toArray = (vs ++ ws).toArray := by simp
  have l1 := r1.length
  have l2 := r2.length
  refine concat_meets ⟨_, ho, rfl⟩ ⟨_, ho2, rfl⟩ noFill_list_add seq_list_add PySem.F.slot_list_add PySem.F.entry_list_add (PySem.F.args_list_add_2 _ _) (list_addW a b vs.toArray ws.toArray n n2 dd dd2 sl sl2 (by rw [List.size_toArray, List.size_toArray]; omega)) ⟨ho, ho2, ?_⟩
  rw [e]
  refine ⟨.ref s.heap.objs.size, _, I.laid (t' := s.toks) (o := .lst (xs ++ ys)) (fun b ob q => Heap.get?_push_of_some _ q) (Nat.le_refl _) ?_, rfl, q _ (I.hok.fresh (Nat.le_refl _))⟩
  exact ⟨by rw [List.length_append]; exact hz, _, 0, Vals.app r1 r2, Heap.get?_push_size _ rfl⟩
structure Own (K : Frag) (C : Addr) : Prop where
  ha : findIn K (.ref C) "__class__" = some (some (.builtin "object.__class__"))
  hn : specialIn K (.builtin "object.__class__") "__get__" = some (some (.builtin "getset_descriptor.__get__"))
  tk : takesIn K (.builtin "object.__class__") = some true
  hm : mroIn K C (.type "object") = some true
  is : kitOne K (.ref C) (.ref C) = some true
end
end L2
end
section
namespace L2
open PySem PySem.Spec PyProof.Rows
open PySem.W
section
variable {X : Cx} {C : Addr} {x : Str} {p pos : Pos}
def tBare (C : Addr) : TE := fun _ H Q => ∀ y dx, H y = none → H dx = none → dx ≠ y → Q (.ref y) (upd (upd H dx (.own y)) y (.ins C dx []))
theorem pe_bare (mk : makesIn X.K C = true) (hi : findIn X.K (.ref C) "__init__" = some (some (.builtin "object.__init__"))) (kp : keepIn X.K (.ref C) = true) (hg : Gl X x) (hm : X.mg x = some (.ref C))
    (hdb : (x == ("__debug__" : Str)) = false := by decide) : PE X (.Call (.Name x p) [] [] pos) (tBare C) := by
  intro pins s σ H Q I h
  refine wpAny_Call_Name_kw (ld_glob I hg hm ?_ hdb)
  refine PySem.W.callWith_K0 I.kIn kp (wpAny_call ?_)
  have hq := h (s.heap.objs.size + 1) s.heap.objs.size (I.hok.fresh (Nat.le_succ _)) (I.hok.fresh (Nat.le_refl _)) (Nat.ne_of_lt (Nat.lt_succ_self _))
  have I2 := Inv.made (C := C) I
  refine make_map0 I.kIn mk hi (fun self => Looks.of_pure (oi_bind self)) ?_
  have Y := makes_of (M := model X.prog X.w) I.kIn mk
  have e2 : ((s.heap.push emptyDict).push (instObj C s.heap.objs.size)).get? (s.heap.objs.size + 1) = some (instObj C s.heap.objs.size) := by
    have := Heap.get?_push_size (s.heap.push emptyDict) (o := instObj C s.heap.objs.size) rfl
    rwa [Heap.size_push] at this
  have t1 : Looks (model X.prog X.w) ((s.heap.push emptyDict).push (instObj C s.heap.objs.size)) (typeOf (.ref (s.heap.objs.size + 1))) (.ref C) := (Looks.ld e2).andThen .now
  have t2 : Looks (model X.prog X.w) ((s.heap.push emptyDict).push (instObj C s.heap.objs.size)) (isInstance (.ref (s.heap.objs.size + 1)) (.type "object")) true := t1.andThen (Y.top.keeps fun b o e => Heap.get?_push_of_some _ (Heap.get?_push_of_some _ e))
  refine codeAny_call_builtin oi_plain entry_oi (@check_slot (model X.prog X.w) _ _ _ "object.__init__" "object" "__init__" (.ref (s.heap.objs.size + 1)) [] [] _ oi_kind oi_split t2 (oi_args (.ref (s.heap.objs.size + 1))) ?_)
  rw [oi_run]
  exact wpAny_pure (And.intro rfl ⟨.ref (s.heap.objs.size + 1), _, I2, rfl, hq⟩)
end
end L2
end
section
namespace L2
open PySem PySem.Spec PyProof.Rows
section
variable {κ : Type} [DecidableEq κ]
def valV (kvs : List (κ × V)) (k : κ) : Option V := (kvs.find? fun kv => decide (kv.1 = k)).map (·.2)
def putK (kvs : List (κ × V)) (k : κ) (v : V) : List (κ × V) :=
  if (kvs.any fun kv => decide (kv.1 = k)) = true then kvs.map (fun kv => if kv.1 = k then (kv.1, v) else kv) else kvs ++ [(k, v)]
theorem valV_pos {p : κ × V} {r : List (κ × V)} {k : κ} (e : p.1 = k) : valV (p :: r) k = some p.2 := by simp [valV, List.find?_cons, e]
theorem valV_neg {p : κ × V} {r : List (κ × V)} {k : κ} (e : ¬ p.1 = k) : valV (p :: r) k = valV r k := by simp [valV, List.find?_cons, e]
theorem valV_any (k : κ) : ∀ kvs : List (κ × V), (kvs.any fun kv => decide (kv.1 = k)) = (valV kvs k).isSome
  | [] => rfl
  | p :: r => by
    rw [List.any_cons]
    by_cases e : p.1 = k
    · simp only [valV_pos e, decide_eq_true e, Bool.true_or, Option.isSome_some]
    · rw [valV_neg e, decide_eq_false e, Bool.false_or]; exact valV_any k r
theorem valV_map (k j : κ) (y : V) : ∀ kvs : List (κ × V), valV (kvs.map fun kv => if kv.1 = k then (kv.1, y) else kv) j = (valV kvs j).map fun x => if j = k then y else x
  | [] => rfl
  | p :: r => by
    have ih := valV_map k j y r
    rw [List.map_cons]
    by_cases h : p.1 = k
    · rw [if_pos h]
      by_cases e : p.1 = j
      · rw [valV_pos (p := (p.1, y)) e, valV_pos e, Option.map_some, if_pos (e.symm.trans h)]
      · rw [valV_neg (p := (p.1, y)) e, valV_neg e, ih]
    · rw [if_neg h]
      by_cases e : p.1 = j
      · rw [valV_pos (p := p) e, valV_pos e, Option.map_some, if_neg (fun z => h (e.trans z))]
      · rw [valV_neg (p := p) e, valV_neg e, ih]
theorem valV_snoc (k j : κ) (y : V) : ∀ kvs : List (κ × V), valV kvs k = none → valV (kvs ++ [(k, y)]) j = if j = k then some y else valV kvs j
  | [], _ => by
    by_cases e : k = j
    · rw [if_pos e.symm]; exact valV_pos (p := (k, y)) e
    · rw [if_neg (fun z => e z.symm)]; exact valV_neg (p := (k, y)) e
  | p :: r, hn => by
    rw [List.cons_append]
    have hk : ¬ p.1 = k := fun z => by rw [valV_pos z] at hn; cases hn
    rw [valV_neg hk] at hn
    have ih := valV_snoc k j y r hn
    by_cases e : p.1 = j
    · rw [valV_pos e, valV_pos e, if_neg (fun z => hk (e.trans z))]
    · rw [valV_neg e, valV_neg e, ih]
theorem valV_put (kvs : List (κ × V)) (k j : κ) (y : V) : valV (putK kvs k y) j = if j = k then some y else valV kvs j := by
  unfold putK
  by_cases a : (kvs.any fun kv => decide (kv.1 = k)) = true
  · rw [if_pos a, valV_map]
    rw [valV_any] at a
    by_cases e : j = k
    · obtain ⟨x, hx⟩ := Option.isSome_iff_exists.mp a
      rw [if_pos e, e, hx, Option.map_some, if_pos rfl]
    · rw [if_neg e]
      cases valV kvs j with
      | none => rfl
      | some x => rw [Option.map_some, if_neg e]
  · rw [if_neg a]
    refine valV_snoc k j y kvs ?_
    rw [valV_any] at a
    cases q : valV kvs k with
    | none => rfl
    | some x => rw [q] at a; exact (a rfl).elim
theorem length_putK (kvs : List (κ × V)) (k : κ) (v : V) : (putK kvs k v).length ≤ kvs.length + 1 := by
  unfold putK
  split
  · rw [List.length_map]; omega
  · rw [List.length_append, List.length_cons, List.length_nil]; omega
theorem putK_new {kvs : List (κ × V)} {k : κ} (v : V) (h : valV kvs k = none) : putK kvs k v = kvs ++ [(k, v)] := by
  unfold putK
  rw [valV_any, h]
  exact if_neg (by decide)
theorem RelO.isSome_eq {o : Option V} {u : Option Value} (r : RelO o u) : o.isSome = u.isSome := by
  cases o with
  | none => cases u with
    | none => rfl
    | some _ => exact (show False from r).elim
  | some _ => cases u with
    | none => exact (show False from r).elim
    | some _ => rfl
theorem RelO.getD {o : Option V} {u : Option Value} {d : V} {d' : Value} (r : RelO o u) (rd : RelV d d') : RelV (o.getD d) (u.getD d') := by
  cases o with
  | none => cases u with
    | none => exact rd
    | some _ => exact (show False from r).elim
  | some _ => cases u with
    | none => exact (show False from r).elim
    | some _ => exact r
theorem KV.val {kvs : List (κ × V)} {vs : List (κ × Value)} (r : KV kvs vs) (k : κ) : RelO (valV kvs k) (valueAt vs k) := by
  unfold KV at r
  induction r with
  | nil => exact True.intro
  | @cons p q ps qs h t ih =>
    obtain ⟨h1, h2⟩ := h
    by_cases e : p.1 = k
    · have e' : q.1 = k := h1.symm.trans e
      have b : valueAt (q :: qs) k = some q.2 := by simp [valueAt, List.find?_cons, e']
      rw [valV_pos e, b]; exact h2
    · have e' : ¬ q.1 = k := fun z => e (h1.trans z)
      have b : valueAt (q :: qs) k = valueAt qs k := by simp [valueAt, List.find?_cons, e']
      rw [valV_neg e, b]; exact ih
theorem KV.any {kvs : List (κ × V)} {vs : List (κ × Value)} (r : KV kvs vs) (k : κ) : (kvs.any fun kv => decide (kv.1 = k)) = vs.any fun kv => decide (kv.1 = k) := by
  unfold KV at r
  induction r with
  | nil => rfl
  | cons h t ih => rw [List.any_cons, List.any_cons, ih, h.1]
theorem KV.repl {kvs : List (κ × V)} {vs : List (κ × Value)} (r : KV kvs vs) (k : κ) {y : V} {u : Value} (ry : RelV y u) :
    KV (kvs.map fun kv => if kv.1 = k then (kv.1, y) else kv) (vs.map fun kv => if kv.1 = k then (kv.1, u) else kv) := by
  unfold KV at r ⊢
  induction r with
  | nil => exact .nil
  | @cons p q ps qs h t ih =>
    rw [List.map_cons, List.map_cons]
    refine .cons ?_ ih
    obtain ⟨h1, h2⟩ := h
    by_cases e : p.1 = k
    · rw [if_pos e, if_pos (h1.symm.trans e)]; exact ⟨h1, ry⟩
    · rw [if_neg e, if_neg (fun z => e (h1.trans z))]; exact ⟨h1, h2⟩
theorem KV.put {kvs : List (κ × V)} {vs : List (κ × Value)} (r : KV kvs vs) (k : κ) {y : V} {u : Value} (ry : RelV y u) : KV (putK kvs k y) (stored vs k u) := by
  unfold putK stored
  rw [r.any k]
  by_cases e : (vs.any fun kv => decide (kv.1 = k)) = true
  · rw [if_pos e, if_pos e]; exact r.repl k ry
  · rw [if_neg e, if_neg e]; exact Paired.snoc r ⟨rfl, ry⟩
theorem KV.length {kvs : List (κ × V)} {vs : List (κ × Value)} (r : KV kvs vs) : kvs.length = vs.length := Paired.length r
end
theorem kV_is {P : Program} {w : World} {k : Key} {u : Value} (r : RelV (kV k) u) : (mixKind P w).is k u = true := by
  cases k with
  | inl i => obtain ⟨t, e⟩ := (show ∃ t, u = Value.int i t from r); subst e; exact mixKind_int P w i t
  | inr x => obtain ⟨t, e⟩ := (show ∃ t, u = Value.str x t from r); subst e; exact mixKind_str P w x t
theorem items_are {P : Program} {w : World} : ∀ {ks : List Key} {us : List Value}, Vals (ks.map kV) us → ItemsAre (mixKind P w) ks us
  | [], _, r => by rw [List.map_nil] at r; cases r; exact .nil
  | k :: ks, _, r => by
    rw [List.map_cons] at r
    cases r with
    | cons h t => exact .cons (kV_is h) (items_are t)
abbrev KT (H : Hp) : List (List Key × V) → List (List Key × Addr × Value) → Prop := Paired fun p q => p.1 = q.1 ∧ H q.2.1 = some (.tup (p.1.map kV)) ∧ RelV p.2 q.2.2
theorem KT.val {H : Hp} {kvs : List (List Key × V)} {xs : List (List Key × Addr × Value)} (r : KT H kvs xs) (k : List Key) : RelO (valV kvs k) ((atKey xs k).map (·.2)) := by
  induction r with
  | nil => exact True.intro
  | @cons p q ps qs h t ih =>
    obtain ⟨h1, _, h2⟩ := h
    by_cases e : p.1 = k
    · have e' : q.1 = k := h1.symm.trans e
      have b : atKey (q :: qs) k = some q.2 := by simp [atKey, List.find?_cons, e']
      rw [valV_pos e, b]; exact h2
    · have e' : ¬ q.1 = k := fun z => e (h1.trans z)
      have b : atKey (q :: qs) k = atKey qs k := by simp [atKey, List.find?_cons, e']
      rw [valV_neg e, b]; exact ih
theorem KT.repl {H : Hp} {kvs : List (List Key × V)} {xs : List (List Key × Addr × Value)} (r : KT H kvs xs) (k : List Key) {y : V} {u : Value} (ry : RelV y u) :
    KT H (kvs.map fun kv => if kv.1 = k then (kv.1, y) else kv) (xs.map (putAt k u)) := by
  induction r with
  | nil => exact .nil
  | @cons p q ps qs h t ih =>
    rw [List.map_cons, List.map_cons]
    refine .cons ?_ ih
    obtain ⟨h1, h2, h3⟩ := h
    unfold putAt
    by_cases e : p.1 = k
    · rw [if_pos e, if_pos (h1.symm.trans e)]; exact ⟨h1, h2, ry⟩
    · rw [if_neg e, if_neg (fun z => e (h1.trans z))]; exact ⟨h1, h2, h3⟩
theorem KT.put {H : Hp} {kvs : List (List Key × V)} {xs : List (List Key × Addr × Value)} (r : KT H kvs xs) (k : List Key) {b : Addr} {y : V} {u : Value} (hb : H b = some (.tup (k.map kV))) (ry : RelV y u) :
    KT H (putK kvs k y) (storedH xs k b u) := by
  have e : (kvs.any fun kv => decide (kv.1 = k)) = (atKey xs k).isSome := by
    rw [valV_any, (r.val k).isSome_eq, Option.isSome_map]
  unfold putK storedH
  rw [e]
  by_cases q : (atKey xs k).isSome = true
  · rw [if_pos q, if_pos q]; exact r.repl k ry
  · rw [if_neg q, if_neg q]; exact Paired.snoc r ⟨rfl, hb, ry⟩
theorem KT.keeps {H H' : Hp} {kvs : List (List Key × V)} {xs : List (List Key × Addr × Value)} (r : KT H kvs xs) (ht : ∀ b ys, H b = some (.tup ys) → H' b = some (.tup ys)) : KT H' kvs xs :=
  Paired.mapP r fun _ _ z => ⟨z.1, ht _ _ z.2.1, z.2.2⟩
section
variable {P : Program} {w : World} {H : Hp} {h : Heap} {a : Addr}
theorem rd_of {u : HO} (ok : HOk P w H h) (e : Rd H a u) : ObjOk P w H h a u := e.ok ok
theorem dk_rd {kvs : List (Key × V)} (ok : HOk P w H h) (e : Rd H a (.dK kvs)) : kvs.length ≤ sizeLine ∧ (a == sysModules) = false ∧ ∃ vs, KV kvs vs ∧ h.DictOf (mixKind P w) a vs :=
  show ObjOk P w H h a (.dK kvs) from rd_of ok e
theorem dk_of {kvs : List (Key × V)} (ok : HOk P w H h) (e : H a = some (.dK kvs)) : kvs.length ≤ sizeLine ∧ (a == sysModules) = false ∧ ∃ vs, KV kvs vs ∧ h.DictOf (mixKind P w) a vs := dk_rd ok (.inl e)
theorem key_of {ks : List Key} (ok : HOk P w H h) (e : H a = some (.tup (ks.map kV))) : (tupleKind (mixKind P w)).is h ks a := by
  obtain ⟨_, its, r, o, h1, h2, n, h3⟩ := (show ObjOk P w H h a (.tup (ks.map kV)) from ok a _ e)
  exact ⟨o, its.toArray, n, h1, h2, h3, by simpa using items_are r⟩
theorem dt_rd {kvs : List (List Key × V)} (ok : HOk P w H h) (e : Rd H a (.dT kvs)) : kvs.length ≤ sizeLine ∧ (a == sysModules) = false ∧
    ∃ xs, KT H kvs xs ∧ h.DictOfH (tupleKind (mixKind P w)) a xs := by
  obtain ⟨z, y, xs, r, o, es, ep, h1, h2, h3, h4, h5⟩ := (show ObjOk P w H h a (.dT kvs) from rd_of ok e)
  refine ⟨z, y, xs, r, o, es, ep, h1, h2, h3, h4, fun x hx => ?_, h5⟩
  have all : ∀ {l : List (List Key × V)} {m : List (List Key × Addr × Value)}, KT H l m → ∀ x ∈ m, (tupleKind (mixKind P w)).is h x.1 x.2.1 := by
    intro l m q
    induction q with
    | nil => intro x hx; exact nomatch hx
    | @cons p q ps qs hq t ih =>
      intro x hx
      rcases List.mem_cons.mp hx with e | hx
      · subst e
        exact key_of ok (by rw [← hq.1]; exact hq.2.1)
      · exact ih x hx
  exact all r x hx
theorem dt_of {kvs : List (List Key × V)} (ok : HOk P w H h) (e : H a = some (.dT kvs)) : kvs.length ≤ sizeLine ∧ (a == sysModules) = false ∧
    ∃ xs, KT H kvs xs ∧ h.DictOfH (tupleKind (mixKind P w)) a xs := dt_rd ok (.inl e)
end
def DGet (H : Hp) (a : Addr) (y : V) (r : Option V) : Prop :=
  (∃ kvs k, Rd H a (.dK kvs) ∧ y = kV k ∧ r = valV kvs k) ∨ ∃ kvs k b, Rd H a (.dT kvs) ∧ y = .ref b ∧ H b = some (.tup (k.map kV)) ∧ r = valV kvs k
def DPut (H : Hp) (a : Addr) (y v : V) (H' : Hp) : Prop :=
  (∃ kvs k, H a = some (.dK kvs) ∧ y = kV k ∧ kvs.length < sizeLine ∧ H' = upd H a (.dK (putK kvs k v))) ∨
  ∃ kvs k b, H a = some (.dT kvs) ∧ y = .ref b ∧ H b = some (.tup (k.map kV)) ∧ kvs.length < sizeLine ∧ H' = upd H a (.dT (putK kvs k v))
theorem DGet.k {H : Hp} {a : Addr} {kvs : List (Key × V)} {k : Key} (e : H a = some (.dK kvs)) : DGet H a (kV k) (valV kvs k) := .inl ⟨kvs, k, .inl e, rfl, rfl⟩
theorem DGet.t {H : Hp} {a b : Addr} {kvs : List (List Key × V)} {k : List Key} (e : H a = some (.dT kvs)) (eb : H b = some (.tup (k.map kV))) : DGet H a (.ref b) (valV kvs k) := .inr ⟨kvs, k, b, .inl e, rfl, eb, rfl⟩
section
variable {X : Cx} {pins : List (Addr × Obj)} {σ : St} {H : Hp} {s : Shared} {a : Addr} {y v : V} {u r : Value} {o : Option V} {A : Around} {E : Value → Shared → Prop}
theorem Inv.big (I : Inv X pins σ H s) : sysModules < s.heap.objs.size := by
  have h : mainGlobals < s.heap.objs.size := (I.mod.glob.keeps I.bk).lt
  exact Nat.lt_trans (by decide) h
theorem d_getItem {Q : Value → Shared → Prop} (hu : A.units + 1 < cLine) (I : Inv X pins σ H s) (g : DGet H a y (some v)) (ry : RelV y u) (h : ∀ w' s', Inv X pins σ H s' → RelV v w' → Q w' s') :
    wpAny (model X.prog X.w) A (getItem (.ref a) u) Q E s := by
  rcases g with ⟨kvs, k, e, ey, l⟩ | ⟨kvs, k, b, e, ey, eb, l⟩
  · subst ey
    obtain ⟨z, hd, vs, rel, dd⟩ := dk_rd I.hok e
    obtain ⟨w', hw, rw'⟩ := RelO.some_of (v := v) (o := valueAt vs k) (by rw [l]; exact rel.val k)
    exact wpAny_getItem_of (kV_is ry) dd.mapOf hw (h w' _ (I.tok _) rw')
  · subst ey
    cases (show u = Value.ref b from ry)
    obtain ⟨z, hd, xs, rel, dd⟩ := dt_rd I.hok e
    obtain ⟨w', hw, rw'⟩ := RelO.some_of (v := v) (o := (atKey xs k).map (·.2)) (by rw [l]; exact rel.val k)
    obtain ⟨p, hp, hp2⟩ := Option.map_eq_some_iff.mp hw
    refine wpAny_getItem_heap (tupleKind_room_in1 hu) (key_of I.hok eb) dd hp ?_
    rw [hp2]
    exact h w' _ (I.tok _) rw'
theorem d_in {Q : Value → Shared → Prop} (hu : A.units + 1 < cLine) (I : Inv X pins σ H s) (g : DGet H a y o) (ry : RelV y u) (h : ∀ s', Inv X pins σ H s' → Q (.bool o.isSome) s') :
    wpAny (model X.prog X.w) A (compareOp .In u (.ref a)) Q E s := by
  rcases g with ⟨kvs, k, e, ey, l⟩ | ⟨kvs, k, b, e, ey, eb, l⟩
  · subst ey
    obtain ⟨z, hd, vs, rel, dd⟩ := dk_rd I.hok e
    refine wpAny_in_of (kV_is ry) hd dd.mapOf ?_
    rw [← (rel.val k).isSome_eq, ← l]
    exact h _ (I.tok _)
  · subst ey
    cases (show u = Value.ref b from ry)
    obtain ⟨z, hd, xs, rel, dd⟩ := dt_rd I.hok e
    refine wpAny_in_heap (tupleKind_room_in1 hu) (key_of I.hok eb) hd dd ?_
    have q := (rel.val k).isSome_eq
    rw [Option.isSome_map] at q
    rw [← q, ← l]
    exact h _ (I.tok _)
theorem d_write {h' : Heap} {t' : Nat} {ob : HO} (I : Inv X pins σ H s) (mu : Mut (H a)) (hs : Heap.SameBut a s.heap h') (he : ∃ q, h'.get? a = some q) (new : ObjOk X.prog X.w (upd H a ob) h' a ob) :
    Inv X pins σ (upd H a ob) { s with heap := h', toks := t' } :=
  I.write (x := a) (e := a) mu (.inl rfl) (fun b q hb z => (hs.2 b hb).trans z) he new
theorem dk_new {P : Program} {w : World} {H' : Hp} {h' : Heap} {kvs : List (Key × V)} {vs : List (Key × Value)} (z : kvs.length ≤ sizeLine) (hd : (a == sysModules) = false) (rel : KV kvs vs) (dd : h'.DictOf (mixKind P w) a vs) :
    ObjOk P w H' h' a (.dK kvs) := ⟨z, hd, vs, rel, dd⟩
theorem d_setItem {H' : Hp} {Q : Unit → Shared → Prop} (hu : A.units + 1 < cLine) (I : Inv X pins σ H s) (g : DPut H a y v H') (ry : RelV y u) (rv : RelV v r) (h : ∀ s', Inv X pins σ H' s' → Q () s') :
    wpAny (model X.prog X.w) A (setItem (.ref a) u r) Q E s := by
  rcases g with ⟨kvs, k, e, ey, l, eH⟩ | ⟨kvs, k, b, e, ey, eb, l, eH⟩
  · subst ey eH
    obtain ⟨z, hd, vs, rel, dd⟩ := dk_of I.hok e
    have hz : vs.length ≤ sizeLine := by rw [← rel.length]; exact z
    have hl : (putK kvs k v).length ≤ sizeLine := by have := length_putK kvs k v; omega
    refine wpAny_setItem_pairs (hsz := hz) (kV_is ry) dd fun h' dd' hs => h _ ?_
    have he : ∃ q, h'.get? a = some q := let ⟨q, _, _, hq, _⟩ := dd'; ⟨q, hq⟩
    exact d_write I (by rw [e]; exact True.intro) hs he (dk_new hl hd (rel.put k rv) dd')
  · subst ey eH
    cases (show u = Value.ref b from ry)
    obtain ⟨z, hd, xs, rel, dd⟩ := dt_of I.hok e
    have hz : xs.length ≤ sizeLine := by rw [← Paired.length rel]; exact z
    have hl : (putK kvs k v).length ≤ sizeLine := by have := length_putK kvs k v; omega
    refine wpAny_setItem_heap (hsz := hz) (tupleKind_room_in1 hu) (key_of I.hok eb) dd fun h' dd' hs => h _ ?_
    obtain ⟨q, es, ep, hq, h2, h3, h4, _, h5⟩ := dd'
    refine d_write I (by rw [e]; exact True.intro) hs ⟨q, hq⟩ ⟨hl, hd, _, (rel.put k eb rv).keeps fun c ys ec => ?_, q, es, ep, hq, h2, h3, h4, h5⟩
    rw [upd_ne (ne_of ec e (fun z => nomatch z))]
    exact ec
end
section
variable {X : Cx} {pins : List (Addr × Obj)} {σ : St} {H : Hp} {s : Shared} {a : Addr} {kvs : List (Key × V)} {k : Key} {u : Value} {A : Around} {E : Value → Shared → Prop}
end
def NoSl (i : Expr) : Prop := ∀ ov iv, subscripted i false ov iv = operate [ov, iv] (getItem ov iv)
theorem subD_of {prog : Program} {w : World} {A : Around} {E : Value → Shared → Prop} {s : Shared} {env : Env} {value slice : Expr} {pos : Pos} {T id : String} {Q : Value → Shared → Prop}
    (hl : typeLookup (.type T) "__getitem__" = pure (some (.builtin id))) (hs : NoSl slice)
    (h : wpAny (model prog w) A (eval value env) (fun o s₁ => wpAny (model prog w) A (eval slice env) (fun i s₂ => s₂.TypeIs o T ∧ wpAny (model prog w) A (getItem o i) Q E s₂) E s₁) E s) :
    wpAny (model prog w) A (eval (.Subscript value slice pos) env) Q E s := by
  refine Subscript_ (wpAny_mono h (fun o s₁ h₁ => wpAny_mono h₁ (fun i s₂ h₂ => ?_) fun _ _ x => x) fun _ _ x => x)
  obtain ⟨hT, h₂⟩ := h₂
  unfold subscriptTail
  refine wpAny_bind ?_
  rw [getitemInPython_of_ne hT.not_modules]
  refine wpAny_bind (wpAny_specialOf hT hl ?_)
  have fin : wpAny (model prog w) A (subscripted slice false o i) (fun r s₃ => wpAny (model prog w) A (letTemporaryGo value o r >>= fun _ => pure r) Q E s₃) E s₂ := by
    rw [hs o i]
    exact wpAny_operating (wpAny_mono h₂ (fun r s₃ h₃ => wpAny_bind (wpAny_letTemporaryGo (wpAny_pure h₃))) fun _ _ x => x)
  first
    | exact wpAny_pure (wpAny_bind fin)
    | exact wpAny_bind (wpAny_pure (wpAny_bind fin))
    | exact wpAny_bind fin
theorem dict_typeIs {X : Cx} {pins : List (Addr × Obj)} {σ : St} {H : Hp} {s : Shared} {a : Addr} {y : V} {o : Option V} (I : Inv X pins σ H s) (g : DGet H a y o) : s.TypeIs (.ref a) "dict" := by
  rcases g with ⟨kvs, k, e, _, _⟩ | ⟨kvs, k, b, e, _, _, _⟩
  · obtain ⟨_, _, vs, _, dd⟩ := dk_rd I.hok e
    exact dd.typeIs
  · obtain ⟨_, _, xs, _, dd⟩ := dt_rd I.hok e
    exact dd.typeIs
def tDGet (td ty : TE) : TE := fun σ H Q => td σ H fun x H1 => ty σ H1 fun y H2 => ∃ a v, x = .ref a ∧ DGet H2 a y (some v) ∧ Q v H2
def tDIn (ty td : TE) : TE := fun σ H Q => ty σ H fun y H1 => td σ H1 fun x H2 => ∃ a o, x = .ref a ∧ DGet H2 a y o ∧ Q (.bl o.isSome) H2
def sDPut (td ty tv : TE) : TS := fun D σ H => tv σ H fun v H1 => td σ H1 fun x H2 => ty σ H2 fun y H3 => ∃ a H4, x = .ref a ∧ DPut H3 a y v H4 ∧ D.nx σ H4
section
variable {X : Cx} {o i e value : Expr} {pos pos' tpos : Pos} {td ty tv : TE}
theorem pe_dget (hu : X.A.units + 1 < cLine) (ho : PE X o td) (hi : PE X i ty) (hs : NoSl i) : PE X (.Subscript o i pos) (tDGet td ty) := by
  intro pins s σ H Q I h
  refine subD_of PySem.F.slot_dict_getitem.lookup hs (thn (ho pins s σ H _ I h) fun u s1 ⟨x, H1, I1, rx, q1⟩ => thn (hi pins s1 σ H1 _ I1 q1) fun iv s2 ⟨y, H2, I2, ry, a, v, ex, g, q2⟩ => ?_)
  subst ex
  obtain rfl : u = Value.ref a := rx
  exact ⟨dict_typeIs I2 g, d_getItem hu I2 g ry fun w' s3 I3 rw' => ⟨v, H2, I3, rw', q2⟩⟩
theorem pc_din (hu : X.A.units + 1 < cLine) (hi : PE X i ty) (ho : PE X o td) : PC X .In i o (tDIn ty td) := by
  intro pins s σ H Q I h
  refine thn (hi pins s σ H _ I h) fun iv s1 ⟨y, H1, I1, ry, q1⟩ => thn (ho pins s1 σ H1 _ I1 q1) fun u s2 ⟨x, H2, I2, rx, a, ov, ex, g, q2⟩ => ?_
  subst ex
  obtain rfl : u = Value.ref a := rx
  exact d_in hu I2 g ry fun s3 I3 => ⟨.bl ov.isSome, H2, I3, rfl, q2⟩
theorem ps_dput (hu : X.A.units + 1 < cLine) (ho : PE X o td) (hi : PE X i ty) (hv : PE X value tv) (hs : swapsWith value (some (.Subscript o i pos')) pos.line X.env = pure false) :
    PS X (.Assign [.Subscript o i pos'] value pos) (sDPut td ty tv) := by
  intro pins s σ H D I h
  refine wpAny_Assign_Subscript (thn (hv pins s σ H _ I h) fun r s1 ⟨v, H1, I1, rv, q1⟩ => thn (ho pins s1 σ H1 _ I1 q1) fun u s2 ⟨x, H2, I2, rx, q2⟩ => thn (hi pins s2 σ H2 _ I2 q2) fun iv s3 ⟨y, H3, I3, ry, a, H4, ex, g, q3⟩ => ?_) hs
  subst ex
  obtain rfl : u = Value.ref a := rx
  exact d_setItem hu I3 g ry rv fun s4 I4 => ⟨σ, H4, I4, q3⟩
end
theorem dk_empty {P : Program} {w : World} {H : Hp} (h : Heap) (hb : sysModules < h.objs.size) : ObjOk P w H (h.push { cls := .type "dict", data := .dict #[] }) h.objs.size (.dK []) :=
  ⟨Nat.zero_le _, beq_eq_false_iff_ne.mpr (Ne.symm (Nat.ne_of_lt hb)), [], .nil, Heap.DictOf.new h⟩
theorem dt_empty {P : Program} {w : World} {H : Hp} (h : Heap) (hb : sysModules < h.objs.size) : ObjOk P w H (h.push { cls := .type "dict", data := .dict #[] }) h.objs.size (.dT []) :=
  ⟨Nat.zero_le _, beq_eq_false_iff_ne.mpr (Ne.symm (Nat.ne_of_lt hb)), [], .nil, _, #[], 0, Heap.get?_push_size _ rfl, ⟨rfl, rfl, rfl⟩, rfl, rfl, List.nodup_nil⟩
def tDNewT : TE := fun _ H Q => ∀ p, H p = none → Q (.ref p) (upd H p (.dT []))
section
variable {X : Cx} {pos : Pos}
theorem pe_dnewT : PE X (.Dict [] [] pos) tDNewT := fun pins s σ H Q I h =>
  wpAny_Dict_empty ⟨.ref s.heap.objs.size, _, I.laid (a := s.heap.objs.size) (o := .dT []) (t' := s.toks) (fun _ _ q => Heap.get?_push_of_some _ q) (Nat.le_refl _) (dt_empty s.heap I.big), rfl, h _ (I.hok.fresh (Nat.le_refl _))⟩
end
def tPairs : List (TE × TE) → St → Hp → (List (V × V) → Hp → Prop) → Prop
  | [], _, H, Q => Q [] H
  | (tk, tv) :: r, σ, H, Q => tk σ H fun x H1 => tv σ H1 fun y H2 => tPairs r σ H2 fun ps H3 => Q ((x, y) :: ps) H3
abbrev VV : List (V × V) → List (Value × Value) → Prop := Paired fun p q => RelV p.1 q.1 ∧ RelV p.2 q.2
def PPs (X : Cx) (pos : Pos) (keys : List (Option Expr)) (values : List Expr) (trs : List (TE × TE)) : Prop :=
  ∀ (pins : List (Addr × Obj)) (s : Shared) (σ : St) (H : Hp) (Q : List (V × V) → Hp → Prop), Inv X pins σ H s → tPairs trs σ H Q →
    wpAny (model X.prog X.w) X.A (evalPairs (pairTrees keys values X.env pos)) (fun vs s' => ∃ ps H', Inv X pins σ H' s' ∧ VV ps vs ∧ Q ps H') X.xe s
theorem pps_nil {X : Cx} {pos : Pos} : PPs X pos [] [] [] := fun pins s σ H Q I h => pairTrees_nil_walk ⟨[], H, I, .nil, h⟩
theorem pps_cons {X : Cx} {pos : Pos} {k v : Expr} {ks : List (Option Expr)} {vs : List Expr} {tk tv : TE} {trs : List (TE × TE)} (hk : PE X k tk) (hv : PE X v tv) (hr : PPs X pos ks vs trs) :
    PPs X pos (some k :: ks) (v :: vs) ((tk, tv) :: trs) := fun pins s σ H Q I h =>
  pairTrees_cons_walk (thn (hk pins s σ H _ I h) fun u s1 ⟨x, H1, I1, rx, q1⟩ => thn (hv pins s1 σ H1 _ I1 q1) fun w2 s2 ⟨y, H2, I2, ry, q2⟩ =>
    thn (hr pins s2 σ H2 _ I2 q2) fun ws s3 ⟨ps, H3, I3, rel, q3⟩ => ⟨(x, y) :: ps, H3, I3, .cons ⟨rx, ry⟩ rel, q3⟩)
def mergeK (kvs more : List (Key × V)) : List (Key × V) := more.foldl (fun acc kv => putK acc kv.1 kv.2) kvs
theorem KV.merge : ∀ {more : List (Key × V)} {rs : List (Key × Value)} {kvs : List (Key × V)} {vs : List (Key × Value)}, KV more rs → KV kvs vs → KV (mergeK kvs more) (merged vs rs) := by
  intro more rs kvs vs r
  unfold KV at r
  induction r generalizing kvs vs with
  | nil => intro q; exact q
  | @cons p q ps qs h t ih =>
    intro r0
    have e : KV (putK kvs p.1 p.2) (stored vs q.1 q.2) := by
      have := r0.put p.1 h.2
      rw [← h.1]; exact this
    exact ih e
theorem length_mergeK : ∀ (more kvs : List (Key × V)), (mergeK kvs more).length ≤ kvs.length + more.length
  | [], kvs => by show kvs.length ≤ kvs.length + 0; omega
  | p :: r, kvs => by
    have h1 := length_mergeK r (putK kvs p.1 p.2)
    have h2 := length_putK kvs p.1 p.2
    show (mergeK (putK kvs p.1 p.2) r).length ≤ _
    rw [List.length_cons]; omega
theorem carries_of {P : Program} {w : World} : ∀ {kvs : List (Key × V)} {ws : List (Value × Value)}, VV (kvs.map fun kv => (kV kv.1, kv.2)) ws → ∃ rs, Carries (mixKind P w) ws rs ∧ KV kvs rs
  | [], _, r => by rw [List.map_nil] at r; cases r; exact ⟨[], True.intro, .nil⟩
  | p :: kvs, _, r => by
    rw [List.map_cons] at r
    cases r with
    | @cons a b as bs h t =>
      obtain ⟨rs, c, q⟩ := carries_of (P := P) (w := w) t
      obtain ⟨b1, b2⟩ := b
      exact ⟨(p.1, b2) :: rs, ⟨kV_is h.1, rfl, c⟩, .cons ⟨rfl, h.2⟩ q⟩
def tDisp (trs : List (TE × TE)) : TE := fun σ H Q => ∀ p, H p = none → tPairs trs σ (upd H p (.dK [])) fun ps H2 => H2 p = some (.dK []) ∧ ∃ kvs : List (Key × V), ps = kvs.map (fun kv => (kV kv.1, kv.2)) ∧ kvs.length ≤ 15 ∧ Q (.ref p) (upd H2 p (.dK (mergeK [] kvs)))
theorem pe_disp {X : Cx} {pos : Pos} {keys : List (Option Expr)} {values : List Expr} {trs : List (TE × TE)} (h : PPs X pos keys values trs) (hall : keys.all (·.isSome) = true) (hl : keys.length = values.length) (h0 : keys ≠ [])
    (h15 : keys.length ≤ 15) : PE X (.Dict keys values pos) (tDisp trs) := by
  intro pins s σ H Q I q
  have hn := I.hok.fresh (Nat.le_refl s.heap.objs.size)
  have I1 := I.laid (a := s.heap.objs.size) (o := .dK []) (h' := s.heap.push { cls := .type "dict", data := .dict #[] }) (t' := s.toks) (fun _ _ q => Heap.get?_push_of_some _ q) (Nat.le_refl _) (dk_empty s.heap I.big)
  refine wpAny_Dict_walk (knd := mixKind X.prog X.w) hall hl h0 h15 (thn (h pins _ σ _ _ I1 (q _ hn)) fun ws s2 ⟨ps, H2, I2, rel, e, kvs, ep, lk, q2⟩ => ?_)
  subst ep
  obtain ⟨rs, c, rk⟩ := carries_of (P := X.prog) (w := X.w) rel
  obtain ⟨z, hd, vs0, r0, dd⟩ := dk_of I2.hok e
  cases r0
  refine ⟨rs, c, dd, fun h' dd' hs => ⟨.ref s.heap.objs.size, _, ?_, rfl, q2⟩⟩
  have hz : (mergeK [] kvs).length ≤ sizeLine := by
    have h1 := length_mergeK kvs []
    rw [List.length_nil] at h1
    rw [sizeLine_eq]; omega
  have he : ∃ q, h'.get? s.heap.objs.size = some q := let ⟨q, _, _, hq, _⟩ := dd'; ⟨q, hq⟩
  exact d_write I2 (by rw [e]; exact True.intro) hs he (dk_new hz hd (rk.merge .nil) dd')
structure M1 (X : Cx) (o : Expr) (m : Str) (apos : Pos) (e : Expr) (cpos : Pos) : Prop where
  base : attributeBase o m X.env (eval o X.env) = eval o X.env
  few : ((backTo cpos (starEach [e] X.env)).all (fun x => !x.1) && (backToKw cpos (keywordEach [] X.env)).all (fun x => x.1.isSome)
    && decide (([e] : List Expr).length + ([] : List Keyword).length + (if ([] : List Keyword).isEmpty then 0 else 1) < 30)) = true
  line : (apos.endLine == cpos.line) = true
  trees : backTo cpos (starEach [e] X.env) = [(false, eval e X.env)]
structure M2 (X : Cx) (o : Expr) (m : Str) (apos : Pos) (e f : Expr) (cpos : Pos) : Prop where
  base : attributeBase o m X.env (eval o X.env) = eval o X.env
  few : ((backTo cpos (starEach [e, f] X.env)).all (fun x => !x.1) && (backToKw cpos (keywordEach [] X.env)).all (fun x => x.1.isSome)
    && decide (([e, f] : List Expr).length + ([] : List Keyword).length + (if ([] : List Keyword).isEmpty then 0 else 1) < 30)) = true
  line : (apos.endLine == cpos.line) = true
  trees : backTo cpos (starEach [e, f] X.env) = [(false, eval e X.env), (false, eval f X.env)]
def IsD (H : Hp) (a : Addr) : Prop := (∃ kvs, Rd H a (.dK kvs)) ∨ ∃ kvs, Rd H a (.dT kvs)
theorem isD_at {X : Cx} {pins : List (Addr × Obj)} {σ : St} {H : Hp} {s : Shared} {a : Addr} (I : Inv X pins σ H s) (d : IsD H a) :
    s.TypeIs (.ref a) "dict" ∧ (∀ b, Value.ref a = .ref b → ∃ ob, s.heap.get? b = some ob ∧ ob.dict = none) ∧ (a == sysModules) = false := by
  rcases d with ⟨kvs, e⟩ | ⟨kvs, e⟩
  · obtain ⟨_, hd, vs, _, dd⟩ := dk_rd I.hok e
    refine ⟨dd.typeIs, fun b q => ?_, hd⟩
    cases q
    obtain ⟨ob, _, _, h1, h2, _⟩ := dd
    exact ⟨ob, h1, h2.2.1⟩
  · obtain ⟨_, hd, xs, _, dd⟩ := dt_rd I.hok e
    refine ⟨dd.typeIs, fun b q => ?_, hd⟩
    cases q
    obtain ⟨ob, _, _, h1, h2, _⟩ := dd
    exact ⟨ob, h1, h2.2.1⟩
section
variable {X : Cx} {pins : List (Addr × Obj)} {σ : St} {H : Hp} {s : Shared} {a : Addr} {y d : V} {u r : Value} {o : Option V} {A : Around} {E : Value → Shared → Prop}
theorem d_get2 {Q : Value → Shared → Prop} (hu : A.units + 1 < cLine) (I : Inv X pins σ H s) (g : DGet H a y o) (ry : RelV y u) (rd : RelV d r) (h : ∀ w' s', Inv X pins σ H s' → RelV (o.getD d) w' → Q w' s') :
    wpAny (model X.prog X.w) A (call (.builtin "dict.get") [.ref a, u, r]) Q E s := by
  rcases g with ⟨kvs, k, e, ey, l⟩ | ⟨kvs, k, b, e, ey, eb, l⟩
  · subst ey
    obtain ⟨z, hd, vs, rel, dd⟩ := dk_rd I.hok e
    refine call_meetsIn PySem.F.slot_dict_get dd.typeIs PySem.F.entry_dict_get (PySem.F.args_dict_get_3 _ _ _) (meets_dict_get_default (mixKind X.prog X.w) a (kV_is ry) hd r) ⟨_, dd.mapOf, h _ _ (I.tok _) ?_⟩
    rw [l]
    exact (rel.val k).getD rd
  · subst ey
    cases (show u = Value.ref b from ry)
    obtain ⟨z, hd, xs, rel, dd⟩ := dt_rd I.hok e
    refine call_meetsIn PySem.F.slot_dict_get dd.typeIs PySem.F.entry_dict_get (PySem.F.args_dict_get_3 _ _ _) (meetsH_dict_get_default (tupleKind (mixKind X.prog X.w)) a b hd r) ⟨tupleKind_room_in1 hu, k, xs, key_of I.hok eb, dd, h _ _ (I.tok _) ?_⟩
    rw [l]
    exact (rel.val k).getD rd
end
def tDGet2 (td ty tx : TE) : TE := fun σ H Q => td σ H fun x H1 => ∃ a, x = .ref a ∧ IsD H1 a ∧ ty σ H1 fun y H2 => tx σ H2 fun z H3 => ∃ o, DGet H3 a y o ∧ Q (o.getD z) H3
section
variable {X : Cx} {o e f : Expr} {apos cpos : Pos} {td ty tx : TE}
theorem pe_dget2 (hu : X.A.units + 1 < cLine) (ho : PE X o td) (he : PE X e ty) (hf : PE X f tx) (m : M2 X o "get" apos e f cpos) : PE X (.Call (.Attribute o "get" apos) [e, f] [] cpos) (tDGet2 td ty tx) := by
  intro pins s σ H Q I h
  refine wpAny_Call_method m.base m.few m.line PySem.F.plainAttrs_dict PySem.F.slot_dict_get PySem.F.type_dict_get (thn (ho pins s σ H _ I h) fun u s1 ⟨x, H1, I1, rx, a, ex, d, q1⟩ => ?_)
  subst ex
  obtain rfl : u = Value.ref a := rx
  obtain ⟨t1, t2, _⟩ := isD_at I1 d
  refine ⟨t1, t2, ?_⟩
  rw [m.trees]
  refine Calls.callWith_builtin rfl (Calls.evalArgs_plain (Calls.spliced_cons (thn (he pins s1 σ H1 _ I1 q1) fun iv s2 ⟨y, H2, I2, ry, q2⟩ =>
    Calls.spliced_cons (thn (hf pins s2 σ H2 _ I2 q2) fun fv s3 ⟨z, H3, I3, rz, ov, g, q3⟩ => Calls.spliced_nil ?_))))
  exact d_get2 hu I3 g ry rz fun w' s4 I4 rw' => ⟨_, H3, I4, rw', q3⟩
end
section
variable {X : Cx} {pins : List (Addr × Obj)} {σ : St} {H : Hp} {s : Shared} {a : Addr} {kvs : List (Key × V)} {A : Around} {E : Value → Shared → Prop}
end
section
variable {X : Cx} {pins : List (Addr × Obj)} {σ : St} {H : Hp} {s : Shared} {a : Addr} {y : V} {u : Value} {A : Around} {E : Value → Shared → Prop}
end
end L2
namespace L2
open PySem PySem.Spec PyProof.Rows
section
variable {κ : Type} [DecidableEq κ]
end
end L2
end
section
namespace L2
open PySem PySem.Spec PyProof.Rows
open Sem (wp)
section
variable {prog : Program} {w : World} {A : Around} {E : Value → Shared → Prop} {s : Shared}
theorem iter_keys {d : Addr} {o : Obj} {es : Array DictEntry} {ep : Nat} {Q : Value → Shared → Prop} (hd : (d == sysModules) = false) (hT : s.TypeIs (.ref d) "dict") (ho : s.heap.get? d = some o) (hdat : o.data = .dict es ep)
    (hQ : Q (.ref s.heap.objs.size) { s with heap := s.heap.push { cls := .type "dict_keyiterator", data := .fields #[.ref d, .int 0 0, .int es.size 0, .int ep 0] } }) :
    wpAny (model prog w) A (pyIter (.ref d)) Q E s := by
  refine wpAny_pyIter_slot hT F.slot_dict_iter (wpAny_call_entry F.slot_dict_iter hT F.entry_dict_iter ?_ (F.args_dict_iter_1 _))
  unfold Builtin.«dict.__iter__»
  refine wpAny_bind ?_
  unfold Builtin.Dict.dictSlotNone
  refine wpAny_bind (wpAny_notOrdered_dict hT ?_)
  show wpAny _ _ (pure (Value.ref d)) _ _ s
  refine wpAny_pure ?_
  show wpAny _ _ (Builtin.Dict.showsAll d >>= _) _ _ s
  unfold Builtin.Dict.showsAll
  rw [if_neg (by rw [hd]; exact Bool.false_ne_true)]
  refine wpAny_bind (wpAny_pure ?_)
  refine wpAny_bind (wpAny_dictEntries ho hdat ?_)
  refine wpAny_bind (wpAny_dictEpoch ho hdat ?_)
  refine wpAny_bind (wpAny_newObj_type (wpAny_pure ⟨_, rfl, "dict_keyiterator", _, ⟨_, Heap.get?_push_size _ rfl, rfl⟩, F.slot_dict_keyiterator_next.lookup, ?_⟩))
  simpa [rawInt] using hQ
theorem next_key {it d : Addr} {i ep : Nat} {es : Array DictEntry} {od : Obj} {Q : Option Value → Shared → Prop} (hit : s.heap.IsKeyIter it d i es.size ep)
    (hod : s.heap.get? d = some od) (hdd : od.data = .dict es ep) (hlt' : i < es.size)
    (hQ : ∀ h', h'.IsKeyIter it d (i + 1) es.size ep → Heap.SameBut it s.heap h' → Q (some es[i].key) { s with heap := h' }) :
    wpAny (model prog w) A (pyNext (.ref it)) Q E s := by
  obtain ⟨o, ho, hc, hd⟩ := id hit
  unfold pyNext
  refine wpAny_bind (wpAny_attempt (wpAny_callSpecial?_slot (name := Str.ofString "__next__") hit.typeIs F.slot_dict_keyiterator_next
    (wpAny_call_entry F.slot_dict_keyiterator_next hit.typeIs F.entry_dict_keyiterator_next ?_ (F.args_dict_keyiterator_next_1 _))))
  refine wpAny_bind (wpAny_pure ?_)
  refine wpAny_bind ?_
  refine wpAny_bind ?_
  first | refine wpAny_bind (wpAny_typeNameOfWhole_keyiter hit.typeIs (wpAny_pure ?_)) | refine wpAny_bind (wpAny_typeNameOf_keyiter hit.typeIs (wpAny_pure ?_))
  refine wpAny_bind (wpAny_fieldsOf ho hd ?_)
  have hown : Builtin.Dict_items.ownsTuple "dict_keyiterator" = false := by decide
  simp only [hown, Bool.false_eq_true, if_false]
  show wpAny _ _ (if (Value.ref d == Value.none) = true then _ else _) _ _ s
  rw [if_neg (show ¬ ((Value.ref d == Value.none) = true) from Bool.false_ne_true)]
  refine wpAny_bind (wpAny_pure ?_)
  refine wpAny_bind (wpAny_dictEntries hod hdd ?_)
  rw [if_neg (by simp)]
  refine wpAny_bind (wpAny_pure ?_)
  refine wpAny_bind (wpAny_dictEpoch hod hdd ?_)
  rw [if_neg (by simp)]
  refine wpAny_pure ?_
  simp only [show ¬ ((i : Int) < 0) from by omega, if_false, Int.toNat_natCast, Array.getElem?_eq_getElem hlt']
  refine wpAny_bind ?_
  first | refine wpAny_bind (wpAny_typeNameOfWhole_keyiter hit.typeIs (wpAny_pure ?_)) | refine wpAny_bind (wpAny_typeNameOf_keyiter hit.typeIs (wpAny_pure ?_))
  refine wpAny_bind (wpAny_isOneOf_keyiter hit.typeIs ?_)
  show wpAny _ _ (setField (.ref it) 1 (rawInt ((i : Int) + 1)) >>= _) _ _ s
  refine wpAny_bind (wpAny_setField ho hd (by simp) ?_)
  have hit' : (s.heap.update it (Obj.mapFields (·.setIfInBounds 1 (rawInt ((i : Int) + 1))))).IsKeyIter it d (i + 1) es.size ep :=
    ⟨_, Heap.get?_update_self _ ho (Obj.isFreed_of_fields (Obj.data_mapFields hd _)), (Obj.cls_mapFields ..).trans hc, by rw [Obj.data_mapFields hd]; simp [rawInt]⟩
  refine wpAny_bind (wpAny_holding ?_)
  refine wpAny_bind (wpAny_isOneOf_keyiter (s := { s with heap := s.heap.update it (Obj.mapFields (·.setIfInBounds 1 (rawInt ((i : Int) + 1)))) }) hit'.typeIs ?_)
  show wpAny _ _ (pure es[i].key) _ _ _
  exact wpAny_pure (wpAny_pure ⟨_, rfl, wpAny_pure (hQ _ hit' (Heap.SameBut.update ..))⟩)
theorem next_kend {it d : Addr} {i ep : Nat} {es : Array DictEntry} {od : Obj} {Q : Option Value → Shared → Prop} (hh : A.handled = none) (hit : s.heap.IsKeyIter it d i es.size ep)
    (hod : s.heap.get? d = some od) (hdd : od.data = .dict es ep) (hge : es.size ≤ i)
    (hQ : ∀ h', Heap.ExtBut it s.heap h' → Q none { s with heap := h' }) : wpAny (model prog w) A (pyNext (.ref it)) Q E s := by
  obtain ⟨o, ho, hc, hd⟩ := id hit
  unfold pyNext
  refine wpAny_bind (wpAny_attempt (wpAny_callSpecial?_slot (name := Str.ofString "__next__") hit.typeIs F.slot_dict_keyiterator_next
    (wpAny_call_entry F.slot_dict_keyiterator_next hit.typeIs F.entry_dict_keyiterator_next ?_ (F.args_dict_keyiterator_next_1 _))))
  refine wpAny_bind (wpAny_pure ?_)
  refine wpAny_bind ?_
  refine wpAny_bind ?_
  first | refine wpAny_bind (wpAny_typeNameOfWhole_keyiter hit.typeIs (wpAny_pure ?_)) | refine wpAny_bind (wpAny_typeNameOf_keyiter hit.typeIs (wpAny_pure ?_))
  refine wpAny_bind (wpAny_fieldsOf ho hd ?_)
  have hown : Builtin.Dict_items.ownsTuple "dict_keyiterator" = false := by decide
  simp only [hown, Bool.false_eq_true, if_false]
  show wpAny _ _ (if (Value.ref d == Value.none) = true then _ else _) _ _ s
  rw [if_neg (show ¬ ((Value.ref d == Value.none) = true) from Bool.false_ne_true)]
  refine wpAny_bind (wpAny_pure ?_)
  refine wpAny_bind (wpAny_dictEntries hod hdd ?_)
  rw [if_neg (by simp)]
  refine wpAny_bind (wpAny_pure ?_)
  refine wpAny_bind (wpAny_dictEpoch hod hdd ?_)
  rw [if_neg (by simp)]
  refine wpAny_pure ?_
  simp only [show ¬ ((i : Int) < 0) from by omega, if_false, Int.toNat_natCast, Array.getElem?_eq_none hge]
  refine wpAny_bind ?_
  first | refine wpAny_bind (wpAny_typeNameOfWhole_keyiter hit.typeIs (wpAny_pure ?_)) | refine wpAny_bind (wpAny_typeNameOf_keyiter hit.typeIs (wpAny_pure ?_))
  show wpAny _ _ (setField (.ref it) 0 .none >>= _) _ _ s
  refine wpAny_bind (wpAny_setField ho hd (by simp) ?_)
  show wpAny _ _ (newExc (.type "StopIteration") [] >>= _) _ _ _
  refine wpAny_bind ?_
  simp only [newExc, newTuple]
  refine wpAny_bind (wpAny_newObj_type ?_ (by size_fits))
  refine wpAny_bind (m := firstArgMember _ _) (wpAny_of_eq (a := Value.none) (by first | rfl | (simp only [firstArgMember]; rfl)) ?_)
  refine wpAny_newObj_type ?_ (by size_fits)
  simp only [raiseNew]
  refine wpAny_bind (wpAny_handled ?_)
  rw [show A.in1.handled = none from hh]
  refine wpAny_bind (wpAny_pure (wpAny_throw ?_))
  refine wpAny_bind (wpAny_isInstance (T := "StopIteration") (b := true) ⟨_, Heap.get?_push_size _ rfl, rfl⟩ isSubtype_stop ?_)
  exact wpAny_pure (hQ _ (((Heap.SameBut.update ..).extBut.push _).push _))
end
end L2
end
section
namespace L2
open PySem PySem.Spec PyProof.Rows
section
variable {prog : Program} {w : World} {A : Around} {E : Value → Shared → Prop} {s : Shared} {d : Addr} {o : Obj} {es : Array DictEntry} {ep : Nat}
theorem walks_keys (hh : A.handled = none) (I : Addr) (hne : d ≠ I) (hd : o.data = .dict es ep) :
    Walks prog w A I [I, d] [I] es.size (fun i v => ∃ e, es[i]? = some e ∧ v = e.key) (fun i h => h.IsKeyIter I d i es.size ep ∧ h.get? d = some o) where
  sub := fun b hb => by simp at hb; simp [hb]
  frame := fun _ _ _ st hk => ⟨st.1.at fun o e => hk I (by simp) o e, hk d (by simp) o st.2⟩
  item := fun i s Q E hi st hQ => by
    refine next_key st.1 st.2 hd hi fun h' hit' hs' => ?_
    exact hQ _ h' s.toks ⟨es[i], by simp [hi], rfl⟩ ⟨hit', hs'.extBut d o hne st.2⟩ fun b o hb e => hs'.extBut b o (fun h => hb (by simp [h])) e
  done := fun s Q E st hQ => next_kend hh st.1 st.2 hd (Nat.le_refl _) fun h' he' => hQ h' s.toks fun b o hb e => he' b o (fun h => hb (by simp [h])) e
  self := fun _ _ _ _ st hQ => wpAny_pyIter_keyiter st.1 hQ
theorem src_keys (lo : (d == sysModules) = false) (hx : o.ExactDict) (hd : o.data = .dict es ep) :
    PySem.W.KdlSrc prog w "dict" d d es.size (fun i v => ∃ e, es[i]? = some e ∧ v = e.key) (fun h => h.get? d = some o) where
  type := fun _ hm => ⟨o, hm, hx.1⟩
  there := fun _ hm => ⟨Heap.lt_size hm, Heap.lt_size hm⟩
  keep := fun _ _ hm hk => hk d (.inl rfl) o hm
  notList := by decide
  notTuple := by decide
  hint := fun _ _ _ _ hm hq => PySem.W.kdl_hint_dict ⟨o, hm, hx.1⟩ hq
  iter := fun _ _ hh hm => ⟨_, _, (fun _ _ hq => iter_keys lo ⟨o, hm, hx.1⟩ hm hd hq), walks_keys hh _ (Nat.ne_of_lt (Heap.lt_size hm)) hd, ⟨⟨_, Heap.get?_push_size _ rfl, rfl, rfl⟩, Heap.get?_push_of_some _ hm⟩⟩
end
def KeyL (H : Hp) : List (List Key × V) → List V → Prop := Paired fun kv y => ∃ b, y = .ref b ∧ H b = some (.tup (kv.1.map kV))
section
variable {X : Cx}
theorem keyl_of {H : Hp} : ∀ {kvs : List (List Key × V)} {xs : List (List Key × Addr × Value)}, KT H kvs xs → KeyL H kvs (xs.map fun x => .ref x.2.1)
  | _, _, .nil => .nil
  | _, _, .cons h t => .cons ⟨_, rfl, h.2.1⟩ (keyl_of t)
theorem call_list_dT (hc : X.calm = true) : CallR X (.type "list") (fun xs H Q => ∃ p kvs, xs = [.ref p] ∧ H p = some (.dT kvs) ∧ ∀ l ys, H l = none → KeyL H kvs ys → Q (.ref l) (upd H l (.lst ys))) := by
  intro pins s σ H xs us Q I rr h
  obtain ⟨p, kvs, rfl, hp, q⟩ := h
  obtain ⟨u, rfl, ru⟩ := rr.one
  cases ru
  obtain ⟨z, lo, ts, kt, o, es, ep, h1, h2, h3, h4, h5⟩ := (show ObjOk X.prog X.w H s.heap p (.dT kvs) from I.hok p _ hp)
  have hl : es.size = kvs.length := by
    rw [← Array.length_toList, h4, List.length_map]
    exact (Paired.length kt).symm
  refine PySem.W.kdl_call (src_keys lo h2 h3) (I.ok.hd hc) h1 (by rw [hl]; exact z) fun h' tk acc' c' hk hS hacc => ?_
  have hn : H s.heap.objs.size = none := I.hok.fresh (Nat.le_refl _)
  refine ⟨.ref s.heap.objs.size, _, I.laid (a := s.heap.objs.size) (o := .lst (ts.map fun x => V.ref x.2.1)) (t' := tk) hk (Nat.le_refl _) ⟨?_, acc'.toList, c', ?_, ?_⟩, rfl, q _ _ hn (keyl_of kt)⟩
  · rw [List.length_map, ← Paired.length kt]; exact z
  · refine vals_of (by rw [List.length_map]; exact (Paired.length kt).symm.trans (hl.symm.trans (hacc.1.symm.trans (Array.length_toList).symm))) fun i x u e1 e2 => ?_
    have e2' : acc'[i]? = some u := by simpa using e2
    obtain ⟨e, e3, rfl⟩ := hacc.2 i u e2'
    rw [← Array.getElem?_toList, h4, List.getElem?_map] at e3
    rw [List.getElem?_map] at e1
    cases g : ts[i]? with
    | none => rw [g] at e1; cases e1
    | some t =>
      rw [g] at e1 e3
      cases e1
      cases e3
      rfl
  · simpa using hS
end
end L2
end
section
namespace L2
open PySem PySem.Spec PyProof.Rows
open Sem (wp)
section
variable {prog : Program} {w : World} {A : Around} {E : Value → Shared → Prop} {s : Shared}
end
end L2
end
section
namespace L2
open PySem PySem.Spec PyProof.Rows
section
variable {X : Cx} {elts : List Expr} {k : Nat} {tp apos cpos : Pos}
end
end L2
end
section
namespace L2
open PySem PySem.Spec PyProof.Rows
open Sem (wp)
section
variable {prog : Program} {w : World} {A : Around} {R : Result → Shared → Prop} {I : Addr} {fp wr : List Addr} {n : Nat} {P : Nat → Value → Prop} {St : Nat → Heap → Prop}
end
section
variable {prog : Program} {w : World} {A : Around} {E : Value → Shared → Prop} {s : Shared}
end
end L2
end
section
namespace L2
open PySem PySem.Spec PyProof.Rows
section
variable {prog : Program} {w : World} {A : Around} {E : Value → Shared → Prop} {s : Shared}
end
end L2
end
section
namespace L2
open PySem PySem.Spec PyProof.Rows
section
open PySem.SeqAt
open PySem.AutoSeq1 (wpAny_loadPart')
open PySem.MeetsSeq PySem.MeetsSeq2 PySem.MeetsSeq3
end
end L2
end
section
namespace L2
open PySem PySem.Spec PyProof.Rows
theorem lexLt_same : ∀ ns : List Int, HT.lexLt ns ns = false
  | [] => rfl
  | x :: xs => by rw [HT.lexLt_cons, if_pos rfl]; exact lexLt_same xs
section
variable {X : Cx}
end
end L2
end
section
namespace L2
open PySem PySem.Spec PyProof.Rows
section
variable {X : Cx} {ke ve : Expr} {pos : Pos} {tk tv : TE}
end
section
variable {X : Cx}
def rAddT (K : PySem.W.Frag) : R2 := fun x y H Q => ∃ a b xs ys, x = .ref a ∧ y = .ref b ∧ SqT K H a xs ∧ SqT K H b ys ∧ xs.length + ys.length ≤ sizeLine ∧
  (xs = [] → Q (.ref b) H) ∧ (xs ≠ [] → ys = [] → Q (.ref a) H) ∧ (xs ≠ [] → ys ≠ [] → ∀ p, H p = none → Q (.ref p) (upd H p (.tup (xs ++ ys))))
theorem op_addT : OpR X (binaryOp .Add) (rAddT X.K) := by
  intro pins s σ H x y v u Q I rx ry h
  obtain ⟨a, b, xs, ys, rfl, rfl, ha, hb, hz, q0, q1, q2⟩ := h
  by_cases e : xs = []
  · cases rx; cases ry
    obtain ⟨its, r1, p1, _⟩ := I.tuple ha
    obtain ⟨its2, r2, p2, _⟩ := I.tuple hb
    subst e
    cases r1
    obtain ⟨⟨cls, dd, data, sl⟩, ho, hc, n, hd⟩ := id p1
    obtain ⟨⟨cls2, dd2, data2, sl2⟩, ho2, hc2, n2, hd2⟩ := id p2
    simp only at hc hd hc2 hd2
    subst hc hd hc2 hd2
    exact concat_meets ⟨_, ho, rfl⟩ ⟨_, ho2, rfl⟩ noFill_tuple_add seq_tuple_add PySem.F.slot_tuple_add PySem.F.entry_tuple_add (PySem.F.args_tuple_add_2 _ _)
      (tuple_addW0 a b #[] its2.toArray n n2 dd dd2 sl sl2 rfl) ⟨ho, ho2, ⟨.ref b, H, I, rfl, q0 rfl⟩⟩
  · exact op_catT pins s σ H _ _ v u Q I rx ry ⟨a, b, xs, ys, rfl, rfl, ha, hb, e, hz, q1 e, q2 e⟩
end
end L2
end
section
namespace NW
open PySem L2
def within (ns some : List Int) : List Int := ns.filter fun n => decide (n ∈ some)
def front (some ns : List Int) : Bool := decide (0 < (within ns some).length) && decide ((within ns some).length < ns.length)
def fb (pts : List (List Int)) (some : List Int) : Nat := (pts.filter (front some)).length
def wOf (pts : List (List Int)) (o : List Int) : Int := (List.range o.length).foldl (fun m i => max m ((fb pts (o.take i) : Nat) : Int)) 0
abbrev Ent := List Int × (Int × List Int)
structure Right (pts : List (List Int)) (many s : Nat) (e : Ent) : Prop where
  so : e.1.Pairwise (· < ·)
  mem : ∀ n ∈ e.1, 0 ≤ n ∧ n < many
  len : e.1.length = s
  perm : e.2.2.Perm e.1
  w : e.2.1 = wOf pts e.2.2
end NW
end
section
namespace NW
open PySem L2
section
variable {pts : List (List Int)} {many s : Nat} {fu es : List Ent} {ties j : List Int} {off : Int × List Int} {w : Int}
end
end NW
end
section
namespace NW
open PySem L2
end NW
end
section
namespace L2
open PySem PySem.Spec PyProof.Rows
open AutoSeq1 (wpAny_loadPart')
section
variable {prog : Program} {w : World} {A : Around} {E : Value → Shared → Prop} {s : Shared}
end
section
variable {X : Cx}
end
end L2
end
section
namespace ST
open PySem PySem.SetTable
def iter {α : Type} (f : α → α) : Nat → α → α
  | 0, x => x
  | n + 1, x => iter f n (f x)
theorem iter_add {α : Type} (f : α → α) : ∀ (m n : Nat) (x : α), iter f (m + n) x = iter f n (iter f m x)
  | 0, n, x => by rw [Nat.zero_add]; rfl
  | m + 1, n, x => by
    rw [Nat.succ_add]
    exact iter_add f m n (f x)
theorem iter_succ {α : Type} (f : α → α) (n : Nat) (x : α) : iter f (n + 1) x = f (iter f n x) := iter_add f n 1 x
def Mask (m : Nat) : Prop := m = 7 ∨ m = 31 ∨ m = 127
def step (M : Nat) (p : Probe) : Probe :=
  if p.more > 0 then { p with j := p.j + 1, more := p.more - 1 } else
  { p with j := (leap M p.i p.perturb).1, more := runEnd M (leap M p.i p.perturb).1 - (leap M p.i p.perturb).1, i := (leap M p.i p.perturb).1, perturb := (leap M p.i p.perturb).2 }
theorem advance_is (t : SetTable) (p : Probe) : t.advance p = step t.mask p := by
  unfold advance step
  split <;> rfl
theorem run_le (M i : Nat) : runEnd M i - i ≤ 9 := by
  unfold runEnd
  split <;> omega
structure Fine (M : Nat) (p : Probe) : Prop where
  more : p.more ≤ 9
  i : p.i ≤ M
  j : p.j ≤ M
  jm : p.j + p.more ≤ M
  dummy : p.dummy = none
theorem run_in {M i : Nat} (h : i ≤ M) : i + (runEnd M i - i) ≤ M := by
  unfold runEnd
  split <;> omega
theorem leap_le (M i p : Nat) : (leap M i p).1 ≤ M := by
  unfold leap
  have := Nat.mod_lt (i * 5 + 1 + p / 32) (show 0 < M + 1 by omega)
  show (i * 5 + 1 + p / 32) % (M + 1) ≤ M
  omega
theorem Fine.step {M : Nat} {p : Probe} (h : Fine M p) : Fine M (step M p) := by
  unfold ST.step
  by_cases c : p.more > 0
  · rw [if_pos c]
    have := h.jm
    have := h.more
    exact ⟨by show p.more - 1 ≤ 9; omega, h.i, by show p.j + 1 ≤ M; omega, by show p.j + 1 + (p.more - 1) ≤ M; omega, h.dummy⟩
  · rw [if_neg c]
    exact ⟨run_le _ _, leap_le _ _ _, leap_le _ _ _, run_in (leap_le _ _ _), h.dummy⟩
theorem Fine.iter {M : Nat} : ∀ (n : Nat) {p : Probe}, Fine M p → Fine M (iter (ST.step M) n p)
  | 0, _, h => h
  | n + 1, _, h => Fine.iter n h.step
theorem Fine.start (t : SetTable) (h : Int) : Fine t.mask (t.probeStart h) := by
  have := Nat.mod_lt (bits h) (show 0 < t.mask + 1 by omega)
  have hi : bits h % (t.mask + 1) ≤ t.mask := by omega
  exact ⟨run_le _ _, hi, hi, run_in hi, rfl⟩
theorem to_leap {M : Nat} : ∀ (k : Nat) {p : Probe}, p.more = k → ∃ q, ST.iter (step M) (k + 1) p = q ∧ q.i = (leap M p.i p.perturb).1 ∧ q.perturb = (leap M p.i p.perturb).2 ∧ q.j = q.i ∧ q.more ≤ 9
  | 0, p, e => by
    refine ⟨_, rfl, ?_⟩
    show (step M p).i = _ ∧ (step M p).perturb = _ ∧ (step M p).j = (step M p).i ∧ (step M p).more ≤ 9
    unfold step
    rw [if_neg (by omega)]
    exact ⟨rfl, rfl, rfl, run_le _ _⟩
  | k + 1, p, e => by
    have hs : step M p = { p with j := p.j + 1, more := p.more - 1 } := by unfold step; rw [if_pos (by omega)]
    obtain ⟨q, h1, h2⟩ := to_leap (M := M) k (p := step M p) (by rw [hs]; show p.more - 1 = k; omega)
    rw [hs] at h2
    exact ⟨q, h1, h2⟩
def leaps (M : Nat) : Nat → Nat × Nat → Nat × Nat := ST.iter (fun x => leap M x.1 x.2)
theorem to_leaps {M : Nat} : ∀ (k : Nat) {p : Probe}, p.more ≤ 9 → ∃ m, m ≤ 10 * k ∧ ((ST.iter (step M) m p).i, (ST.iter (step M) m p).perturb) = leaps M k (p.i, p.perturb) ∧ (ST.iter (step M) m p).more ≤ 9 ∧ (0 < k → (ST.iter (step M) m p).j = (ST.iter (step M) m p).i)
  | 0, p, h => ⟨0, by omega, rfl, h, fun z => absurd z (by omega)⟩
  | k + 1, p, h => by
    obtain ⟨q, e, q1, q2, q3, q4⟩ := to_leap (M := M) p.more (p := p) rfl
    obtain ⟨m, hm, h1, h2, h3⟩ := to_leaps k q4
    refine ⟨(p.more + 1) + m, by omega, ?_, ?_, fun _ => ?_⟩
    · rw [iter_add, e, h1]
      show leaps M k (q.i, q.perturb) = leaps M k (leap M p.i p.perturb)
      rw [q1, q2]
    · rw [iter_add, e]; exact h2
    · rw [iter_add, e]
      by_cases c : 0 < k
      · exact h3 c
      · have : k = 0 := by omega
        subst this
        have : m = 0 := by omega
        subst this
        exact q3
theorem leaps_perturb {M : Nat} : ∀ (k : Nat) (x : Nat × Nat), (leaps M k x).2 = x.2 / 32 ^ k
  | 0, x => by simp [leaps, ST.iter]
  | k + 1, x => by
    show (leaps M k (leap M x.1 x.2)).2 = _
    rw [leaps_perturb k]
    show x.2 / 32 / 32 ^ k = _
    rw [Nat.div_div_eq_div_mul, Nat.pow_succ, Nat.mul_comm]
def lc (n i : Nat) : Nat := (i * 5 + 1) % n
theorem leaps_zero {M : Nat} : ∀ (k i : Nat), leaps M k (i, 0) = (ST.iter (lc (M + 1)) k i, 0)
  | 0, i => rfl
  | k + 1, i => by
    show leaps M k (leap M i 0) = _
    have : leap M i 0 = (lc (M + 1) i, 0) := by unfold leap lc; simp
    rw [this, leaps_zero k]
    rfl
theorem cyc8 : ∀ j, j < 8 → ∃ k, k < 8 ∧ ST.iter (lc 8) k 0 = j := by decide +kernel
theorem cyc32 : ∀ j, j < 32 → ∃ k, k < 32 ∧ ST.iter (lc 32) k 0 = j := by decide +kernel
theorem cyc128 : ∀ j, j < 128 → ∃ k, k < 128 ∧ ST.iter (lc 128) k 0 = j := by decide +kernel
theorem cyc {M : Nat} (h : Mask M) : (∀ j, j < M + 1 → ∃ k, k < M + 1 ∧ ST.iter (lc (M + 1)) k 0 = j) ∧ ST.iter (lc (M + 1)) (M + 1) 0 = 0 := by
  rcases h with rfl | rfl | rfl
  · exact ⟨cyc8, by decide +kernel⟩
  · exact ⟨cyc32, by decide +kernel⟩
  · exact ⟨cyc128, by decide +kernel⟩
theorem cyc_all {M : Nat} (h : Mask M) {i j : Nat} (hi : i < M + 1) (hj : j < M + 1) : ∃ k, k < M + 1 ∧ ST.iter (lc (M + 1)) k i = j := by
  obtain ⟨c1, c2⟩ := cyc h
  obtain ⟨a, ha, ea⟩ := c1 i hi
  obtain ⟨b, hb, eb⟩ := c1 j hj
  by_cases c : a ≤ b
  · refine ⟨b - a, by omega, ?_⟩
    rw [← ea, ← iter_add, show a + (b - a) = b by omega, eb]
  · refine ⟨M + 1 + b - a, by omega, ?_⟩
    rw [← ea, ← iter_add, show a + (M + 1 + b - a) = (M + 1) + b by omega, iter_add, c2, eb]
theorem len_of_sub : ∀ {l₁ l₂ : List Nat}, l₁.Nodup → (∀ x ∈ l₁, x ∈ l₂) → l₁.length ≤ l₂.length
  | [], _, _, _ => Nat.zero_le _
  | a :: t, l₂, nd, hs => by
    obtain ⟨n1, n2⟩ := List.nodup_cons.mp nd
    have ha : a ∈ l₂ := hs a List.mem_cons_self
    have hl : (l₂.erase a).length = l₂.length - 1 := List.length_erase_of_mem ha
    have ih := len_of_sub (l₂ := l₂.erase a) n2 fun x hx => (List.mem_erase_of_ne (fun (e : x = a) => n1 (by rw [← e]; exact hx))).mpr (hs x (List.mem_cons_of_mem _ hx))
    have : 0 < l₂.length := List.length_pos_of_mem ha
    simp
    omega
theorem free_is {M : Nat} {place : Array Nat} (h : place.size ≤ M) : ∃ j, j < M + 1 ∧ j ∉ place.toList := by
  refine Classical.byContradiction fun c => ?_
  have all : ∀ j ∈ List.range (M + 1), j ∈ place.toList := fun j hj => Classical.byContradiction fun z => c ⟨j, List.mem_range.mp hj, z⟩
  have := len_of_sub List.nodup_range all
  rw [List.length_range, Array.length_toList] at this
  omega
theorem bits_lt (h : Int) : bits h < 2 ^ 64 := by
  unfold bits
  have h1 := Int.emod_nonneg h (show (2 ^ 64 : Int) ≠ 0 by decide)
  have h2 := Int.emod_lt_of_pos h (show (0 : Int) < 2 ^ 64 by decide)
  omega
theorem perturb_le {M : Nat} : ∀ (n : Nat) (p : Probe), (ST.iter (step M) n p).perturb ≤ p.perturb
  | 0, _ => Nat.le_refl _
  | n + 1, p => by
    refine Nat.le_trans (perturb_le n (step M p)) ?_
    unfold step
    split
    · exact Nat.le_refl _
    · exact Nat.div_le_self _ _
theorem walk_free {M : Nat} {place : Array Nat} (hM : Mask M) (hs : place.size ≤ M) {p : Probe} (hp : Fine M p) (hb : p.perturb < 2 ^ 64) : ∃ m, m < 10 * turns M ∧ (ST.iter (step M) m p).j ∉ place.toList := by
  obtain ⟨j, hj, nj⟩ := free_is hs
  obtain ⟨m1, hm1, e1, k1, _⟩ := to_leaps (M := M) 13 (p := p) hp.more
  generalize hq : ST.iter (step M) m1 p = q at *
  have fq : Fine M q := by rw [← hq]; exact hp.iter m1
  have pz : q.perturb = 0 := by
    have h2 := congrArg Prod.snd e1
    rw [leaps_perturb] at h2
    have h3 : q.perturb = p.perturb / 32 ^ 13 := h2
    rw [h3]
    exact Nat.div_eq_of_lt (Nat.lt_of_lt_of_le hb (by decide))
  obtain ⟨k, hk, ek⟩ := cyc_all hM (i := lc (M + 1) q.i) (j := j) (Nat.mod_lt _ (Nat.succ_pos _)) hj
  obtain ⟨m2, hm2, e2, _, k2⟩ := to_leaps (M := M) (k + 1) (p := q) fq.more
  refine ⟨m1 + m2, ?_, ?_⟩
  · unfold turns
    omega
  · rw [iter_add, hq, k2 (Nat.succ_pos _)]
    have h1 := congrArg Prod.fst e2
    rw [pz, leaps_zero] at h1
    have h2 : (ST.iter (step M) m2 q).i = ST.iter (lc (M + 1)) k (lc (M + 1) q.i) := h1
    rw [h2, ek]
    exact nj
theorem below_go {xs : Array Nat} {j : Nat} (so : xs.toList.Pairwise (· < ·)) : ∀ (fuel lo hi : Nat), lo ≤ hi → hi ≤ xs.size → hi - lo ≤ fuel → (∀ k, k < lo → xs.getD k j < j) → (∀ k, hi ≤ k → k < xs.size → j ≤ xs.getD k j) →
    (∀ k, k < below.go xs j fuel lo hi → xs.getD k j < j) ∧ (∀ k, below.go xs j fuel lo hi ≤ k → k < xs.size → j ≤ xs.getD k j) ∧ below.go xs j fuel lo hi ≤ xs.size
  | 0, lo, hi, h1, h2, h3, h4, h5 => by
    have : lo = hi := by omega
    subst this
    exact ⟨h4, h5, h2⟩
  | fuel + 1, lo, hi, h1, h2, h3, h4, h5 => by
    unfold below.go
    by_cases c : lo < hi
    · rw [if_pos c]
      have hm : (lo + hi) / 2 < xs.size := by omega
      have so' := List.pairwise_iff_getElem.mp so
      have gd : ∀ k, k < xs.size → xs.getD k j = xs.toList.getD k j := fun k hk => by simp [Array.getD, hk]
      by_cases d : xs.getD ((lo + hi) / 2) j < j
      · simp only [if_pos d]
        refine below_go so fuel _ hi (by omega) h2 (by omega) (fun k hk => ?_) h5
        by_cases e : k = (lo + hi) / 2
        · rw [e]; exact d
        · have hk' : k < (lo + hi) / 2 := by omega
          have z := so' k ((lo + hi) / 2) (by simpa using (show k < xs.size by omega)) (by simpa using hm) hk'
          have g1 : xs.getD k j = xs[k]'(by omega) := by simp [Array.getD, show k < xs.size by omega]
          have g2 : xs.getD ((lo + hi) / 2) j = xs[(lo + hi) / 2]'hm := by simp [Array.getD, hm]
          rw [g2] at d
          rw [g1]
          simp at z
          omega
      · simp only [if_neg d]
        refine below_go so fuel lo _ (by omega) (by omega) (by omega) h4 (fun k hk hk2 => ?_)
        by_cases e : k = (lo + hi) / 2
        · rw [e]; omega
        · have z := so' ((lo + hi) / 2) k (by simpa using hm) (by simpa using hk2) (by omega)
          have g1 : xs.getD k j = xs[k]'hk2 := by simp [Array.getD, hk2]
          have g2 : xs.getD ((lo + hi) / 2) j = xs[(lo + hi) / 2]'hm := by simp [Array.getD, hm]
          rw [g2] at d
          rw [g1]
          simp at z
          omega
    · rw [if_neg c]
      have : lo = hi := by omega
      subst this
      exact ⟨h4, h5, h2⟩
theorem below_all {xs : Array Nat} {j : Nat} (so : xs.toList.Pairwise (· < ·)) : (∀ k, k < below xs j → xs.getD k j < j) ∧ (∀ k, below xs j ≤ k → k < xs.size → j ≤ xs.getD k j) ∧ below xs j ≤ xs.size :=
  below_go so xs.size 0 xs.size (Nat.zero_le _) (Nat.le_refl _) (Nat.le_refl _) (fun k hk => absurd hk (by omega)) (fun k h1 h2 => absurd h2 (by omega))
theorem below_at {xs : Array Nat} {j : Nat} (so : xs.toList.Pairwise (· < ·)) (h : j ∈ xs.toList) : xs[below xs j]? = some j := by
  obtain ⟨b1, b2, b3⟩ := below_all (j := j) so
  obtain ⟨k, hk, e⟩ := List.mem_iff_getElem.mp h
  have hk' : k < xs.size := by simpa using hk
  have e' : xs[k] = j := by simpa using e
  have g1 : xs.getD k j = j := by simp [Array.getD, hk', e']
  have h1 : below xs j ≤ k := by
    refine Classical.byContradiction fun c => ?_
    have := b1 k (by omega)
    omega
  by_cases c : below xs j = k
  · rw [c, Array.getElem?_eq_getElem hk', e']
  · have hb : below xs j < xs.size := by omega
    have z := List.pairwise_iff_getElem.mp so (below xs j) k (by simpa using hb) hk (by omega)
    have b := b2 (below xs j) (Nat.le_refl _) hb
    have g2 : xs.getD (below xs j) j = xs[below xs j]'hb := by simp [Array.getD, hb]
    rw [g2] at b
    simp at z
    omega
structure Tab (t : SetTable) : Prop where
  mask : Mask t.mask
  none : t.dummies = #[]
  size : t.place.size ≤ t.mask
  le : ∀ j ∈ t.place.toList, j ≤ t.mask
  rise : t.place.toList.Pairwise (· < ·)
theorem slot_of {t : SetTable} (T : Tab t) (j : Nat) : (t.slot j = .empty ∧ j ∉ t.place.toList) ∨ ∃ i, t.slot j = .live i ∧ t.place[i]? = some j := by
  unfold slot
  by_cases c : t.place[below t.place j]? = some j
  · right
    exact ⟨below t.place j, by simp [c], c⟩
  · left
    have hd : has t.dummies j = false := by rw [T.none]; unfold has; simp
    refine ⟨by simp [c, hd], fun h => c (below_at T.rise h)⟩
def way (t : SetTable) (p : Probe) (m : Nat) : Nat := (ST.iter (step t.mask) m p).j
theorem way_succ (t : SetTable) (p : Probe) (m : Nat) : way t (step t.mask p) m = way t p (m + 1) := rfl
theorem go_is {t : SetTable} (T : Tab t) {hashAt : Nat → Int} {h : Int} : ∀ (fuel : Nat) (p : Probe), p.dummy = none → (∃ m, m < fuel ∧ way t p m ∉ t.place.toList) →
    ∃ m, (∀ m', m' < m → ∃ i, t.place[i]? = some (way t p m') ∧ hashAt i ≠ h) ∧
      ((way t p m ∉ t.place.toList ∧ probe.go t hashAt h fuel p = some (.empty (way t p m) none)) ∨
       ∃ i, t.place[i]? = some (way t p m) ∧ t.slot (way t p m) = .live i ∧ hashAt i = h ∧ probe.go t hashAt h fuel p = some (.candidate (way t p m) i (ST.iter (step t.mask) (m + 1) p)))
  | 0, p, _, ⟨m, hm, _⟩ => absurd hm (by omega)
  | fuel + 1, p, hd, ⟨m0, hm0, n0⟩ => by
    unfold probe.go
    rcases slot_of T p.j with ⟨e, ne⟩ | ⟨i, e, pi⟩
    · refine ⟨0, fun m' h => absurd h (by omega), .inl ⟨ne, ?_⟩⟩
      rw [e]
      show some (Met.empty p.j p.dummy) = _
      rw [hd]
      rfl
    · by_cases c : hashAt i = h
      · refine ⟨0, fun m' h => absurd h (by omega), .inr ⟨i, pi, e, c, ?_⟩⟩
        rw [e]
        simp only [c, beq_self_eq_true, if_true]
        rw [advance_is]
        rfl
      · have m1 : m0 ≠ 0 := fun z => by
          subst z
          exact n0 (by rw [List.mem_iff_getElem?]; exact ⟨i, by rw [Array.getElem?_toList]; exact pi⟩)
        have hd' : (step t.mask p).dummy = none := by unfold step; split <;> exact hd
        obtain ⟨m, h1, h2⟩ := go_is T (hashAt := hashAt) (h := h) fuel (step t.mask p) hd' ⟨m0 - 1, by omega, by rw [way_succ, show m0 - 1 + 1 = m0 by omega]; exact n0⟩
        have ee : probe.go t hashAt h (fuel + 1) p = probe.go t hashAt h fuel (step t.mask p) := by
          show (match t.slot p.j with | .empty => some (Met.empty p.j p.dummy) | .dummy => probe.go t hashAt h fuel (t.advance { p with dummy := some p.j }) | .live i => if hashAt i == h then some (.candidate p.j i (t.advance p)) else probe.go t hashAt h fuel (t.advance p)) = _
          rw [e]
          have cb : (hashAt i == h) = false := by simpa using c
          simp only [cb, Bool.false_eq_true, if_false]
          rw [advance_is]
        refine ⟨m + 1, fun m' hm' => ?_, ?_⟩
        · by_cases z : m' = 0
          · subst z; exact ⟨i, pi, c⟩
          · have := h1 (m' - 1) (by omega)
            rw [way_succ, show m' - 1 + 1 = m' by omega] at this
            exact this
        · rw [e]
          have cb : (hashAt i == h) = false := by simpa using c
          simp only [cb, Bool.false_eq_true, if_false, advance_is]
          exact h2
def Loc (t : SetTable) (hs : List Int) : Prop := ∀ (idx j : Nat) (h : Int), t.place[idx]? = some j → hs[idx]? = some h → ∃ m, way t (t.probeStart h) m = j ∧ ∀ m', m' < m → way t (t.probeStart h) m' ∈ t.place.toList
theorem probe_is {t : SetTable} (T : Tab t) {hashAt : Nat → Int} {h : Int} {p : Probe} (hp : Fine t.mask p) (hb : p.perturb < 2 ^ 64) :
    ∃ m, (∀ m', m' < m → ∃ i, t.place[i]? = some (way t p m') ∧ hashAt i ≠ h) ∧
      ((way t p m ∉ t.place.toList ∧ t.probe hashAt h p = some (.empty (way t p m) none)) ∨
       ∃ i, t.place[i]? = some (way t p m) ∧ t.slot (way t p m) = .live i ∧ hashAt i = h ∧ t.probe hashAt h p = some (.candidate (way t p m) i (ST.iter (step t.mask) (m + 1) p))) :=
  go_is T _ p hp.dummy (walk_free T.mask T.size hp hb)
theorem insertAt_toList {α : Type} (xs : Array α) (p : Nat) (x : α) : (insertAt xs p x).toList = xs.toList.take p ++ [x] ++ xs.toList.drop p := by
  unfold insertAt
  simp
  exact List.take_of_length_le (by simp)
structure Put (t : SetTable) (j : Nat) : Prop where
  le : j ≤ t.mask
  new : j ∉ t.place.toList
  room : t.place.size + 1 ≤ t.mask
theorem put_place {t : SetTable} (T : Tab t) {j : Nat} : (t.put j).1 = { t with place := insertAt t.place (below t.place j) j } ∧ (t.put j).2 = below t.place j := by
  unfold put
  have hd : has t.dummies j = false := by rw [T.none]; unfold has; simp
  simp [hd]
theorem put_tab {t : SetTable} (T : Tab t) {j : Nat} (P : Put t j) : Tab (t.put j).1 := by
  obtain ⟨e, _⟩ := put_place T (j := j)
  obtain ⟨b1, b2, b3⟩ := below_all (j := j) T.rise
  rw [e]
  refine ⟨T.mask, T.none, ?_, fun k hk => ?_, ?_⟩
  · show (insertAt t.place (below t.place j) j).size ≤ t.mask
    have := congrArg List.length (insertAt_toList t.place (below t.place j) j)
    simp at this
    have := P.room
    omega
  · have hk' : k ∈ (insertAt t.place (below t.place j) j).toList := hk
    rw [insertAt_toList] at hk'
    rcases List.mem_append.mp hk' with hk' | hk'
    · rcases List.mem_append.mp hk' with hk' | hk'
      · exact T.le k (List.mem_of_mem_take hk')
      · rw [List.mem_singleton.mp hk']; exact P.le
    · exact T.le k (List.mem_of_mem_drop hk')
  · show (insertAt t.place (below t.place j) j).toList.Pairwise (· < ·)
    rw [insertAt_toList]
    have so := T.rise
    have get : ∀ k (hk : k < t.place.size), t.place.getD k j = t.place.toList[k]'(by simpa using hk) := fun k hk => by simp [Array.getD, hk]
    refine List.pairwise_append.mpr ⟨List.pairwise_append.mpr ⟨so.sublist (List.take_sublist _ _), List.pairwise_singleton _ _, fun a ha b hb => ?_⟩, so.sublist (List.drop_sublist _ _), fun a ha b hb => ?_⟩
    · rw [List.mem_singleton.mp hb]
      obtain ⟨k, hk, rfl⟩ := List.mem_iff_getElem.mp ha
      rw [List.length_take] at hk
      have hk2 : k < t.place.size := by simp at hk; omega
      have := b1 k (by omega)
      rw [get k hk2] at this
      rw [List.getElem_take]
      exact this
    · obtain ⟨k, hk, rfl⟩ := List.mem_iff_getElem.mp hb
      rw [List.length_drop] at hk
      have hk2 : below t.place j + k < t.place.size := by simp at hk; omega
      rw [List.getElem_drop]
      have z := b2 (below t.place j + k) (by omega) hk2
      rw [get _ hk2] at z
      have ne : t.place.toList[below t.place j + k]'(by simpa using hk2) ≠ j := fun e => P.new (e ▸ List.getElem_mem _)
      rcases List.mem_append.mp ha with ha | ha
      · obtain ⟨i, hi, rfl⟩ := List.mem_iff_getElem.mp ha
        rw [List.length_take] at hi
        rw [List.getElem_take]
        exact List.pairwise_iff_getElem.mp so i (below t.place j + k) (by omega) (by simpa using hk2) (by omega)
      · rw [List.mem_singleton.mp ha]
        omega
theorem put_loc {t : SetTable} (T : Tab t) {hs : List Int} (hl : hs.length = t.place.size) (L : Loc t hs) {h : Int} {m : Nat} (hm : ∀ m', m' < m → way t (t.probeStart h) m' ∈ t.place.toList) :
    Loc (t.put (way t (t.probeStart h) m)).1 (hs.take (t.put (way t (t.probeStart h) m)).2 ++ [h] ++ hs.drop (t.put (way t (t.probeStart h) m)).2) := by
  generalize hj : way t (t.probeStart h) m = j
  obtain ⟨e, e2⟩ := put_place T (j := j)
  obtain ⟨_, _, b3⟩ := below_all (j := j) T.rise
  rw [e, e2]
  generalize hp : below t.place j = p at *
  have mem : ∀ k, k ∈ t.place.toList → k ∈ (insertAt t.place p j).toList := fun k hk => by
    rw [insertAt_toList]
    rw [← List.take_append_drop p t.place.toList] at hk
    rcases List.mem_append.mp hk with hk | hk
    · exact List.mem_append_left _ (List.mem_append_left _ hk)
    · exact List.mem_append_right _ hk
  have memj : j ∈ (insertAt t.place p j).toList := by
    rw [insertAt_toList]
    exact List.mem_append_left _ (List.mem_append_right _ (List.mem_singleton.mpr rfl))
  intro idx k h' hk hh
  have hk' : (insertAt t.place p j).toList[idx]? = some k := by simpa using hk
  rw [insertAt_toList] at hk'
  have wy : ∀ (q : Probe) m, way { t with place := insertAt t.place p j } q m = way t q m := fun _ _ => rfl
  have ps : ∀ h, ({ t with place := insertAt t.place p j } : SetTable).probeStart h = t.probeStart h := fun _ => rfl
  have lt : (t.place.toList.take p).length = p := by rw [List.length_take, Array.length_toList]; omega
  have lh : (hs.take p).length = p := by rw [List.length_take]; omega
  rw [List.append_assoc] at hk' hh
  have old : ∀ i, t.place.toList[i]? = some k → hs[i]? = some h' → ∃ m, way { t with place := insertAt t.place p j } (({ t with place := insertAt t.place p j } : SetTable).probeStart h') m = k ∧ ∀ m', m' < m → way { t with place := insertAt t.place p j } (({ t with place := insertAt t.place p j } : SetTable).probeStart h') m' ∈ ({ t with place := insertAt t.place p j } : SetTable).place.toList := fun i a b => by
    obtain ⟨m, x, y⟩ := L i k h' (by rw [← Array.getElem?_toList]; exact a) b
    exact ⟨m, x, fun m' hm' => mem _ (y m' hm')⟩
  by_cases c : idx < p
  · rw [List.getElem?_append_left (by omega), List.getElem?_take_of_lt c] at hk' hh
    exact old idx hk' hh
  · rw [List.getElem?_append_right (by omega)] at hk' hh
    rw [lt] at hk'
    rw [lh] at hh
    by_cases d : idx = p
    · subst d
      simp at hk' hh
      subst hk' hh
      exact ⟨m, hj, fun m' hm' => mem _ (hm m' hm')⟩
    · rw [List.getElem?_append_right (by simp; omega)] at hk' hh
      simp only [List.length_singleton, List.getElem?_drop] at hk' hh
      rw [show p + (idx - p - 1) = idx - 1 by omega] at hk' hh
      exact old (idx - 1) hk' hh
end ST
end
section
namespace ST
open PySem PySem.SetTable
def atBlock (M i perturb : Nat) : Probe := { j := i, more := runEnd M i - i, i := i, perturb := perturb, dummy := none }
theorem in_block {M : Nat} : ∀ (m : Nat) (p : Probe), m ≤ p.more → ST.iter (step M) m p = { p with j := p.j + m, more := p.more - m }
  | 0, p, _ => by cases p; rfl
  | m + 1, p, h => by
    have hs : step M p = { p with j := p.j + 1, more := p.more - 1 } := by unfold step; rw [if_pos (by omega)]
    show ST.iter (step M) m (step M p) = _
    rw [in_block m (step M p) (by rw [hs]; show m ≤ p.more - 1; omega), hs]
    show ({ p with j := p.j + 1 + m, more := p.more - 1 - m } : Probe) = { p with j := p.j + (m + 1), more := p.more - (m + 1) }
    rw [show p.j + 1 + m = p.j + (m + 1) by omega, show p.more - 1 - m = p.more - (m + 1) by omega]
theorem next_block {M i pe : Nat} : ST.iter (step M) (runEnd M i - i + 1) (atBlock M i pe) = atBlock M (leap M i pe).1 (leap M i pe).2 := by
  rw [iter_succ, in_block (runEnd M i - i) (atBlock M i pe) (Nat.le_refl _)]
  unfold step
  rw [if_neg (by show ¬ (runEnd M i - i - (runEnd M i - i) > 0); omega)]
  rfl
theorem runEnd_ge (M i : Nat) : i ≤ runEnd M i := by
  unfold runEnd
  split <;> omega
def wayM (M : Nat) (p : Probe) (m : Nat) : Nat := (ST.iter (step M) m p).j
theorem free_at {M : Nat} {owner : Array (Option Nat)} : ∀ (fuel i pe : Nat), i ≤ M → (∃ k, k < fuel ∧ owner.getD (leaps M k (i, pe)).1 (some 0) = none) →
    ∃ m, layClean.free M owner fuel i pe = some (wayM M (atBlock M i pe) m) ∧ owner.getD (wayM M (atBlock M i pe) m) (some 0) = none ∧ ∀ m', m' < m → (owner.getD (wayM M (atBlock M i pe) m') (some 0)).isSome = true
  | 0, i, pe, _, ⟨k, hk, _⟩ => absurd hk (by omega)
  | fuel + 1, i, pe, hi, ⟨k, hk, nk⟩ => by
    have ge := runEnd_ge M i
    have wy : ∀ m, m ≤ runEnd M i - i → wayM M (atBlock M i pe) m = i + m := fun m hm => by
      unfold wayM
      rw [in_block m (atBlock M i pe) hm]
      rfl
    unfold layClean.free
    cases hf : (List.range (runEnd M i + 1 - i)).find? fun k => (owner.getD (i + k) (some 0)).isNone with
    | some k' =>
      have h1 := List.find?_some hf
      have h2 := List.mem_range.mp (List.mem_of_find?_eq_some hf)
      refine ⟨k', ?_, ?_, fun m' hm' => ?_⟩
      · rw [wy k' (by omega)]
      · rw [wy k' (by omega)]
        simpa using h1
      · rw [wy m' (by omega)]
        obtain ⟨_, as, bs, e, hb⟩ := List.find?_eq_some_iff_append.mp hf
        have hl : as.length = k' := by
          have : (List.range (runEnd M i + 1 - i))[as.length]? = some k' := by rw [e]; simp
          rw [List.getElem?_range (by have := congrArg List.length e; simp at this; omega)] at this
          exact Option.some.inj this
        have hm : m' ∈ as := by
          have : (List.range (runEnd M i + 1 - i))[m']? = some m' := List.getElem?_range (by omega)
          rw [e, List.getElem?_append_left (by omega)] at this
          exact List.mem_of_getElem? this
        have := hb m' hm
        simpa [Option.isSome_iff_ne_none] using this
    | none =>
      have hn := List.find?_eq_none.mp hf
      have all : ∀ m, m ≤ runEnd M i - i → (owner.getD (i + m) (some 0)).isSome = true := fun m hm => by
        have := hn m (List.mem_range.mpr (by omega))
        simpa [Option.isSome_iff_ne_none] using this
      have k0 : k ≠ 0 := fun z => by
        subst z
        have := all 0 (Nat.zero_le _)
        have nk' : owner.getD i (some 0) = none := nk
        rw [Nat.add_zero, nk'] at this
        cases this
      obtain ⟨m, h1, h2, h3⟩ := free_at fuel (leap M i pe).1 (leap M i pe).2 (leap_le _ _ _) ⟨k - 1, by omega, by
        have e : leaps M k (i, pe) = leaps M (k - 1) (leap M i pe) := by
          obtain ⟨k', rfl⟩ : ∃ k', k = k' + 1 := ⟨k - 1, by omega⟩
          rfl
        rw [e] at nk
        exact nk⟩
      have sh : ∀ m, wayM M (atBlock M (leap M i pe).1 (leap M i pe).2) m = wayM M (atBlock M i pe) (runEnd M i - i + 1 + m) := fun m => by
        unfold wayM
        rw [iter_add, next_block]
      rw [sh] at h1 h2
      refine ⟨runEnd M i - i + 1 + m, h1, h2, fun m' hm' => ?_⟩
      by_cases c : m' ≤ runEnd M i - i
      · rw [wy m' c]
        exact all m' c
      · have := h3 (m' - (runEnd M i - i + 1)) (by omega)
        rw [sh, show runEnd M i - i + 1 + (m' - (runEnd M i - i + 1)) = m' by omega] at this
        exact this
structure Own (M : Nat) (owner : Array (Option Nat)) (hs : List Int) : Prop where
  size : owner.size = M + 1
  has : ∀ idx, idx < hs.length → ∃ j : Nat, owner[j]? = some (some idx)
  at_ : ∀ (j idx : Nat), owner[j]? = some (some idx) → idx < hs.length ∧ ∃ m, wayM M (atBlock M (bits (hs.getD idx 0) % (M + 1)) (bits (hs.getD idx 0))) m = j ∧ ∀ m', m' < m → (owner.getD (wayM M (atBlock M (bits (hs.getD idx 0) % (M + 1)) (bits (hs.getD idx 0))) m') (some 0)).isSome = true
  one : ∀ (j j' idx : Nat), owner[j]? = some (some idx) → owner[j']? = some (some idx) → j = j'
theorem Own.start (M : Nat) : Own M (Array.replicate (M + 1) none) [] := by
  have no : ∀ (j idx : Nat), ¬ (Array.replicate (M + 1) (none : Option Nat))[j]? = some (some idx) := fun j idx e => by
    rw [Array.getElem?_replicate] at e
    split at e <;> cases e
  exact ⟨Array.size_replicate .., fun idx h => absurd h (by simp), fun j idx e => absurd e (no j idx), fun j _ idx e => absurd e (no j idx)⟩
theorem Own.free {M : Nat} {owner : Array (Option Nat)} {hs : List Int} (O : Own M owner hs) (h : hs.length ≤ M) : ∃ j, j < M + 1 ∧ owner.getD j (some 0) = none := by
  refine Classical.byContradiction fun c => ?_
  have all : ∀ j, j < M + 1 → ∃ idx, owner[j]? = some (some idx) := fun j hj => by
    have hj' : j < owner.size := by rw [O.size]; exact hj
    cases e : owner[j] with
    | none => exact absurd ⟨j, hj, by simp [Array.getD, hj', e]⟩ c
    | some idx => exact ⟨idx, by rw [Array.getElem?_eq_getElem hj', e]⟩
  have key : ∀ n, n ≤ M + 1 → ∃ l : List Nat, l.length = n ∧ l.Nodup ∧ ∀ x ∈ l, ∃ j, j < n ∧ owner[j]? = some (some x) := by
    intro n
    induction n with
    | zero => exact fun _ => ⟨[], rfl, List.nodup_nil, fun x hx => by cases hx⟩
    | succ n ih =>
      intro hn
      obtain ⟨l, l1, l2, l3⟩ := ih (by omega)
      obtain ⟨idx, e⟩ := all n (by omega)
      refine ⟨idx :: l, by simp [l1], List.nodup_cons.mpr ⟨fun hm => ?_, l2⟩, fun x hx => ?_⟩
      · obtain ⟨j, hj, ej⟩ := l3 idx hm
        have := O.one _ _ _ ej e
        omega
      · rcases List.mem_cons.mp hx with rfl | hx
        · exact ⟨n, by omega, e⟩
        · obtain ⟨j, hj, ej⟩ := l3 x hx
          exact ⟨j, by omega, ej⟩
  obtain ⟨l, l1, l2, l3⟩ := key (M + 1) (Nat.le_refl _)
  have := len_of_sub (l₂ := List.range hs.length) l2 fun x hx => by
    obtain ⟨j, _, ej⟩ := l3 x hx
    exact List.mem_range.mpr (O.at_ j x ej).1
  rw [List.length_range] at this
  omega
theorem leaps_le {M : Nat} : ∀ (k : Nat) (x : Nat × Nat), x.1 ≤ M → (leaps M k x).1 ≤ M
  | 0, x, h => h
  | k + 1, x, h => leaps_le k (leap M x.1 x.2) (leap_le _ _ _)
theorem leaps_add {M : Nat} (a b : Nat) (x : Nat × Nat) : leaps M (a + b) x = leaps M b (leaps M a x) := iter_add _ a b x
theorem Own.next {M : Nat} {owner : Array (Option Nat)} {hs : List Int} (hM : Mask M) (O : Own M owner hs) (hl : hs.length ≤ M) (h : Int) :
    ∃ j, layClean.free M owner (turns M) (bits h % (M + 1)) (bits h) = some j ∧ Own M (owner.setIfInBounds j (some hs.length)) (hs ++ [h]) := by
  obtain ⟨f, hf, nf⟩ := O.free hl
  have hi : bits h % (M + 1) ≤ M := by
    have := Nat.mod_lt (bits h) (show 0 < M + 1 by omega)
    omega
  have reach : ∃ k, k < turns M ∧ owner.getD (leaps M k (bits h % (M + 1), bits h)).1 (some 0) = none := by
    have p13 : (leaps M 13 (bits h % (M + 1), bits h)).2 = 0 := by
      rw [leaps_perturb]
      exact Nat.div_eq_of_lt (Nat.lt_of_lt_of_le (bits_lt h) (by decide))
    have i13 := leaps_le (M := M) 13 (bits h % (M + 1), bits h) hi
    obtain ⟨k, hk, ek⟩ := cyc_all hM (i := (leaps M 13 (bits h % (M + 1), bits h)).1) (j := f) (by omega) hf
    refine ⟨13 + k, by unfold turns; omega, ?_⟩
    have e : leaps M 13 (bits h % (M + 1), bits h) = ((leaps M 13 (bits h % (M + 1), bits h)).1, 0) := Prod.ext rfl p13
    rw [leaps_add, e, leaps_zero, ek]
    exact nf
  obtain ⟨m, h1, h2, h3⟩ := free_at (M := M) (owner := owner) (turns M) _ (bits h) hi reach
  refine ⟨_, h1, ?_⟩
  generalize hj : wayM M (atBlock M (bits h % (M + 1)) (bits h)) m = j at h2
  have hjs : j < owner.size := by
    refine Classical.byContradiction fun c => ?_
    have : owner.getD j (some 0) = some 0 := by simp [Array.getD, c]
    rw [this] at h2
    cases h2
  have hjn : owner[j]? = some none := by
    rw [Array.getElem?_eq_getElem hjs]
    simp [Array.getD, hjs] at h2
    rw [h2]
  have get : ∀ k, (owner.setIfInBounds j (some hs.length))[k]? = if k = j then some (some hs.length) else owner[k]? := fun k => by
    rw [Array.getElem?_setIfInBounds]
    by_cases c : j = k
    · subst c
      simp [hjs]
    · rw [if_neg c, if_neg (Ne.symm c)]
  have some_of : ∀ k, (owner.getD k (some 0)).isSome = true → ((owner.setIfInBounds j (some hs.length)).getD k (some 0)).isSome = true := fun k hk => by
    rw [Array.getD_eq_getD_getElem?, get]
    split
    · rfl
    · rw [Array.getD_eq_getD_getElem?] at hk
      exact hk
  have gd : ∀ idx, idx < hs.length → (hs ++ [h]).getD idx 0 = hs.getD idx 0 := fun idx hi => by
    rw [List.getD_eq_getElem?_getD, List.getD_eq_getElem?_getD, List.getElem?_append_left hi]
  have gl : (hs ++ [h]).getD hs.length 0 = h := by rw [List.getD_eq_getElem?_getD]; simp
  refine ⟨by rw [Array.size_setIfInBounds]; exact O.size, fun idx hi => ?_, fun k idx e => ?_, fun k k' idx e e' => ?_⟩
  · by_cases c : idx < hs.length
    · obtain ⟨k, ek⟩ := O.has idx c
      refine ⟨k, ?_⟩
      rw [get, if_neg (fun z => by rw [z, hjn] at ek; cases ek)]
      exact ek
    · have : idx = hs.length := by simp at hi; omega
      exact ⟨j, by rw [get, if_pos rfl, this]⟩
  · rw [get] at e
    by_cases c : k = j
    · rw [if_pos c] at e
      have : hs.length = idx := by simpa using e
      subst this
      refine ⟨by simp, m, ?_, fun m' hm' => ?_⟩
      · rw [gl, hj, c]
      · rw [gl]
        exact some_of _ (h3 m' hm')
    · rw [if_neg c] at e
      obtain ⟨i1, m1, w1, w2⟩ := O.at_ k idx e
      refine ⟨by simp; omega, m1, ?_, fun m' hm' => ?_⟩
      · rw [gd idx i1]; exact w1
      · rw [gd idx i1]; exact some_of _ (w2 m' hm')
  · rw [get] at e e'
    by_cases c : k = j
    · by_cases c' : k' = j
      · rw [c, c']
      · rw [if_pos c] at e
        rw [if_neg c'] at e'
        have : hs.length = idx := by simpa using e
        have := (O.at_ k' idx e').1
        omega
    · by_cases c' : k' = j
      · rw [if_neg c] at e
        rw [if_pos c'] at e'
        have : hs.length = idx := by simpa using e'
        have := (O.at_ k idx e).1
        omega
      · rw [if_neg c] at e
        rw [if_neg c'] at e'
        exact O.one _ _ _ e e'
theorem clean_is {M : Nat} (hM : Mask M) {hashes : Array Int} (h : hashes.size ≤ M) : ∃ owner, layClean M hashes = some owner ∧ Own M owner hashes.toList := by
  unfold layClean
  rw [← Array.foldl_toList]
  have key : ∀ (l done : List Int) (owner : Array (Option Nat)), Own M owner done → done.length + l.length ≤ M →
      ∃ owner', (l.foldl (fun acc h => do
        let (owner, k) ← acc
        let j ← layClean.free M owner (turns M) (bits h % (M + 1)) (bits h)
        pure (owner.setIfInBounds j (some k), k + 1)) (some (owner, done.length))) = some (owner', done.length + l.length) ∧ Own M owner' (done ++ l) := by
    intro l
    induction l with
    | nil => exact fun done owner O _ => ⟨owner, rfl, by rw [List.append_nil]; exact O⟩
    | cons a t ih =>
      intro done owner O hl
      simp at hl
      obtain ⟨j, ej, O'⟩ := O.next hM (by omega) a
      obtain ⟨owner', e, O''⟩ := ih (done ++ [a]) _ O' (by simp; omega)
      refine ⟨owner', ?_, by simpa using O''⟩
      rw [List.foldl_cons]
      have : (do
        let (owner, k) ← some (owner, done.length)
        let j ← layClean.free M owner (turns M) (bits a % (M + 1)) (bits a)
        pure (owner.setIfInBounds j (some k), k + 1)) = some (owner.setIfInBounds j (some done.length), done.length + 1) := by
        show (do
          let j ← layClean.free M owner (turns M) (bits a % (M + 1)) (bits a)
          pure (owner.setIfInBounds j (some done.length), done.length + 1)) = _
        rw [ej]
        rfl
      rw [this]
      rw [show (done ++ [a]).length = done.length + 1 by simp] at e
      rw [e]
      simp
      omega
  obtain ⟨owner', e, O⟩ := key hashes.toList [] _ (Own.start M) (by simpa using h)
  refine ⟨owner', ?_, by simpa using O⟩
  have e' := congrArg (Option.map Prod.fst) e
  exact e'
end ST
end
section
namespace ST
open PySem PySem.SetTable
def pairs (owner : Array (Option Nat)) (l : List Nat) : List (Nat × Nat) := l.filterMap fun j => (owner.getD j none).map (j, ·)
theorem mem_pairs {owner : Array (Option Nat)} {l : List Nat} {j idx : Nat} : (j, idx) ∈ pairs owner l ↔ j ∈ l ∧ owner.getD j none = some idx := by
  unfold pairs
  rw [List.mem_filterMap]
  constructor
  · rintro ⟨k, hk, e⟩
    cases o : owner.getD k none with
    | none => rw [o] at e; cases e
    | some x =>
      rw [o] at e
      have e' : (k, x) = (j, idx) := Option.some.inj e
      cases e'
      exact ⟨hk, o⟩
  · rintro ⟨hj, e⟩
    exact ⟨j, hj, by rw [e]; rfl⟩
theorem pairs_rise {owner : Array (Option Nat)} : ∀ {l : List Nat}, l.Pairwise (· < ·) → ((pairs owner l).map (·.1)).Pairwise (· < ·)
  | [], _ => .nil
  | a :: t, h => by
    obtain ⟨h1, h2⟩ := List.pairwise_cons.mp h
    have ih := pairs_rise (owner := owner) h2
    unfold pairs
    rw [List.filterMap_cons]
    cases o : owner.getD a none with
    | none => exact ih
    | some x =>
      show ((a, x) :: pairs owner t |>.map (·.1)).Pairwise (· < ·)
      rw [List.map_cons]
      refine List.pairwise_cons.mpr ⟨fun b hb => ?_, ih⟩
      obtain ⟨⟨b', i⟩, hm, rfl⟩ := List.mem_map.mp hb
      exact h1 b' (mem_pairs.mp hm).1
theorem perm_of_sub : ∀ {l₁ l₂ : List Nat}, l₁.Nodup → (∀ x ∈ l₁, x ∈ l₂) → l₂.length ≤ l₁.length → l₁.Perm l₂
  | [], l₂, _, _, h => by
    have : l₂ = [] := List.length_eq_zero_iff.mp (by simpa using h)
    rw [this]
  | a :: t, l₂, nd, hs, h => by
    obtain ⟨n1, n2⟩ := List.nodup_cons.mp nd
    have ha : a ∈ l₂ := hs a List.mem_cons_self
    have hp := List.perm_cons_erase ha
    have hl : (l₂.erase a).length = l₂.length - 1 := List.length_erase_of_mem ha
    have ih := perm_of_sub (l₂ := l₂.erase a) n2 (fun x hx => (List.mem_erase_of_ne (fun (e : x = a) => n1 (by rw [← e]; exact hx))).mpr (hs x (List.mem_cons_of_mem _ hx))) (by simp at h; omega)
    exact (List.Perm.cons a ih).trans hp.symm
theorem laid_is {M : Nat} (hM : Mask M) {hashes : Array Int} (h : hashes.size ≤ M) (finger moves : Nat) (led plain : Bool) :
    ∃ (place order : Array Nat), laid M finger moves led plain hashes = some ({ mask := M, place := place, dummies := #[], finger := finger, led := led, moves := moves, plain := plain }, order) ∧
      Tab { mask := M, place := place, dummies := #[], finger := finger, led := led, moves := moves, plain := plain } ∧ place.size = hashes.size ∧ order.toList.Perm (List.range hashes.size) ∧
      Loc { mask := M, place := place, dummies := #[], finger := finger, led := led, moves := moves, plain := plain } (order.toList.map fun i => hashes.toList.getD i 0) := by
  obtain ⟨owner, e, O⟩ := clean_is hM h
  have gd : ∀ j idx, owner.getD j none = some idx ↔ owner[j]? = some (some idx) := fun j idx => by
    rw [Array.getD_eq_getD_getElem?]
    cases o : owner[j]? with
    | none => simp
    | some x => simp
  have rl := List.pairwise_lt_range (n := M + 1)
  have rise := pairs_rise (owner := owner) rl
  have mem : ∀ j idx, (j, idx) ∈ pairs owner (List.range (M + 1)) ↔ owner[j]? = some (some idx) := fun j idx => by
    rw [mem_pairs, gd]
    refine ⟨fun z => z.2, fun z => ⟨List.mem_range.mpr ?_, z⟩⟩
    have := (Array.getElem?_eq_some_iff.mp z).1
    rw [O.size] at this
    exact this
  have nd : ((pairs owner (List.range (M + 1))).map (·.2)).Nodup := by
    have r := List.pairwise_map.mp rise
    refine List.pairwise_map.mpr (r.imp_of_mem fun {a b} ha hb lt z => ?_)
    obtain ⟨a1, a2⟩ := a
    obtain ⟨b1, b2⟩ := b
    have z' : a2 = b2 := z
    subst z'
    have := O.one _ _ _ ((mem a1 a2).mp ha) ((mem b1 a2).mp hb)
    simp at lt
    omega
  have sub : ∀ x ∈ (pairs owner (List.range (M + 1))).map (·.2), x ∈ List.range hashes.size := fun x hx => by
    obtain ⟨⟨j, i⟩, hm, rfl⟩ := List.mem_map.mp hx
    have := (O.at_ j i ((mem j i).mp hm)).1
    exact List.mem_range.mpr (by simpa using this)
  have sup : ∀ x ∈ List.range hashes.size, x ∈ (pairs owner (List.range (M + 1))).map (·.2) := fun x hx => by
    obtain ⟨j, ej⟩ := O.has x (by simpa using hx)
    exact List.mem_map.mpr ⟨(j, x), (mem j x).mpr ej, rfl⟩
  have l1 := len_of_sub List.nodup_range sup
  have l2 := len_of_sub nd sub
  rw [List.length_range] at l1 l2
  have perm := perm_of_sub nd sub (by rw [List.length_range]; exact l1)
  have ll : (pairs owner (List.range (M + 1))).length = hashes.size := by
    rw [List.length_map] at l1 l2
    omega
  refine ⟨((pairs owner (List.range (M + 1))).map (·.1)).toArray, ((pairs owner (List.range (M + 1))).map (·.2)).toArray, ?_, ?_, ?_, ?_, ?_⟩
  · unfold laid
    rw [e]
    rfl
  · refine ⟨hM, rfl, ?_, fun j hj => ?_, ?_⟩
    · show ((pairs owner (List.range (M + 1))).map (·.1)).toArray.size ≤ M
      rw [List.size_toArray, List.length_map, ll]
      exact h
    · have hj' : j ∈ (pairs owner (List.range (M + 1))).map (·.1) := hj
      obtain ⟨⟨k, i⟩, hm, rfl⟩ := List.mem_map.mp hj'
      have := List.mem_range.mp (mem_pairs.mp hm).1
      show k ≤ M
      omega
    · exact rise
  · rw [List.size_toArray, List.length_map, ll]
  · exact perm
  · intro idx j hh hj hh'
    have hj' : ((pairs owner (List.range (M + 1))).map (·.1))[idx]? = some j := by simpa using hj
    have hh2 : (((pairs owner (List.range (M + 1))).map (·.2)).map fun i => hashes.toList.getD i 0)[idx]? = some hh := hh'
    rw [List.getElem?_map] at hj'
    rw [List.getElem?_map, List.getElem?_map] at hh2
    cases o : (pairs owner (List.range (M + 1)))[idx]? with
    | none => rw [o] at hj'; cases hj'
    | some x =>
      obtain ⟨k, i⟩ := x
      rw [o] at hj' hh2
      have ek : k = j := Option.some.inj hj'
      have ei : hashes.toList.getD i 0 = hh := Option.some.inj hh2
      subst ek
      obtain ⟨_, m, w1, w2⟩ := O.at_ k i ((mem k i).mp (List.mem_of_getElem? o))
      rw [ei] at w1 w2
      refine ⟨m, w1, fun m' hm' => ?_⟩
      have z := w2 m' hm'
      have hb : bits hh % (M + 1) ≤ M := by
        have := Nat.mod_lt (bits hh) (show 0 < M + 1 by omega)
        omega
      have fine : Fine M (atBlock M (bits hh % (M + 1)) (bits hh)) := ⟨run_le _ _, hb, hb, run_in hb, rfl⟩
      have wl : wayM M (atBlock M (bits hh % (M + 1)) (bits hh)) m' ≤ M := (fine.iter m').j
      show wayM M (atBlock M (bits hh % (M + 1)) (bits hh)) m' ∈ (pairs owner (List.range (M + 1))).map (·.1)
      generalize wayM M (atBlock M (bits hh % (M + 1)) (bits hh)) m' = wv at z wl
      have hw : wv < owner.size := by rw [O.size]; omega
      cases q : owner[wv] with
      | none =>
        have : owner.getD wv (some 0) = none := by simp [Array.getD, hw, q]
        rw [this] at z
        cases z
      | some i' => exact List.mem_map.mpr ⟨(wv, i'), (mem wv i').mpr (by rw [Array.getElem?_eq_getElem hw, q]), rfl⟩
end ST
end
section
namespace ST
open PySem PySem.SetTable
section
variable {prog : Program} {w : World} {A : Around} {E : Value → Shared → Prop} {s : Shared}
abbrev IK (prog : Program) (w : World) (h : Heap) (ks : List Int) (a : Addr) : Prop := IsTupleKey (intKind prog w) h ks a
abbrev hsh (prog : Program) (w : World) (ks : List Int) : Int := tupleKeyHash (intKind prog w) ks
theorem ik_ints {ks : List Int} {vs : List Value} (h : ItemsAre (intKind prog w) ks vs) : ∀ v ∈ vs, ∃ n t, v = .int n t := by
  induction h with
  | nil => intro v hv; cases hv
  | cons h1 _ ih =>
    intro v hv
    rcases List.mem_cons.mp hv with rfl | hv
    · obtain ⟨t, e⟩ := Value.isInt_shape h1
      exact ⟨_, t, e⟩
    · exact ih v hv
theorem hash_by {ks : List Int} {a : Addr} {Q : Bool → Shared → Prop} (hk : IK prog w s.heap ks a) (h : Q true s) : wpAny (model prog w) A (hashByValue 8 (.ref a)) Q E s := by
  have hT := hk.typeIs
  obtain ⟨o, items, n, ho, _, hd, hi⟩ := hk
  have allI := ik_ints hi
  unfold hashByValue
  refine wpAny_bind (wpAny_specialOf hT F.slot_tuple_hash.lookup ?_)
  show wpAny _ _ (seqItems? (.ref a) >>= _) _ _ s
  refine wpAny_bind (wpAny_seqItems ho hd ?_)
  refine wpAny_bind ?_
  show wpAny _ _ (forIn items _ _) _ _ s
  rw [← Array.forIn_toList]
  refine wpAny_forIn_list _ (fun rest r s' => r.1 = none ∧ s' = s ∧ ∀ v ∈ rest, ∃ n t, v = Value.int n t) _ ?_ ?_ _ _ ⟨rfl, rfl, allI⟩
  · rintro v rest r s' ⟨hr, rfl, hall⟩
    obtain ⟨n, t, rfl⟩ := hall v List.mem_cons_self
    refine wpAny_bind (wpAny_pure ?_)
    simp only [Bool.not_true, Bool.false_eq_true, if_false]
    exact wpAny_pure ⟨rfl, rfl, fun u hu' => hall u (List.mem_cons_of_mem _ hu')⟩
  · rintro ⟨r1, r2⟩ s' ⟨hr, rfl, _⟩
    simp only at hr
    subst hr
    exact wpAny_pure h
theorem of_class {ks : List Int} {a : Addr} {Q : Bool → Shared → Prop} (hk : IK prog w s.heap ks a) (h : Q false s) : wpAny (model prog w) A (ofAClassStatement 8 (.ref a)) Q E s := by
  have hT := hk.typeIs
  obtain ⟨o, items, n, ho, _, hd, hi⟩ := hk
  have allI := ik_ints hi
  unfold ofAClassStatement
  refine wpAny_bind (wpAny_typeOf hT ?_)
  show wpAny _ _ ((if ("tuple" == "tuple") = true then pure true else isSubtype (.type "tuple") (.type "tuple")) >>= _) _ _ s
  rw [if_pos (by decide)]
  refine wpAny_bind (wpAny_pure ?_)
  simp only [Bool.not_true, Bool.false_eq_true, if_false]
  refine wpAny_bind (wpAny_seqItems ho hd ?_)
  show wpAny _ _ (forIn items _ _ >>= _) _ _ s
  refine wpAny_bind ?_
  rw [← Array.forIn_toList]
  refine wpAny_forIn_list _ (fun rest r s' => r.1 = none ∧ s' = s ∧ ∀ v ∈ rest, ∃ n t, v = Value.int n t) _ ?_ ?_ _ _ ⟨rfl, rfl, allI⟩
  · rintro v rest r s' ⟨hr, rfl, hall⟩
    obtain ⟨n, t, rfl⟩ := hall v List.mem_cons_self
    refine wpAny_bind (wpAny_pure ?_)
    simp only [Bool.false_eq_true, if_false]
    exact wpAny_pure ⟨rfl, rfl, fun u hu' => hall u (List.mem_cons_of_mem _ hu')⟩
  · rintro ⟨r1, r2⟩ s' ⟨hr, rfl, _⟩
    simp only at hr
    subst hr
    exact wpAny_pure h
theorem not_seen {ks : List Int} {a : Addr} {Q : Bool → Shared → Prop} (hk : IK prog w s.heap ks a) (stored : List Value) (hst : ∀ v ∈ stored, ∃ k b, v = .ref b ∧ IK prog w s.heap k b) (h : Q false s) : wpAny (model prog w) A (searchCouldBeSeen (.ref a) stored) Q E s := by
  unfold searchCouldBeSeen
  refine wpAny_bind ?_
  refine wpAny_forIn_list _ (fun rest r s' => r.1 = none ∧ s' = s ∧ ∀ v ∈ rest, ∃ k b, v = Value.ref b ∧ IK prog w s.heap k b) _ ?_ ?_ _ _ ⟨rfl, rfl, hst⟩
  · rintro v rest r s' ⟨hr, rfl, hall⟩
    have tl : ∀ u ∈ rest, ∃ k b, u = Value.ref b ∧ IK prog w s'.heap k b := fun u hu' => hall u (List.mem_cons_of_mem _ hu')
    obtain ⟨k, b, rfl, hb⟩ := hall v List.mem_cons_self
    dsimp only
    by_cases c : (a == b) = true
    · rw [if_pos (by rw [c]; rfl)]
      exact wpAny_pure ⟨rfl, rfl, tl⟩
    · rw [if_neg (by simp [c, carriedByValue])]
      refine wpAny_bind (wpAny_eqIsQuiet_tuple hk ?_)
      simp only [Bool.not_true, Bool.false_eq_true, if_false]
      refine wpAny_bind (wpAny_eqIsQuiet_tuple hb ?_)
      simp only [Bool.not_true, Bool.false_eq_true, if_false]
      refine wpAny_bind (of_class hk ?_)
      simp only [Bool.false_eq_true, if_false]
      refine wpAny_bind (of_class hb ?_)
      simp only [Bool.false_eq_true, if_false]
      exact wpAny_pure ⟨rfl, rfl, tl⟩
  · rintro ⟨r1, r2⟩ s' ⟨hr, rfl, _⟩
    simp only at hr
    subst hr
    exact wpAny_pure h
end
end ST
end
section
namespace ST
open PySem PySem.SetTable
theorem exists_min {P : Nat → Prop} : ∀ (m : Nat), P m → ∃ n, P n ∧ ∀ n', n' < n → ¬ P n' := by
  intro m
  induction m using Nat.strongRecOn with
  | ind m ih =>
    intro h
    by_cases c : ∃ n, n < m ∧ P n
    · obtain ⟨n, hn, hp⟩ := c
      exact ih n hn hp
    · exact ⟨m, h, fun n' hn' hp => c ⟨n', hn', hp⟩⟩
def ledOf (w : World) : Bool := !w.params.followText "set-order"
structure TS (prog : Program) (w : World) (h : Heap) (S : Addr) (es : Array (Int × Value)) (t : SetTable) (ks : List (List Int × Addr)) : Prop where
  obj : ∃ o ep, h.get? S = some o ∧ o.ExactSet ∧ o.data = .set es ep t
  tab : Tab t
  len : es.size = t.place.size
  loc : Loc t (es.toList.map (·.1))
  els : es.toList = ks.map fun x => (hsh prog w x.1, Value.ref x.2)
  nd : (ks.map (·.1)).Nodup
  few : t.place.size * 5 < t.mask * 3
  pl : t.plain = true
  ld : t.led = ledOf w
theorem fill_is {t : SetTable} (T : Tab t) : t.fill = t.place.size := by unfold fill; rw [T.none]; rfl
theorem fits_is {t : SetTable} (T : Tab t) {n : Nat} (e : n = t.place.size) : t.fits n = true := by
  unfold SetTable.fits
  rw [fill_is T, e]
  have := T.size
  simp [this]
section
variable {prog : Program} {w : World} {A : Around} {E : Value → Shared → Prop} {s : Shared} {S : Addr} {es : Array (Int × Value)} {t : SetTable} {ks : List (List Int × Addr)}
theorem TS.at_ {h : Heap} (X : TS prog w h S es t ks) {i : Nat} {j : Nat} (hi : t.place[i]? = some j) : ∃ x, ks[i]? = some x ∧ es[i]? = some (hsh prog w x.1, Value.ref x.2) := by
  have hl := (Array.getElem?_eq_some_iff.mp hi).1
  have hle : i < es.toList.length := by rw [Array.length_toList, X.len]; exact hl
  cases o : ks[i]? with
  | none =>
    have l2 := congrArg List.length X.els
    rw [List.length_map] at l2
    have := List.getElem?_eq_none_iff.mp o
    omega
  | some x =>
    refine ⟨x, rfl, ?_⟩
    rw [← Array.getElem?_toList, X.els, List.getElem?_map, o]
    rfl
theorem place_one {t : SetTable} (T : Tab t) {i i' j : Nat} (h : t.place[i]? = some j) (h' : t.place[i']? = some j) : i = i' := by
  obtain ⟨a, ea⟩ := Array.getElem?_eq_some_iff.mp h
  obtain ⟨b, eb⟩ := Array.getElem?_eq_some_iff.mp h'
  have r := List.pairwise_iff_getElem.mp T.rise
  rcases Nat.lt_trichotomy i i' with c | c | c
  · have := r i i' (by simpa using a) (by simpa using b) c
    simp at this
    omega
  · exact c
  · have := r i' i (by simpa using b) (by simpa using a) c
    simp at this
    omega
theorem search_is {k : List Int} {a : Addr} (X : TS prog w s.heap S es t ks) (hK : ∀ x ∈ ks, IK prog w s.heap x.1 x.2) (hk : IK prog w s.heap k a) (hu : A.units < cLine) {N : Nat}
    (hN : way t (t.probeStart (hsh prog w k)) N ∉ t.place.toList) (hB : ∀ m, m < N → way t (t.probeStart (hsh prog w k)) m ∈ t.place.toList) {Q : SetFound → Shared → Prop}
    (h1 : k ∈ ks.map (·.1) → Q (.there none) s) (h2 : k ∉ ks.map (·.1) → Q (.free (way t (t.probeStart (hsh prog w k)) N) false) s) :
    ∀ (fuel c : Nat) (stand : Option Probe), c ≤ N → N - c < fuel → stand.getD (t.probeStart (hsh prog w k)) = ST.iter (step t.mask) c (t.probeStart (hsh prog w k)) →
      (∀ m, m < c → ∀ (i : Nat) (x : List Int × Addr), t.place[i]? = some (way t (t.probeStart (hsh prog w k)) m) → ks[i]? = some x → x.1 ≠ k) →
      wpAny (model prog w) A (setSearchFrom S (.ref a) (hsh prog w k) true fuel stand) Q E s := by
  obtain ⟨o, ep, ho, hex, hd⟩ := X.obj
  have hf := fits_is X.tab X.len
  intro fuel
  induction fuel with
  | zero => intro c stand _ h; omega
  | succ fuel ih =>
    intro c stand hc hfu hst hV
    unfold setSearchFrom
    refine wpAny_bind (wpAny_setState_of ho hd hf ?_)
    dsimp only
    have hg : t.gaveWay = false := by
      unfold SetTable.gaveWay
      rcases X.tab.mask with e | e | e <;> rw [e] <;> decide
    rw [hg]
    simp only [Bool.false_eq_true, if_false]
    have fine : Fine t.mask (ST.iter (step t.mask) c (t.probeStart (hsh prog w k))) := (Fine.start t _).iter c
    have hb : (ST.iter (step t.mask) c (t.probeStart (hsh prog w k))).perturb < 2 ^ 64 := Nat.lt_of_le_of_lt (perturb_le c _) (bits_lt _)
    obtain ⟨m, hm, hcase⟩ := probe_is X.tab (hashAt := fun i => (es[i]?.map (·.1)).getD 0) (h := hsh prog w k) fine hb
    have wy : ∀ m, way t (ST.iter (step t.mask) c (t.probeStart (hsh prog w k))) m = way t (t.probeStart (hsh prog w k)) (c + m) := fun m => by
      unfold way
      rw [iter_add]
    have inpl : ∀ {i j : Nat}, t.place[i]? = some j → j ∈ t.place.toList := fun {i j} e => by
      rw [List.mem_iff_getElem?]
      exact ⟨i, by rw [Array.getElem?_toList]; exact e⟩
    have hV' : ∀ m', m' < c + m → ∀ (i : Nat) (x : List Int × Addr), t.place[i]? = some (way t (t.probeStart (hsh prog w k)) m') → ks[i]? = some x → x.1 ≠ k := fun m' hm' i x hi hx ek => by
      by_cases z : m' < c
      · exact hV m' z i x hi hx ek
      · obtain ⟨i', hi', hne⟩ := hm (m' - c) (by omega)
        rw [wy, show c + (m' - c) = m' by omega] at hi'
        have := place_one X.tab hi hi'
        subst this
        obtain ⟨y, hy, ey⟩ := X.at_ hi
        rw [hx] at hy
        cases hy
        refine hne ?_
        show ((es[i]?.map (·.1)).getD 0) = _
        rw [ey, ← ek]
        rfl
    have ltN : way t (t.probeStart (hsh prog w k)) (c + m) ∈ t.place.toList → c + m < N := fun z => by
      refine Classical.byContradiction fun zz => ?_
      by_cases q : c + m = N
      · rw [q] at z; exact hN z
      · obtain ⟨i', hi', _⟩ := hm (N - c) (by omega)
        rw [wy, show c + (N - c) = N by omega] at hi'
        exact hN (inpl hi')
    split
    · rename_i met heq
      rw [hst] at heq
      rcases hcase with ⟨hne, e⟩ | ⟨i, hi, hsl, hhash, e⟩
      · obtain rfl := Option.some.inj (heq.symm.trans e)
        dsimp only
        have hcN : c + m = N := by
          rw [wy] at hne
          refine Classical.byContradiction fun q => ?_
          by_cases z : c + m < N
          · exact hne (hB _ z)
          · obtain ⟨i', hi', _⟩ := hm (N - c) (by omega)
            rw [wy, show c + (N - c) = N by omega] at hi'
            exact hN (inpl hi')
        rw [wy, hcN]
        refine wpAny_pure (h2 fun hmem => ?_)
        obtain ⟨x, hx, ex⟩ := List.mem_map.mp hmem
        obtain ⟨i, hi⟩ := List.mem_iff_getElem?.mp hx
        have hil : i < t.place.size := by
          have l1 := (List.getElem?_eq_some_iff.mp hi).1
          have l2 := congrArg List.length X.els
          rw [List.length_map, Array.length_toList, X.len] at l2
          omega
        obtain ⟨m1, w1, w2⟩ := X.loc i t.place[i] (hsh prog w x.1) (Array.getElem?_eq_getElem hil) (by rw [X.els, List.map_map, List.getElem?_map, hi]; rfl)
        rw [ex] at w1 w2
        have hm1 : m1 < N := by
          refine Classical.byContradiction fun q => ?_
          by_cases z : m1 = N
          · subst z
            rw [w1] at hN
            exact hN (inpl (Array.getElem?_eq_getElem hil))
          · exact hN (w2 N (by omega))
        exact hV' m1 (by omega) i x (by rw [w1]; exact Array.getElem?_eq_getElem hil) hi ex
      · obtain rfl := Option.some.inj (heq.symm.trans e)
        dsimp only
        rw [wy] at hi hsl ⊢
        have hlt := ltN (inpl hi)
        obtain ⟨x, hx, hes⟩ := X.at_ hi
        have hxb := hK x (List.mem_of_getElem? hx)
        have tail : wpAny (model prog w) A (do
            let some (_, y) := es[i]? | unsupported "internal:set-entry"
            let equal ← holding [y] (eqBool y (.ref a))
            let (es', _, t') ← setState S
            if true && equal then return .there none
            let some same := t'.sameMemory t.moves t.mask | unsupported "set.changed-during-lookup:is-the-new-block-at-the-old-address"
            let still ← match (if same then t'.slot (way t (t.probeStart (hsh prog w k)) (c + m)) else .empty) with
              | .live i' => match es'[i']? with
                | some (_, y') => do pure (if ← isSame y' y then some i' else none)
                | none => pure none
              | _ => pure none
            match still with
            | none => rule "set.search.anew"; setSearchFrom S (.ref a) (hsh prog w k) true fuel none
            | some i' => if equal then return .there (some i') else setSearchFrom S (.ref a) (hsh prog w k) true fuel (some (ST.iter (step t.mask) (m + 1) (ST.iter (step t.mask) c (t.probeStart (hsh prog w k)))))) Q E s := by
          rw [hes]
          dsimp only
          refine wpAny_bind (wpAny_holding (wpAny_eqBool_tuple hu hxb hk ?_))
          refine wpAny_bind (wpAny_setState_of ho hd hf ?_)
          dsimp only
          by_cases ek : x.1 = k
          · rw [decide_eq_true ek]
            simp only [Bool.and_self, if_true]
            exact wpAny_pure (h1 (List.mem_map.mpr ⟨x, List.mem_of_getElem? hx, ek⟩))
          · rw [decide_eq_false ek]
            simp only [Bool.and_false, Bool.false_eq_true, if_false]
            have sm : t.sameMemory t.moves t.mask = some true := by unfold sameMemory; simp
            rw [sm]
            dsimp only
            simp only [if_true, hsl]
            rw [hes]
            dsimp only
            refine wpAny_bind (wpAny_isSame_ref_self ?_)
            simp only [if_true]
            refine wpAny_bind (wpAny_pure ?_)
            dsimp only
            refine ih (c + m + 1) _ (by omega) (by omega) ?_ ?_
            · show ST.iter (step t.mask) (m + 1) (ST.iter (step t.mask) c (t.probeStart (hsh prog w k))) = _
              rw [← iter_add]
              rfl
            · intro m' hm' i' x' hi' hx' ek'
              by_cases z : m' < c + m
              · exact hV' m' z i' x' hi' hx' ek'
              · have : m' = c + m := by omega
                subst this
                have := place_one X.tab hi hi'
                subst this
                rw [hx] at hx'
                cases hx'
                exact ek ek'
        cases hled : t.led with
        | true =>
          simp only [Bool.not_true, Bool.false_eq_true, if_false]
          exact tail
        | false =>
          simp only [Bool.not_false, if_true]
          refine wpAny_bind (not_seen hk _ ?_ ?_)
          · intro v hv
            obtain ⟨e', he', rfl⟩ := List.mem_map.mp hv
            have he2 : e' ∈ es.toList := by
              have : e' ∈ es ∧ e'.fst = hsh prog w k := by simpa using he'
              simpa using this.1
            rw [X.els] at he2
            obtain ⟨y, hy, rfl⟩ := List.mem_map.mp he2
            exact ⟨y.1, y.2, rfl, hK y hy⟩
          · simp only [Bool.false_eq_true, if_false]
            exact tail
    · rename_i hno
      rcases hcase with ⟨_, e⟩ | ⟨i, _, _, _, e⟩
      · exact (hno _ (by rw [hst]; exact e)).elim
      · exact (hno _ (by rw [hst]; exact e)).elim
end
end ST
end
section
namespace ST
open PySem PySem.SetTable
theorem pick_map {α : Type} {l : List α} (d : α) : ∀ {order : List Nat}, (∀ i ∈ order, i < l.length) → order.filterMap (fun i => l[i]?) = order.map fun i => l.getD i d
  | [], _ => rfl
  | i :: r, h => by
    have hi := h i List.mem_cons_self
    rw [List.filterMap_cons, List.getElem?_eq_getElem hi, List.map_cons, pick_map d fun j hj => h j (List.mem_cons_of_mem _ hj)]
    simp [List.getD_eq_getElem?_getD, hi]
theorem range_pick {α : Type} (l : List α) : (List.range l.length).filterMap (fun i => l[i]?) = l := by
  cases l with
  | nil => rfl
  | cons d r =>
    rw [pick_map d fun i hi => List.mem_range.mp hi]
    apply List.ext_getElem?
    intro i
    by_cases hi : i < (d :: r).length
    · rw [List.getElem?_map, List.getElem?_range hi, List.getElem?_eq_getElem hi]
      show some ((d :: r).getD i d) = _
      rw [List.getD_eq_getElem?_getD, List.getElem?_eq_getElem hi]
      rfl
    · rw [List.getElem?_eq_none (by simpa using hi), List.getElem?_eq_none (by omega)]
theorem pick_perm {α : Type} {l : List α} {order : List Nat} (h : order.Perm (List.range l.length)) : (order.filterMap fun i => l[i]?).Perm l := by
  have := h.filterMap fun i => l[i]?
  rw [range_pick] at this
  exact this
section
variable {prog : Program} {w : World} {A : Around} {E : Value → Shared → Prop} {s : Shared} {S : Addr} {es : Array (Int × Value)} {t : SetTable} {ks : List (List Int × Addr)}
theorem stored {h : Heap} {o : Obj} {ep : Nat} (ho : h.get? S = some o) (hex : o.ExactSet) (hd : o.data = .set es ep t) (es' : Array (Int × Value)) (t' : SetTable) :
    ∃ o' ep', (h.update S (Obj.putSet es' t')).get? S = some o' ∧ o'.ExactSet ∧ o'.data = .set es' ep' t' := by
  have hg : (h.update S (Obj.putSet es' t')).get? S = some { o with data := .set es' (ep + 1) t' } := by
    have := Heap.get?_update_self (Obj.putSet es' t') ho (by rw [putSet_of es' t' hd]; rfl)
    rw [putSet_of es' t' hd] at this; exact this
  exact ⟨_, _, hg, hex, rfl⟩
theorem relay_is {h : Heap} (hs : s.heap = h) {o : Obj} {ep : Nat} (ho : h.get? S = some o) (hex : o.ExactSet) (hd : o.data = .set es ep t) (T : Tab t) (hl : es.size = t.place.size) (hel : es.toList = ks.map fun x => (hsh prog w x.1, Value.ref x.2))
    (nd : (ks.map (·.1)).Nodup) (hfull : t.mask * 3 ≤ t.place.size * 5) (hfew : (t.place.size - 1) * 5 < t.mask * 3) (h61 : ks.length ≤ 61) (hpl : t.plain = true) (hld : t.led = ledOf w) {Q : Unit → Shared → Prop}
    (q : ∀ h' es' t' ks', Heap.SameBut S h h' → TS prog w h' S es' t' ks' → ks'.Perm ks → Q () { s with heap := h' }) :
    wpAny (model prog w) A (setRelay S (grown es.size)) Q E s := by
  subst hs
  have hks : ks.length = es.size := by
    have := congrArg List.length hel
    rw [List.length_map, Array.length_toList] at this
    exact this.symm
  have key : ∃ M, sizeAbove (grown es.size) = M + 1 ∧ Mask M ∧ es.size ≤ M ∧ es.size * 5 < M * 3 := by
    rcases T.mask with e | e | e
    · have : es.size = 5 := by rw [e] at hfull hfew; omega
      rw [this]
      exact ⟨31, by decide, .inr (.inl rfl), by decide, by decide⟩
    · have : es.size = 19 := by rw [e] at hfull hfew; omega
      rw [this]
      exact ⟨127, by decide, .inr (.inr rfl), by decide, by decide⟩
    · rw [e] at hfull
      omega
  obtain ⟨M, eM, hM, hle, hfew'⟩ := key
  unfold setRelay
  refine wpAny_bind (wpAny_setState_of ho hd (fits_is T hl) ?_)
  dsimp only
  have hz : ¬ (sizeAbove (grown es.size) > sizeLine) := by
    rw [eM, sizeLine_eq]
    rcases hM with e | e | e <;> omega
  rw [if_neg hz]
  obtain ⟨place, order, el, T2, hps, hpo, L2⟩ := laid_is hM (hashes := es.map (·.1)) (by simpa using hle) t.finger (t.movedTo M) t.led t.plain
  have erl : t.relaid (es.map (·.1)) (grown es.size) = some ({ mask := M, place := place, dummies := #[], finger := t.finger, led := t.led, moves := t.movedTo M, plain := t.plain }, order) := by
    unfold relaid
    rw [eM]
    exact el
  refine wpAny_bind ?_
  show wpAny _ _ (do
    let some (t, order) := t.relaid (es.map (·.1)) (grown es.size) | unsupported "internal:set-table-without-room"
    let es' := order.filterMap (es[·]?)
    if es'.size != es.size then unsupported "internal:set-table-lost-an-element"
    pure (es', t)) _ _ _
  rw [erl]
  dsimp only
  have hsz : (es.map (·.1)).size = es.toList.length := by simp
  rw [hsz] at hpo
  have ef : (order.filterMap (es[·]?)).toList = order.toList.filterMap fun i => es.toList[i]? := by
    rw [Array.toList_filterMap]
    congr 1
    funext i
    rw [Array.getElem?_toList]
  have hp := pick_perm hpo
  have hes : (order.filterMap (es[·]?)).size = es.size := by
    rw [← Array.length_toList, ef, hp.length_eq, Array.length_toList]
  rw [if_neg (by rw [hes]; simp)]
  refine wpAny_pure ?_
  dsimp only
  refine wpAny_storeSet_of ho hd ?_ (by rw [hes, sizeLine_eq]; rcases hM with e | e | e <;> omega)
  obtain ⟨o', ep', ho', hex', hd'⟩ := stored ho hex hd (order.filterMap (es[·]?)) { mask := M, place := place, dummies := #[], finger := t.finger, led := t.led, moves := t.movedTo M, plain := t.plain }
  have hpk : (order.toList.filterMap fun i => ks[i]?).Perm ks := pick_perm (by rw [Array.length_toList] at hpo; rw [hks]; exact hpo)
  refine q _ _ _ (order.toList.filterMap fun i => ks[i]?) (Heap.SameBut.update ..) ⟨⟨o', ep', ho', hex', hd'⟩, T2, ?_, ?_, ?_, ?_, ?_, hpl, hld⟩ hpk
  · rw [hes, hps]; simp
  · have e1 : (order.filterMap (es[·]?)).toList.map (·.1) = order.toList.map fun i => (es.map (·.1)).toList.getD i 0 := by
      rw [ef, pick_map (0, Value.none) (fun i hi => by have := List.mem_range.mp (hpo.mem_iff.mp hi); exact this), List.map_map]
      refine List.map_congr_left fun i hi => ?_
      have hi' : i < es.toList.length := List.mem_range.mp (hpo.mem_iff.mp hi)
      have hi2 : i < es.size := by simpa using hi'
      show (es.toList.getD i (0, Value.none)).1 = _
      simp [List.getD_eq_getElem?_getD, hi2]
    rw [e1]
    exact L2
  · rw [ef, hel, List.map_filterMap]
    congr 1
    funext i
    rw [List.getElem?_map]
  · exact (List.Perm.nodup_iff (hpk.map (·.1))).mpr nd
  · show place.size * 5 < M * 3
    rw [hps]
    simpa using hfew'
end
end ST
end
section
namespace ST
open PySem PySem.SetTable
section
variable {prog : Program} {w : World} {A : Around} {E : Value → Shared → Prop} {s : Shared} {S : Addr} {es : Array (Int × Value)} {t : SetTable} {ks : List (List Int × Addr)}
def Added (ks : List (List Int × Addr)) (k : List Int) (a : Addr) (ks' : List (List Int × Addr)) : Prop := (k ∈ ks.map (·.1) ∧ ks' = ks) ∨ (k ∉ ks.map (·.1) ∧ ks'.Perm ((k, a) :: ks))
theorem add_hashed {k : List Int} {a : Addr} (X : TS prog w s.heap S es t ks) (hK : ∀ x ∈ ks, IK prog w s.heap x.1 x.2) (hk : IK prog w s.heap k a) (hu : A.units < cLine) (h60 : ks.length ≤ 60) {Q : Bool → Shared → Prop}
    (q : ∀ b h' es' t' ks', Heap.SameBut S s.heap h' → TS prog w h' S es' t' ks' → Added ks k a ks' → Q b { s with heap := h' }) :
    wpAny (model prog w) A (setAddHashed S (.ref a) (hsh prog w k)) Q E s := by
  obtain ⟨o, ep, ho, hex, hd⟩ := X.obj
  have hf := fits_is X.tab X.len
  have fine : Fine t.mask (t.probeStart (hsh prog w k)) := Fine.start t _
  have hks : ks.length = t.place.size := by
    have := congrArg List.length X.els
    rw [List.length_map, Array.length_toList, X.len] at this
    exact this.symm
  obtain ⟨m0, hm0, nm0⟩ := walk_free X.tab.mask X.tab.size fine (bits_lt (hsh prog w k))
  obtain ⟨N, hN, hNmin⟩ := exists_min (P := fun m => way t (t.probeStart (hsh prog w k)) m ∉ t.place.toList) m0 nm0
  have hNle : N ≤ m0 := Classical.byContradiction fun c => hNmin m0 (by omega) nm0
  have hB : ∀ m, m < N → way t (t.probeStart (hsh prog w k)) m ∈ t.place.toList := fun m hm => Classical.byContradiction fun c => hNmin m hm c
  have hM : t.mask ≤ 127 := by rcases X.tab.mask with e | e | e <;> omega
  unfold setAddHashed setAddHashedIn
  refine wpAny_holding (wpAny_bind (wpAny_setState_of ho hd hf ?_))
  dsimp only
  have hbs : byScan (.ref a) es = false := rfl
  rw [hbs]
  simp only [Bool.false_eq_true, if_false]
  unfold setSearch
  refine wpAny_bind (search_is X hK hk hu hN hB ?_ ?_ 100000 0 none (Nat.zero_le _) (by unfold turns at hm0; omega) rfl (fun m hm => absurd hm (by omega)))
  · intro hmem
    exact wpAny_pure (by
      have := q false s.heap es t ks (Heap.SameBut.refl S s.heap) X (.inl ⟨hmem, rfl⟩)
      exact this)
  · intro hnm
    dsimp only
    refine wpAny_bind (wpAny_setState_of ho hd hf ?_)
    dsimp only
    generalize hj : way t (t.probeStart (hsh prog w k)) N = j
    have P : Put t j := by
      refine ⟨?_, ?_, ?_⟩
      · rw [← hj]; exact (fine.iter N).j
      · rw [← hj]; exact hN
      · have := X.few
        rcases X.tab.mask with e | e | e <;> rw [e] at this ⊢ <;> omega
    have T1 := put_tab X.tab P
    have L1 := put_loc X.tab (by rw [List.length_map, Array.length_toList, X.len]) X.loc hB
    rw [hj] at L1
    obtain ⟨e1, e2⟩ := put_place X.tab (j := j)
    have b3 := (below_all (j := j) X.tab.rise).2.2
    have pm : (t.put j).1.mask = t.mask := by rw [e1]
    have pp : (t.put j).1.plain = true := by rw [e1]; exact X.pl
    have pd : (t.put j).1.led = ledOf w := by rw [e1]; exact X.ld
    have ps : (t.put j).1.place.size = t.place.size + 1 := by
      rw [e1]
      have := congrArg List.length (insertAt_toList t.place (below t.place j) j)
      simp at this
      show (insertAt t.place (below t.place j) j).size = _
      omega
    rw [e2] at L1
    generalize hp : below t.place j = p at *
    generalize ht1 : (t.put j).1 = t1 at *
    have hes1 : (insertAt es p (hsh prog w k, Value.ref a)).toList = (ks.take p ++ [(k, a)] ++ ks.drop p).map fun x => (hsh prog w x.1, Value.ref x.2) := by
      rw [insertAt_toList, X.els, List.map_append, List.map_append, List.map_take, List.map_drop]
      rfl
    have hsz1 : (insertAt es p (hsh prog w k, Value.ref a)).size = es.size + 1 := by
      have := congrArg List.length (insertAt_toList es p (hsh prog w k, Value.ref a))
      simp at this
      have := X.len
      omega
    have hperm : (ks.take p ++ [(k, a)] ++ ks.drop p).Perm ((k, a) :: ks) := by
      have := List.perm_middle (a := (k, a)) (l₁ := ks.take p) (l₂ := ks.drop p)
      rw [List.take_append_drop] at this
      rw [List.append_assoc]
      exact this
    have nd1 : ((ks.take p ++ [(k, a)] ++ ks.drop p).map (·.1)).Nodup := (List.Perm.nodup_iff (hperm.map (·.1))).mpr (by rw [List.map_cons]; exact List.nodup_cons.mpr ⟨hnm, X.nd⟩)
    have hl1 : (insertAt es p (hsh prog w k, Value.ref a)).toList.map (·.1) = (es.toList.map (·.1)).take p ++ [hsh prog w k] ++ (es.toList.map (·.1)).drop p := by
      rw [insertAt_toList, List.map_append, List.map_append, List.map_take, List.map_drop]
      rfl
    have e3 : (t.put j).2 = p := e2
    have go : ∀ (t2 : SetTable), Tab t2 → t2.mask = t1.mask → t2.place = t1.place → t2.plain = true → t2.led = ledOf w → wpAny (model prog w) A (do
        storeSet S (insertAt es p (hsh prog w k, Value.ref a)) t2
        if (!false && t2.tooFull) = true then do
          setRelay S (grown (es.size + 1))
          pure true
        else pure true) Q E s := by
      intro t2 T2 m2 p2 q2 r2
      refine wpAny_bind (wpAny_storeSet_of ho hd ?_ (by rw [hsz1, sizeLine_eq]; have := X.len; omega))
      obtain ⟨o', ep', ho', hex', hd'⟩ := stored ho hex hd (insertAt es p (hsh prog w k, Value.ref a)) t2
      have L2 : Loc t2 ((insertAt es p (hsh prog w k, Value.ref a)).toList.map (·.1)) := by
        rw [hl1]
        intro idx jj h' a1 a2
        rw [p2] at a1
        obtain ⟨m, w1, w2⟩ := L1 idx jj h' a1 a2
        refine ⟨m, ?_, fun m' hm' => ?_⟩
        · unfold way probeStart at w1 ⊢
          rw [m2]
          exact w1
        · have := w2 m' hm'
          unfold way probeStart at this ⊢
          rw [m2, p2]
          exact this
      have tf : t2.tooFull = decide (t.mask * 3 ≤ (t.place.size + 1) * 5) := by
        unfold tooFull
        rw [fill_is T2, p2, m2, ps, pm]
      rw [tf]
      by_cases c : t.mask * 3 ≤ (t.place.size + 1) * 5
      · rw [decide_eq_true c]
        simp only [Bool.not_false, Bool.and_self, if_true]
        rw [← hsz1]
        refine wpAny_bind (relay_is (ks := ks.take p ++ [(k, a)] ++ ks.drop p) rfl ho' hex' hd' T2 (by rw [hsz1, p2, ps, X.len]) hes1 nd1 ?_ ?_ ?_ q2 r2 ?_)
        · rw [p2, m2, ps, pm]; exact c
        · rw [p2, m2, ps, pm]
          have := X.few
          omega
        · rw [hperm.length_eq]
          simp
          omega
        · intro h' es' t' ks' sb X' pk
          exact wpAny_pure (q true h' es' t' ks' ((Heap.SameBut.update ..).trans sb) X' (.inr ⟨hnm, pk.trans hperm⟩))
      · rw [decide_eq_false c]
        simp only [Bool.and_false, Bool.false_eq_true, if_false]
        exact wpAny_pure (q true _ _ t2 _ (Heap.SameBut.update ..) ⟨⟨o', ep', ho', hex', hd'⟩, T2, by rw [hsz1, p2, ps, X.len], L2, hes1, nd1, by rw [p2, m2, ps, pm]; omega, q2, r2⟩ (.inr ⟨hnm, hperm⟩))
    rw [e3]
    simp only [pp, if_true]
    refine wpAny_bind (hash_by hk ?_)
    simp only [if_true]
    exact go t1 T1 rfl rfl pp pd
theorem add_is {k : List Int} {a : Addr} (X : TS prog w s.heap S es t ks) (hK : ∀ x ∈ ks, IK prog w s.heap x.1 x.2) (hk : IK prog w s.heap k a) (hu : A.units < cLine) (h60 : ks.length ≤ 60) {Q : Bool → Shared → Prop}
    (q : ∀ b h' es' t' ks', Heap.SameBut S s.heap h' → TS prog w h' S es' t' ks' → Added ks k a ks' → Q b { s with heap := h', toks := s.toks + (k.length + 1) }) :
    wpAny (model prog w) A (setAdd S (.ref a)) Q E s := by
  unfold setAdd
  refine wpAny_holding ?_
  refine wpAny_bind (wpAny_pyHash_tuple hu hk ?_)
  exact add_hashed (s := { s with toks := s.toks + (k.length + 1) }) X hK hk hu h60 fun b h' es' t' ks' sb X' ad => q b h' es' t' ks' sb X' ad
end
end ST
end
section
namespace ST
open PySem PySem.SetTable
structure Of (vals : Nat → List Int × Addr) (i : Nat) (ks : List (List Int × Addr)) : Prop where
  sub : ∀ x ∈ ks, ∃ j, j < i ∧ x = vals j
  sup : ∀ j, j < i → (vals j).1 ∈ ks.map (·.1)
  len : ks.length ≤ i
theorem Of.next {vals : Nat → List Int × Addr} {i : Nat} {ks ks' : List (List Int × Addr)} (h : Of vals i ks) (a : Added ks (vals i).1 (vals i).2 ks') : Of vals (i + 1) ks' := by
  rcases a with ⟨hm, rfl⟩ | ⟨hm, p⟩
  · refine ⟨fun x hx => ?_, fun j hj => ?_, by have := h.len; omega⟩
    · obtain ⟨j, hj, e⟩ := h.sub x hx
      exact ⟨j, by omega, e⟩
    · by_cases c : j = i
      · rw [c]; exact hm
      · exact h.sup j (by omega)
  · refine ⟨fun x hx => ?_, fun j hj => ?_, by rw [p.length_eq]; have := h.len; simp; omega⟩
    · rcases List.mem_cons.mp (p.mem_iff.mp hx) with e | hx
      · exact ⟨i, by omega, e⟩
      · obtain ⟨j, hj, e⟩ := h.sub x hx
        exact ⟨j, by omega, e⟩
    · have pm := (p.map (·.1)).mem_iff (a := (vals j).1)
      by_cases c : j = i
      · subst c
        exact pm.mpr (by rw [List.map_cons]; exact List.mem_cons_self)
      · exact pm.mpr (by rw [List.map_cons]; exact List.mem_cons_of_mem _ (h.sup j (by omega)))
section
variable {prog : Program} {w : World} {A : Around} {s : Shared}
theorem ik_kept {h h' : Heap} {k : List Int} {a : Addr} (hk : IK prog w h k a) (e : ∀ o, h.get? a = some o → h'.get? a = some o) : IK prog w h' k a := by
  obtain ⟨o, items, n, ho, r⟩ := hk
  exact ⟨o, items, n, e o ho, r⟩
theorem ts_kept {h h' : Heap} {S : Addr} {es : Array (Int × Value)} {t : SetTable} {ks : List (List Int × Addr)} (X : TS prog w h S es t ks) (e : ∀ o, h.get? S = some o → h'.get? S = some o) : TS prog w h' S es t ks := by
  obtain ⟨o, ep, ho, r⟩ := X.obj
  exact ⟨⟨o, ep, e o ho, r⟩, X.tab, X.len, X.loc, X.els, X.nd, X.few, X.pl, X.ld⟩
end
theorem fresh_ts {prog : Program} {w : World} {h : Heap} {S : Addr} {led : Bool} (hw : led = ledOf w) (hg : h.get? S = some { cls := .type "set", dict := none, data := .set #[] 0 (.fresh 0 0 led) }) : TS prog w h S #[] (.fresh 0 0 led) [] := by
  refine ⟨⟨_, 0, hg, ⟨rfl, rfl, rfl⟩, rfl⟩, ⟨.inl rfl, rfl, Nat.zero_le _, fun j hj => (by cases hj), .nil⟩, rfl, fun idx j h' a => ?_, rfl, .nil, by show 0 * 5 < 7 * 3; decide, rfl, hw⟩
  cases a
section
variable {prog : Program} {w : World} {A : Around} {E : Value → Shared → Prop} {s : Shared}
theorem code_new (a : Value) {Q₁ : Value → Shared → Prop} (h : Q₁ (.ref s.heap.objs.size) { s with heap := s.heap.push { cls := .type "set", dict := none, data := .set #[] 0 (.fresh 0 0 (ledOf w)) } }) :
    codeAny (model prog w) A (.call (.builtin "set.__new__") ⟨[.type "set", a], []⟩) (wants Q₁ E) s := by
  refine codeAny_of_tree ?_
  show wpAny _ A.in1 (checkBuiltinCall "set.__new__" ⟨[.type "set", a], []⟩ >>= fun _ => again (.builtin "set.__new__" ⟨[.type "set", a], []⟩)) _ _ s
  refine wpAny_bind (wpAny_of_eq (F.newCall_set_1 a) (wpAny_pure ⟨plainId_quiet F.plain_set_new _, codeAny_builtin F.entry_set_new ?_⟩))
  rw [Around.under_plainId F.plain_set_new _]
  unfold Builtin.«set.__new__» Builtin.Frozenset.newClass
  have sself := sub_set_self
  obtain ⟨hp, g, d, tk, os⟩ := s
  dsimp only
  wp_walk
  refine wpAny_askSetting (wpAny_pure ?_)
  dsimp only
  simp only [newObj]
  refine wpAny_bind (wpAny_alloc (wpAny_pure ?_))
  exact wpAny_pure h
end
end ST
end
section
namespace ST
open PySem PySem.SetTable
theorem perm_out {α : Type} {l : List α} : ∀ {k : Nat} {y : α}, l[k]? = some y → (y :: l.eraseIdx k).Perm l := by
  induction l with
  | nil => intro k y h; simp at h
  | cons a t ih =>
    intro k y h
    cases k with
    | zero =>
      obtain rfl : a = y := by simpa using h
      exact List.Perm.refl _
    | succ k =>
      have h' : t[k]? = some y := by simpa using h
      exact (List.Perm.swap a y _).trans (List.Perm.cons a (ih h'))
theorem pick_go {α : Type} (next : Nat → Nat) : ∀ (fuel k : Nat) (left : List α) (out : Array α), left.length ≤ fuel → (pickOrder.go next fuel k left out).toList.Perm (out.toList ++ left)
  | 0, k, left, out, h => by
    have : left = [] := List.length_eq_zero_iff.mp (by omega)
    subst this
    rw [List.append_nil]
    exact List.Perm.refl _
  | fuel + 1, k, left, out, h => by
    unfold pickOrder.go
    cases e : left[next k % left.length]? with
    | none =>
      have hl : left = [] := by
        cases left with
        | nil => rfl
        | cons a t =>
          have := Nat.mod_lt (next k) (show 0 < (a :: t).length by simp)
          rw [List.getElem?_eq_getElem this] at e
          cases e
      subst hl
      rw [List.append_nil]
    | some x =>
      have hi := (List.getElem?_eq_some_iff.mp e).1
      have hl : (left.eraseIdx (next k % left.length)).length = left.length - 1 := List.length_eraseIdx_of_lt hi
      have ih := pick_go next fuel (k + 1) (left.eraseIdx (next k % left.length)) (out.push x) (by omega)
      refine ih.trans ?_
      rw [Array.toList_push, List.append_assoc]
      exact List.Perm.append_left _ (perm_out e)
theorem pick_is {α : Type} (next : Nat → Nat) (xs : Array α) : (pickOrder next xs).toList.Perm xs.toList := by
  have := pick_go next xs.size 0 xs.toList #[] (by simp)
  unfold pickOrder
  simpa using this
namespace F
theorem entry_set_iter : entryFor table "set.__iter__" = some Builtin.«frozenset.__iter__» :=
  entryFor_alias (id' := "frozenset.__iter__") (by kernel_rfl) (by first | rfl | decide +kernel) (by decide +kernel) (by kernel_rfl)
theorem owner_si : Manifest.owners.lookup (String.ofList ['r', 'o', 't', 'a', 'r', 'e', 't', 'i', '_', 't', 'e', 's'].reverse) = some Manifest.sig_set_iterator := by kernel_rfl
theorem slot_si_next : Slot "set_iterator" "__next__" "set_iterator.__next__" := .of (owner := "set_iterator") (n := "__next__") (by rw [typeLookup_type, builtinLookup_eq_fast]; kernel_rfl) (by decide +kernel) (by decide +kernel) (by decide +kernel) (by first | exact .inl (by decide +kernel) | exact .inr (by decide +kernel)) (by rw [isSubtype_type]; kernel_rfl)
theorem entry_si_next : entryFor table "set_iterator.__next__" = some Builtin.«set_iterator.__next__» := entryFor_of_tree (by kernel_rfl)
theorem args_si_next (a : Value) : argsOk "set_iterator.__next__" ⟨[a], []⟩ := by
  unfold argsOk; rw [signature?_of (id := "set_iterator.__next__") (n := ['_', '_', 't', 'x', 'e', 'n', '_', '_']) (o := ['r', 'o', 't', 'a', 'r', 'e', 't', 'i', '_', 't', 'e', 's']) (by kernel_rfl) owner_si]; kernel_rfl
theorem slot_si_iter : Slot "set_iterator" "__iter__" "set_iterator.__iter__" := .of (owner := "set_iterator") (n := "__iter__") (by rw [typeLookup_type, builtinLookup_eq_fast]; kernel_rfl) (by decide +kernel) (by decide +kernel) (by decide +kernel) (by first | exact .inl (by decide +kernel) | exact .inr (by decide +kernel)) (by rw [isSubtype_type]; kernel_rfl)
theorem args_si_iter (a : Value) : argsOk "set_iterator.__iter__" ⟨[a], []⟩ := by
  unfold argsOk; rw [signature?_of (id := "set_iterator.__iter__") (n := ['_', '_', 'r', 'e', 't', 'i', '_', '_']) (o := ['r', 'o', 't', 'a', 'r', 'e', 't', 'i', '_', 't', 'e', 's']) (by kernel_rfl) owner_si]; kernel_rfl
theorem entry_si_iter : entryFor table "set_iterator.__iter__" = some Builtin.«dict_keyiterator.__iter__» :=
  entryFor_alias (id' := "dict_keyiterator.__iter__") (by kernel_rfl) (by first | rfl | decide +kernel | (unfold String.splitOn; simp +decide [String.splitOnAux])) (by decide +kernel) (by kernel_rfl)
end F
def SI (h : Heap) (I S : Addr) (slot i n ep : Nat) : Prop := ∃ o, h.get? I = some o ∧ o.cls = .type "set_iterator" ∧ o.data = .fields #[rawInt slot, rawInt i, .ref S, rawInt n, rawInt ep]
theorem SI.typeIs {s : Shared} {I S : Addr} {slot i n ep : Nat} (x : SI s.heap I S slot i n ep) : s.TypeIs (.ref I) "set_iterator" := let ⟨o, ho, hc, _⟩ := x; ⟨o, ho, hc⟩
section
variable {prog : Program} {w : World} {A : Around} {E : Value → Shared → Prop} {s : Shared} {S : Addr} {es : Array (Int × Value)} {t : SetTable} {ep : Nat} {o : Obj}
def text (w : World) : Bool := w.params.followText "set-order"
def ord (w : World) (S : Addr) (ep : Nat) (es : Array (Int × Value)) : Array (Int × Value) := if text w = true then pickOrder (w.params.setOrder S ep) es else es
theorem ord_perm (w : World) (S : Addr) (ep : Nat) (es : Array (Int × Value)) : (ord w S ep es).toList.Perm es.toList := by
  unfold ord
  split
  · exact pick_is _ _
  · exact List.Perm.refl _
def slotAt (w : World) (t : SetTable) (i : Nat) : Nat := if text w = true then 0 else if i = 0 then 0 else t.place.getD (i - 1) 0 + 1
theorem slot_below (hx : text w = false) (T : Tab t) {i : Nat} (hi : i ≤ t.place.size) : below t.place (slotAt w t i) = i := by
  obtain ⟨b1, b2, b3⟩ := below_all (j := slotAt w t i) T.rise
  have r := List.pairwise_iff_getElem.mp T.rise
  have gd : ∀ k (hk : k < t.place.size) d, t.place.getD k d = t.place.toList[k]'(by simpa using hk) := fun k hk d => by simp [Array.getD, hk]
  have sl : ∀ h0 : i ≠ 0, slotAt w t i = t.place.toList[i - 1]'(by simp; omega) + 1 := fun h0 => by
    unfold slotAt
    rw [hx, if_neg (by decide), if_neg h0, gd (i - 1) (by omega)]
  rcases Nat.lt_trichotomy (below t.place (slotAt w t i)) i with c | c | c
  · have z := b2 _ (Nat.le_refl _) (by omega)
    rw [gd _ (by omega)] at z
    have slz := sl (by omega)
    by_cases d : below t.place (slotAt w t i) = i - 1
    · have : t.place.toList[below t.place (slotAt w t i)]'(by simp; omega) = t.place.toList[i - 1]'(by simp; omega) := by congr 1
      omega
    · have := r (below t.place (slotAt w t i)) (i - 1) (by simp; omega) (by simp; omega) (by omega)
      omega
  · exact c
  · have z := b1 i c
    rw [gd i (by omega)] at z
    by_cases h0 : i = 0
    · have : slotAt w t i = 0 := by unfold slotAt; rw [hx, if_neg (by decide), if_pos h0]
      omega
    · have slz := sl h0
      have := r (i - 1) i (by simp; omega) (by simp; omega) (by omega)
      omega
theorem next_of (ho : s.heap.get? S = some o) (hd : o.data = .set es ep t) (T : Tab t) (hl : es.size = t.place.size) (hp : t.plain = true) (hled : t.led = ledOf w) {i : Nat} {Q : Option (Value × Nat) → Shared → Prop}
    (q : Q (((ord w S ep es)[i]?).map fun e => (e.2, slotAt w t (i + 1))) s) (hi : i ≤ es.size) : wpAny (model prog w) A (setNext S (slotAt w t i) i ep) Q E s := by
  have hf := fits_is T hl
  unfold setNext
  refine wpAny_bind (wpAny_setState_of ho hd hf ?_)
  dsimp only
  unfold setsByText
  refine wpAny_bind (wpAny_bind (wpAny_askSetting (wpAny_pure ?_)))
  cases hx : text w with
  | true =>
    have hx' : (model prog w).w.params.followText "set-order" = true := hx
    simp only [hx', if_true, bne_self_eq_false, Bool.false_eq_true, if_false]
    unfold setWalk setsByText
    refine wpAny_bind (wpAny_bind (wpAny_setState_of ho hd hf ?_))
    dsimp only
    refine wpAny_bind (wpAny_bind (wpAny_askSetting (wpAny_pure ?_)))
    simp only [hx', if_true]
    refine wpAny_bind (wpAny_askSetting (wpAny_pure ?_))
    refine wpAny_pure ?_
    have e1 : ord w S ep es = pickOrder (w.params.setOrder S ep) es := by unfold ord; rw [hx]; rfl
    have e2 : ∀ i, slotAt w t i = 0 := fun i => by unfold slotAt; rw [hx]; rfl
    rw [e1, e2] at q
    rw [e2]
    exact q
  | false =>
    have hx' : (model prog w).w.params.followText "set-order" = false := hx
    have hledT : t.led = true := by rw [hled]; unfold ledOf; rw [show w.params.followText "set-order" = false from hx]; rfl
    have e1 : ord w S ep es = es := by unfold ord; rw [hx]; rfl
    rw [e1] at q
    simp only [hx', Bool.false_eq_true, if_false]
    refine wpAny_ite_split (fun hab => ?_) (fun _ => ?_)
    · have hab' : (!t.plain && decide (es.size > 1)) = true := hab
      rw [hp] at hab'
      cases hab'
    refine wpAny_bind ?_
    show wpAny _ _ (if (!t.led && !es.isEmpty) = true then unsupported "set:maker-not-led" else pure ()) _ _ _
    rw [hledT]
    simp only [Bool.not_true, Bool.false_and, Bool.false_eq_true, if_false]
    refine wpAny_pure (wpAny_pure ?_)
    rw [slot_below hx T (by rw [← hl]; exact hi)]
    by_cases c : i < es.size
    · have c2 : i < t.place.size := by rw [← hl]; exact c
      rw [Array.getElem?_eq_getElem c] at q ⊢
      rw [Array.getElem?_eq_getElem c2]
      have e3 : slotAt w t (i + 1) = t.place[i] + 1 := by
        unfold slotAt
        rw [hx, if_neg (by decide), if_neg (by omega)]
        simp [Array.getD, c2]
      rw [e3] at q
      exact q
    · rw [Array.getElem?_eq_none (by omega)] at q ⊢
      exact q
def SSt (w : World) (I S : Addr) (o : Obj) (es : Array (Int × Value)) (t : SetTable) (ep i : Nat) (h : Heap) : Prop := h.get? S = some o ∧ SI h I S (slotAt w t i) i es.size ep
theorem si_next (hh : A.handled = none) {I : Addr} (hne : S ≠ I) (hd : o.data = .set es ep t) (T : Tab t) (hl : es.size = t.place.size) (hp : t.plain = true) (hled : t.led = ledOf w) {i : Nat} (st : SSt w I S o es t ep i s.heap) (hi : i ≤ es.size) {Q : Option Value → Shared → Prop}
    (q1 : ∀ e h', (ord w S ep es)[i]? = some e → SSt w I S o es t ep (i + 1) h' → Heap.SameBut I s.heap h' → Q (some e.2) { s with heap := h' })
    (q2 : (ord w S ep es)[i]? = none → ∀ h', Heap.ExtBut I s.heap h' → Q none { s with heap := h' }) : wpAny (model prog w) A (pyNext (.ref I)) Q E s := by
  obtain ⟨ho, x⟩ := st
  obtain ⟨oi, hoi, hci, hdi⟩ := id x
  unfold pyNext
  refine wpAny_bind (wpAny_attempt (wpAny_callSpecial?_slot (name := Str.ofString "__next__") x.typeIs F.slot_si_next (wpAny_call_entry F.slot_si_next x.typeIs F.entry_si_next ?_ (F.args_si_next _))))
  unfold Builtin.«set_iterator.__next__»
  refine wpAny_bind (wpAny_of_eq (a := (Value.ref I, [])) rfl ?_)
  try dsimp only
  refine wpAny_bind (wpAny_fieldsOf hoi hdi ?_)
  show wpAny _ _ (setEntries S >>= _) _ _ s
  refine wpAny_bind (wpAny_setEntries_of ho hd (fits_is T hl) ?_)
  simp only [bne_self_eq_false, Bool.false_eq_true, if_false]
  show wpAny _ _ (setNext S (((slotAt w t i : Nat) : Int)).toNat (((i : Nat) : Int)).toNat (((ep : Nat) : Int)).toNat >>= _) _ _ s
  rw [Int.toNat_natCast, Int.toNat_natCast, Int.toNat_natCast]
  refine wpAny_bind (next_of ho hd T hl hp hled ?_ hi)
  cases e : (ord w S ep es)[i]? with
  | some v =>
    show wpAny _ _ (setField (.ref I) 0 (rawInt ((slotAt w t (i + 1) : Nat) : Int)) >>= fun _ => setField (.ref I) 1 (rawInt ((i : Int) + 1)) >>= fun _ => ret v.2) _ _ s
    refine wpAny_bind (wpAny_setField hoi hdi (by simp) ?_)
    have g1 := Heap.get?_update_self (Obj.mapFields (fun fs => fs.setIfInBounds 0 (rawInt ((slotAt w t (i + 1) : Nat) : Int)))) hoi (Obj.isFreed_of_fields (Obj.data_mapFields hdi _))
    have d1 := Obj.data_mapFields hdi (fun fs => fs.setIfInBounds 0 (rawInt ((slotAt w t (i + 1) : Nat) : Int)))
    refine wpAny_bind (wpAny_setField g1 d1 (by simp) ?_)
    have g2 := Heap.get?_update_self (Obj.mapFields (fun fs => fs.setIfInBounds 1 (rawInt ((i : Int) + 1)))) g1 (Obj.isFreed_of_fields (Obj.data_mapFields d1 _))
    have d2 := Obj.data_mapFields d1 (fun fs => fs.setIfInBounds 1 (rawInt ((i : Int) + 1)))
    refine wpAny_pure ⟨_, rfl, wpAny_pure (q1 v _ e ⟨?_, _, g2, ?_, ?_⟩ ((Heap.SameBut.update ..).trans (Heap.SameBut.update ..)))⟩
    · exact (Heap.get?_update_other _ _ (Ne.symm hne)).trans ((Heap.get?_update_other _ _ (Ne.symm hne)).trans ho)
    · exact (Obj.cls_mapFields ..).trans ((Obj.cls_mapFields ..).trans hci)
    · rw [d2]
      simp
  | none =>
    show wpAny _ _ (setField (.ref I) 2 Value.none >>= fun _ => newExc (Value.type "StopIteration") [] >>= fun x => raiseNew x) _ _ s
    refine wpAny_bind (wpAny_setField hoi hdi (by simp) ?_)
    refine wpAny_bind ?_
    simp only [newExc, newTuple]
    refine wpAny_bind (wpAny_newObj_type ?_ (by size_fits))
    refine wpAny_bind (m := firstArgMember _ _) (wpAny_of_eq (a := Value.none) (by first | rfl | (simp only [firstArgMember]; rfl)) ?_)
    refine wpAny_newObj_type ?_ (by size_fits)
    simp only [raiseNew]
    refine wpAny_bind (wpAny_handled ?_)
    rw [show A.in1.handled = none from hh]
    refine wpAny_bind (wpAny_pure (wpAny_throw ?_))
    refine wpAny_bind (wpAny_isInstance (T := "StopIteration") (b := true) ⟨_, Heap.get?_push_size _ rfl, rfl⟩ isSubtype_stop ?_)
    exact wpAny_pure (q2 e _ (((Heap.SameBut.update ..).extBut.push _).push _))
theorem ord_size (w : World) (S : Addr) (ep : Nat) (es : Array (Int × Value)) : (ord w S ep es).size = es.size := by
  rw [← Array.length_toList, (ord_perm w S ep es).length_eq, Array.length_toList]
theorem walks_set (hh : A.handled = none) {I : Addr} (hne : S ≠ I) (hd : o.data = .set es ep t) (T : Tab t) (hl : es.size = t.place.size) (hp : t.plain = true) (hled : t.led = ledOf w) :
    Walks prog w A I [I, S] [I] es.size (fun i v => ∃ e, (ord w S ep es)[i]? = some e ∧ v = e.2) (fun i h => i ≤ es.size ∧ SSt w I S o es t ep i h) where
  sub := fun b hb => by simp at hb; simp [hb]
  frame := fun i h h' ⟨hi, h1, oi, h2, r⟩ hk => ⟨hi, hk S (by simp) o h1, oi, hk I (by simp) oi h2, r⟩
  item := fun i s Q E hi ⟨hi', st⟩ hQ => by
    refine si_next hh hne hd T hl hp hled st hi' (fun e h' ge st' sb => hQ _ h' s.toks ⟨e, ge, rfl⟩ ⟨hi, st'⟩ fun b ob hb eo => ?_) (fun z => ?_)
    · rw [sb.2 b (fun (q : b = I) => hb (by simp [q]))]
      exact eo
    · have := ord_size w S ep es
      rw [Array.getElem?_eq_none_iff] at z
      omega
  done := fun s Q E ⟨_, st⟩ hQ => by
    refine si_next hh hne hd T hl hp hled st (Nat.le_refl _) (fun e h' ge st' sb => ?_) (fun z h' eb => hQ h' s.toks fun b ob hb eo => eb b ob (fun q => hb (by simp [q])) eo)
    have := (Array.getElem?_eq_some_iff.mp ge).1
    rw [ord_size] at this
    omega
  self := fun i s Q E ⟨_, _, x⟩ hQ => by
    refine wpAny_pyIter_slot x.typeIs F.slot_si_iter (wpAny_call_entry F.slot_si_iter x.typeIs F.entry_si_iter ?_ (F.args_si_iter _))
    show wpAny _ _ (ret (.ref I)) _ _ s
    exact wpAny_pure ⟨_, rfl, "set_iterator", _, x.typeIs, F.slot_si_next.lookup, hQ⟩
theorem set_iter (ho : s.heap.get? S = some o) (hex : o.ExactSet) (hd : o.data = .set es ep t) (T : Tab t) (hl : es.size = t.place.size) (hp : t.plain = true) {Q : Value → Shared → Prop}
    (q : ∀ x, (s.heap.push x).get? s.heap.objs.size = some x → SSt w s.heap.objs.size S o es t ep 0 (s.heap.push x) → Q (.ref s.heap.objs.size) { s with heap := s.heap.push x }) : wpAny (model prog w) A (pyIter (.ref S)) Q E s := by
  have hf := fits_is T hl
  have tS : s.TypeIs (.ref S) "set" := ⟨o, ho, hex.1⟩
  refine wpAny_pyIter_slot tS PySem.F.slot_set_iter (wpAny_call_entry PySem.F.slot_set_iter tS F.entry_set_iter ?_ (PySem.F.args_set_iter_1 _))
  unfold Builtin.«frozenset.__iter__»
  refine wpAny_bind (wpAny_of_eq (a := S) rfl ?_)
  refine wpAny_bind (m := Builtin.Frozenset.sizeOf S) (wpAny_bind (wpAny_setEntries_of ho hd hf (wpAny_pure ?_)))
  refine wpAny_bind (m := setDrawn S) ?_
  unfold setDrawn setsByText
  refine wpAny_bind (wpAny_setState_of ho hd hf ?_)
  dsimp only
  refine wpAny_bind (wpAny_bind (wpAny_askSetting (wpAny_pure ?_)))
  refine wpAny_pure ?_
  refine wpAny_ite_split (fun hab => ?_) (fun _ => ?_)
  · have hab' : (!w.params.followText "set-order" && (!t.plain && decide (es.size > 1))) = true := hab
    rw [hp] at hab'
    simp at hab'
  refine wpAny_bind (wpAny_pure ?_)
  refine wpAny_bind (wpAny_setEpoch_of ho hd hf ?_)
  unfold newFields
  refine wpAny_bind (wpAny_newObj_type ?_)
  have z : slotAt w t 0 = 0 := by
    unfold slotAt
    split
    · rfl
    · rfl
  refine wpAny_pure ⟨_, rfl, "set_iterator", _, ⟨_, Heap.get?_push_size _ rfl, rfl⟩, F.slot_si_next.lookup, q _ (Heap.get?_push_size _ rfl) ⟨Heap.get?_push_of_some _ ho, _, Heap.get?_push_size _ rfl, rfl, ?_⟩⟩
  rw [z]
  rfl
end
end ST
end
section
namespace ST
open PySem PySem.SetTable
section
variable {prog : Program} {w : World} {A : Around} {E : Value → Shared → Prop} {s : Shared} {S : Addr} {es : Array (Int × Value)} {t : SetTable} {ep : Nat} {o : Obj}
theorem hint_set (ho : s.heap.get? S = some o) (hex : o.ExactSet) {Q : Bool → Shared → Prop} (h : Q false s) : wpAny (model prog w) A (Builtin.List.listLengthHint (.ref S)) Q E s := by
  have tS : s.TypeIs (.ref S) "set" := ⟨o, ho, hex.1⟩
  unfold Builtin.List.listLengthHint
  refine wpAny_bind (wpAny_specialOf tS PySem.F.slot_set_len.lookup ?_)
  generalize hid : ("set.__len__" : String) = id0
  wp_delta
  rw [show splitId id0 = some ("set", "__len__") from by subst hid; decide +kernel]
  subst hid
  refine wpAny_bind (wpAny_isInstance (T := "set") (b := true) tS (by rw [isSubtype_type]; kernel_rfl) ?_)
  refine wpAny_ite_split (fun hab => absurd hab (by decide)) (fun _ => ?_)
  refine wpAny_ite_split (fun _ => ?_) (fun hab => absurd (by decide +kernel) hab)
  refine wpAny_bind (wpAny_typeOf tS ?_)
  exact wpAny_pure h
theorem extend_set {R : Result → Shared → Prop} (hh : A.handled = none) (ho : s.heap.get? S = some o) (hex : o.ExactSet) (hd : o.data = .set es ep t) (T : Tab t) (hl : es.size = t.place.size) (hp : t.plain = true) (hled : t.led = ledOf w) (h61 : es.size ≤ 61)
    (D : Addr) (res : Value) (c₀ : Nat) (hD : s.heap.get? D = some { cls := .type "list", data := .seq #[] c₀ })
    (hR : ∀ h' tk acc' c', (∀ b ob, b ≠ D → s.heap.get? b = some ob → h'.get? b = some ob) → h'.get? D = some { cls := .type "list", dict := none, data := .seq acc' c', slots := #[] } →
      ItemsOf (fun i v => ∃ e, (ord w S ep es)[i]? = some e ∧ v = e.2) acc' es.size → R (.ok (.ret res)) { s with heap := h', toks := tk }) :
    wpAny (model prog w) A.in1 (Builtin.List.listExtendWith (.ref D) (.ref S) res)
      (fun fin s' => match fin with | .done f => R (.ok f) s' | .again c' => c'.quiet = true ∧ codeAny (model prog w) A c' R s') (fun e s' => R (.error e) s') s := by
  have tS : s.TypeIs (.ref S) "set" := ⟨o, ho, hex.1⟩
  have nDS : D ≠ S := fun e => by
    rw [e, ho] at hD
    cases hD
    cases hd
  have nSI : S ≠ s.heap.objs.size := Nat.ne_of_lt (Heap.lt_size ho)
  have nDI : D ≠ s.heap.objs.size := Nat.ne_of_lt (Heap.lt_size hD)
  have nDf : D ∉ [s.heap.objs.size, S] := fun hm => by
    rcases List.mem_cons.mp hm with e | hm
    · exact nDI e
    · exact nDS (List.mem_singleton.mp hm)
  have W := (walks_set (prog := prog) (A := A.in1) (o := o) hh nSI hd T hl hp hled).toS
  unfold Builtin.List.listExtendWith
  refine wpAny_bind (wpAny_typeOf (T := "set") tS ?_)
  have c1 : Builtin.List.listSameRef (.ref D) (.ref S) = false := by simp [Builtin.List.listSameRef, nDS]
  have c2 : (Value.type "set" == Value.type "list") = false := by decide
  have c3 : (Value.type "set" == Value.type "tuple") = false := by decide
  simp only [c1, c2, c3, Bool.or_false, Bool.false_eq_true, if_false]
  refine wpAny_bind (set_iter ho hex hd T hl hp fun x gx st => ?_)
  refine wpAny_bind (wpAny_holding (hint_set (s := { s with heap := s.heap.push x }) (Heap.get?_push_of_some _ ho) hex ?_))
  refine wpAny_ite_split (fun _ => ?_) (fun hab => absurd (by decide +kernel) hab)
  have hD1 : (s.heap.push x).get? D = some { cls := .type "list", data := .seq #[] c₀ } := Heap.get?_push_of_some _ hD
  refine wpAny_bind (wpAny_rule ?_)
  refine wpAny_bind ?_
  show wpAny _ _ (updateSeq D (·.push .none) >>= fun _ => updateSeq D (·.pop)) _ _ _
  refine wpAny_bind (wpAny_updateSeq hD1 rfl ?_)
  have hD2 := Heap.get?_update_self (Obj.mapSeq (·.push Value.none)) hD1 rfl
  refine wpAny_updateSeq (hz := by seq_fits) hD2 rfl ?_
  have hD3 := Heap.get?_update_self (Obj.mapSeq (·.pop)) hD2 rfl
  have keep : ∀ b ob, b ≠ D → (s.heap.push x).get? b = some ob → (((s.heap.push x).update D (Obj.mapSeq (·.push Value.none))).update D (Obj.mapSeq (·.pop))).get? b = some ob := fun b ob hb e => (Heap.get?_update_other _ _ (Ne.symm hb)).trans ((Heap.get?_update_other _ _ (Ne.symm hb)).trans e)
  obtain ⟨st1, oi, st2, st3⟩ := st
  refine wpAny_pure ⟨plainId_quiet F.plain_extend_loop _, ?_⟩
  refine codeAny_extend_loopS W (by rw [sizeLine_eq]; omega) D nDf res es.size 0 _ _ _ rfl (Nat.zero_le _) ⟨Nat.zero_le _, keep S o nDS.symm st1, oi, keep _ oi (Ne.symm nDI) st2, st3⟩ hD3 (ItemsOf.nil _) fun s' acc' c' hm hS' hacc => ?_
  rw [Moved.eq_with hm]
  refine hR s'.heap s'.toks acc' c' (fun b ob hb e => hm.heap b ob (fun hmem => ?_) (keep b ob hb (Heap.get?_push_of_some _ e))) hS' hacc
  rcases List.mem_cons.mp hmem with e' | hmem
  · exact hb e'
  · exact absurd (Heap.lt_size e) (by rw [List.mem_singleton.mp hmem]; exact Nat.lt_irrefl _)
end
end ST
end
section
namespace ST
open PySem PySem.W PyProof.Rows
def kw {α : Type} (lt : Nat → Nat → Bool) (n : Nat) : KasT α → (α → Prop) → Prop
  | .ret a, Q => Q a
  | .ask i j k, Q => i < n ∧ j < n ∧ kw lt n (k (lt i j)) Q
theorem kw_bind {α β : Type} {lt : Nat → Nat → Bool} {n : Nat} {f : α → KasT β} {Q : β → Prop} : ∀ (t : KasT α), kw lt n t (fun a => kw lt n (f a) Q) → kw lt n (t.bind f) Q
  | .ret a, h => h
  | .ask i j k, ⟨h1, h2, h3⟩ => ⟨h1, h2, kw_bind (k (lt i j)) h3⟩
theorem kw_mono {α : Type} {lt : Nat → Nat → Bool} {n : Nat} {Q Q' : α → Prop} (q : ∀ a, Q a → Q' a) : ∀ (t : KasT α), kw lt n t Q → kw lt n t Q'
  | .ret a, h => q a h
  | .ask i j k, ⟨h1, h2, h3⟩ => ⟨h1, h2, kw_mono q (k (lt i j)) h3⟩
theorem kw_wp {α : Type} {lt : Nat → Nat → Bool} {n : Nat} {cmp : Nat → Nat → (Bool → Shared → Prop) → Shared → Prop} {s : Shared} (hc : ∀ i j C, i < n → j < n → C (lt i j) s → cmp i j C s) {Q : α → Prop} {R : α → Shared → Prop} (q : ∀ a, Q a → R a s) :
    ∀ (t : KasT α), kw lt n t Q → t.kasWp cmp R s
  | .ret a, h => q a h
  | .ask i j k, ⟨h1, h2, h3⟩ => hc i j _ h1 h2 (kw_wp hc q (k (lt i j)) h3)
abbrev g (p : Array Nat) (k : Nat) : Nat := p.getD k 0
structure PP (n : Nat) (p : Array Nat) : Prop where
  size : p.size = n
  lt : ∀ k, k < n → g p k < n
  inj : ∀ k k', k < n → k' < n → g p k = g p k' → k = k'
structure Tot (n : Nat) (lt : Nat → Nat → Bool) : Prop where
  or : ∀ i j, i < n → j < n → i ≠ j → lt i j = false → lt j i = true
  as : ∀ i j, i < n → j < n → lt i j = true → lt j i = false
  tr : ∀ i j k, i < n → j < n → k < n → lt i j = true → lt j k = true → lt i k = true
def Up (lt : Nat → Nat → Bool) (p : Array Nat) (m : Nat) : Prop := ∀ a b, a < b → b < m → lt (g p a) (g p b) = true
def Dn (lt : Nat → Nat → Bool) (p : Array Nat) (m : Nat) : Prop := ∀ a b, a < b → b < m → lt (g p b) (g p a) = true
section
variable {n : Nat} {lt : Nat → Nat → Bool} {p : Array Nat}
theorem g_of {p q : Array Nat} {k k' : Nat} (h : p[k]? = q[k']?) : g p k = g q k' := by
  unfold g
  rw [Array.getD_eq_getD_getElem?, Array.getD_eq_getD_getElem?, h]
theorem Up.on (T : Tot n lt) (P : PP n p) {m : Nat} (h1 : 1 ≤ m) (hm : m < n) (u : Up lt p m) (e : lt (g p (m - 1)) (g p m) = true) : Up lt p (m + 1) := fun a b hab hb => by
  by_cases c : b < m
  · exact u a b hab c
  · have : b = m := by omega
    subst this
    by_cases d : a = b - 1
    · rw [d]; exact e
    · exact T.tr _ _ _ (P.lt a (by omega)) (P.lt (b - 1) (by omega)) (P.lt b hm) (u a (b - 1) (by omega) (by omega)) e
theorem Dn.on (T : Tot n lt) (P : PP n p) {m : Nat} (h1 : 1 ≤ m) (hm : m < n) (u : Dn lt p m) (e : lt (g p m) (g p (m - 1)) = true) : Dn lt p (m + 1) := fun a b hab hb => by
  by_cases c : b < m
  · exact u a b hab c
  · have : b = m := by omega
    subst this
    by_cases d : a = b - 1
    · rw [d]; exact e
    · exact T.tr _ _ _ (P.lt b hm) (P.lt (b - 1) (by omega)) (P.lt a (by omega)) e (u a (b - 1) (by omega) (by omega))
theorem asc_is (T : Tot n lt) (P : PP n p) : ∀ (f m : Nat), 1 ≤ m → m + f = n → Up lt p m → kw lt n (kas_asc p f m) (fun m' => m ≤ m' ∧ m' ≤ n ∧ Up lt p m' ∧ (m' < n → lt (g p m') (g p (m' - 1)) = true))
  | 0, m, h1, e, u => ⟨Nat.le_refl _, by omega, u, fun z => absurd z (by omega)⟩
  | f + 1, m, h1, e, u => by
    refine ⟨P.lt m (by omega), P.lt (m - 1) (by omega), ?_⟩
    cases c : lt (g p m) (g p (m - 1)) with
    | true => exact ⟨Nat.le_refl _, by omega, u, fun _ => c⟩
    | false =>
      have c2 := T.or _ _ (P.lt m (by omega)) (P.lt (m - 1) (by omega)) (fun z => by have := P.inj _ _ (by omega) (by omega) z; omega) c
      exact kw_mono (fun m' ⟨x1, x2, x3, x4⟩ => ⟨by omega, x2, x3, x4⟩) _ (asc_is T P f (m + 1) (by omega) (by omega) (u.on T P h1 (by omega) c2))
theorem desc_is (T : Tot n lt) (P : PP n p) : ∀ (f m : Nat), 1 ≤ m → m + f = n → Dn lt p m → kw lt n (kas_desc f p m 0) (fun r => r.1 = p ∧ m ≤ r.2.1 ∧ r.2.1 ≤ n ∧ Dn lt p r.2.1 ∧ r.2.2 = 0)
  | 0, m, h1, e, u => ⟨rfl, Nat.le_refl _, by show m ≤ n; omega, u, rfl⟩
  | f + 1, m, h1, e, u => by
    refine ⟨P.lt m (by omega), P.lt (m - 1) (by omega), ?_⟩
    cases c : lt (g p m) (g p (m - 1)) with
    | true =>
      dsimp only
      rw [if_pos rfl, if_neg (by omega)]
      exact kw_mono (fun r ⟨x0, x1, x2, x3, x4⟩ => ⟨x0, by omega, x2, x3, x4⟩) _ (desc_is T P f (m + 1) (by omega) (by omega) (u.on T P h1 (by omega) c))
    | false =>
      have c2 := T.or _ _ (P.lt m (by omega)) (P.lt (m - 1) (by omega)) (fun z => by have := P.inj _ _ (by omega) (by omega) z; omega) c
      dsimp only
      rw [if_neg (by decide)]
      refine ⟨P.lt (m - 1) (by omega), P.lt m (by omega), ?_⟩
      have c3 : lt (p.getD (m - 1) 0) (p.getD m 0) = true := c2
      rw [c3]
      dsimp only
      rw [if_pos rfl]
      exact ⟨rfl, Nat.le_refl _, by show m ≤ n; omega, u, rfl⟩
theorem rev_at {m : Nat} (hm : m ≤ p.size) (k : Nat) : g (kas_rev p 0 m) k = if k < m then g p (m - 1 - k) else g p k := by
  have e := getElem?_mirror_all (xs := p) (i := 0) hm k
  unfold kas_rev
  by_cases c : k < m
  · rw [if_pos c]
    rw [if_pos ⟨Nat.zero_le _, c⟩] at e
    rw [g_of e, Nat.zero_add]
  · rw [if_neg c]
    rw [if_neg (fun z => c z.2)] at e
    exact g_of e
theorem rev_pp (P : PP n p) {m : Nat} (hm : m ≤ n) : PP n (kas_rev p 0 m) := by
  have hm' : m ≤ p.size := by rw [P.size]; exact hm
  refine ⟨by rw [← P.size]; exact mirror_size _ _ _ _, fun k hk => ?_, fun k k' hk hk' e => ?_⟩
  · rw [rev_at hm']
    split
    · exact P.lt _ (by omega)
    · exact P.lt _ hk
  · rw [rev_at hm', rev_at hm'] at e
    split at e <;> split at e
    · have := P.inj _ _ (by omega) (by omega) e
      omega
    · have := P.inj _ _ (by omega) hk' e
      omega
    · have := P.inj _ _ hk (by omega) e
      omega
    · exact P.inj _ _ hk hk' e
theorem rev_up (P : PP n p) {m : Nat} (hm : m ≤ n) (d : Dn lt p m) : Up lt (kas_rev p 0 m) m := fun a b hab hb => by
  have hm' : m ≤ p.size := by rw [P.size]; exact hm
  rw [rev_at hm', rev_at hm', if_pos (by omega), if_pos hb]
  exact d _ _ (by omega) (by omega)
theorem count_is (T : Tot n lt) (P : PP n p) (h2 : 2 ≤ n) : kw lt n (kas_count n p) (fun r => PP n r.2 ∧ 1 ≤ r.1 ∧ r.1 ≤ n ∧ Up lt r.2 r.1) := by
  unfold kas_count
  refine kw_bind _ (kw_mono (fun m ⟨x1, x2, x3, x4⟩ => ?_) _ (asc_is T P (n - 1) 1 (Nat.le_refl _) (by omega) (fun a b hab hb => absurd hab (by omega))))
  by_cases c : m = n
  · rw [if_pos (by simpa using c)]
    exact ⟨P, x1, x2, x3⟩
  · rw [if_neg (by simpa using c)]
    by_cases d : m > 1
    · rw [if_pos d]
      refine ⟨P.lt 0 (by omega), P.lt (m - 1) (by omega), ?_⟩
      have e : lt (p.getD 0 0) (p.getD (m - 1) 0) = true := x3 0 (m - 1) (by omega) (by omega)
      rw [e]
      dsimp only
      rw [if_pos rfl]
      exact ⟨P, x1, x2, x3⟩
    · rw [if_neg d]
      have : m = 1 := by omega
      subst this
      have z := x4 (by omega)
      unfold kas_descPart
      refine kw_bind _ (kw_mono (fun r ⟨y0, y1, y2, y3, y4⟩ => ?_) _ (desc_is T P (n - (1 + 1)) (1 + 1) (by omega) (by omega) (fun a b hab hb => by
        have ha : a = 0 := by omega
        have hb' : b = 1 := by omega
        subst ha hb'
        exact z)))
      rw [if_neg (by omega)]
      unfold kas_tail3
      obtain ⟨rp, rm, rq⟩ := r
      simp only at y0 y1 y2 y3 y4
      subst y0
      have P' := rev_pp P y2
      refine kw_bind _ (kw_mono (fun m' ⟨w1, w2, w3, _⟩ => ⟨P', by show 1 ≤ m'; omega, w2, w3⟩) _ (asc_is T P' (n - rm) rm (by omega) (by omega) (rev_up P y2 y3)))
theorem place_is (T : Tot n lt) (P : PP n p) {k : Nat} (hk : k < n) (u : Up lt p k) : ∀ (f l r : Nat), l ≤ r → r ≤ k → r - l ≤ f → (∀ a, a < l → lt (g p a) (g p k) = true) → (∀ a, r ≤ a → a < k → lt (g p k) (g p a) = true) →
    kw lt n (kas_place p k f l r) (fun l' => l' ≤ k ∧ (∀ a, a < l' → lt (g p a) (g p k) = true) ∧ ∀ a, l' ≤ a → a < k → lt (g p k) (g p a) = true)
  | 0, l, r, h1, h2, h3, h4, h5 => by
    have : l = r := by omega
    subst this
    exact ⟨h2, h4, h5⟩
  | f + 1, l, r, h1, h2, h3, h4, h5 => by
    unfold kas_place
    by_cases c : l ≥ r
    · rw [if_pos c]
      have : l = r := by omega
      subst this
      exact ⟨h2, h4, h5⟩
    · rw [if_neg c]
      have hm : (l + r) / 2 < k := by omega
      refine ⟨P.lt k hk, P.lt _ (by omega), ?_⟩
      cases d : lt (g p k) (g p ((l + r) / 2)) with
      | true =>
        dsimp only
        rw [if_pos rfl]
        refine place_is T P hk u f l ((l + r) / 2) (by omega) (by omega) (by omega) h4 (fun a h6 h7 => ?_)
        by_cases e : a = (l + r) / 2
        · rw [e]; exact d
        · exact T.tr _ _ _ (P.lt k hk) (P.lt _ (by omega)) (P.lt a (by omega)) d (u _ _ (by omega) h7)
      | false =>
        dsimp only
        rw [if_neg (by decide)]
        have d2 := T.or _ _ (P.lt k hk) (P.lt ((l + r) / 2) (by omega)) (fun z => by have := P.inj _ _ hk (by omega) z; omega) d
        refine place_is T P hk u f ((l + r) / 2 + 1) r (by omega) h2 (by omega) (fun a h6 => ?_) h5
        by_cases e : a = (l + r) / 2
        · rw [e]; exact d2
        · exact T.tr _ _ _ (P.lt a (by omega)) (P.lt _ (by omega)) (P.lt k hk) (u a _ (by omega) hm) d2
def bub (k l i : Nat) : Nat := if i = l then k else if l < i ∧ i ≤ k then i - 1 else i
theorem bub_at {k l : Nat} (hk : k < p.size) (hl : l ≤ k) (i : Nat) : g (bubble p k (k - l)) i = g p (bub k l i) := by
  have e := getElem?_bubble (xs := p) hk (k - l) (by omega) i
  rw [show k - (k - l) = l by omega] at e
  unfold bub
  by_cases c : i = l
  · rw [if_pos c] at e ⊢; exact g_of e
  · rw [if_neg c] at e ⊢
    by_cases d : l < i ∧ i ≤ k
    · rw [if_pos d] at e ⊢; exact g_of e
    · rw [if_neg d] at e ⊢; exact g_of e
theorem bub_lt {k l i : Nat} (hk : k < n) (hi : i < n) : bub k l i < n := by
  unfold bub
  split
  · exact hk
  · split <;> omega
theorem bub_inj {k l i i' : Nat} (hl : l ≤ k) (e : bub k l i = bub k l i') : i = i' := by
  unfold bub at e
  (repeat' split at e) <;> omega
theorem bin_is (T : Tot n lt) : ∀ (f k : Nat) {p : Array Nat}, PP n p → k + f = n → Up lt p k → kw lt n (kas_bin f p k) (fun p' => PP n p' ∧ Up lt p' n)
  | 0, k, p, P, e, u => by
    have : k = n := by omega
    subst this
    exact ⟨P, u⟩
  | f + 1, k, p, P, e, u => by
    have hk : k < n := by omega
    have hks : k < p.size := by rw [P.size]; exact hk
    refine kw_bind _ (kw_mono (fun l ⟨h1, h2, h3⟩ => ?_) _ (place_is T P hk u k 0 k (Nat.zero_le _) (Nat.le_refl _) (by omega) (fun a h => absurd h (by omega)) (fun a h h' => absurd h' (by omega))))
    refine bin_is T f (k + 1) ⟨by rw [← P.size]; exact bubble_size _ _ _, fun i hi => ?_, fun i i' hi hi' ee => ?_⟩ (by omega) (fun a b hab hb => ?_)
    · rw [bub_at hks h1]
      exact P.lt _ (bub_lt hk hi)
    · rw [bub_at hks h1, bub_at hks h1] at ee
      exact bub_inj h1 (P.inj _ _ (bub_lt hk hi) (bub_lt hk hi') ee)
    · rw [bub_at hks h1, bub_at hks h1]
      unfold bub
      by_cases c1 : a = l
      · rw [if_pos c1, if_neg (by omega), if_pos (by omega)]
        exact h3 _ (by omega) (by omega)
      · rw [if_neg c1]
        by_cases c2 : b = l
        · rw [if_neg (by omega), if_pos c2]
          exact h2 _ (by omega)
        · rw [if_neg c2]
          by_cases c3 : l < a
          · rw [if_pos (by omega), if_pos (by omega)]
            exact u _ _ (by omega) (by omega)
          · rw [if_neg (by omega)]
            by_cases c4 : l < b
            · rw [if_pos (by omega)]
              exact u _ _ (by omega) (by omega)
            · rw [if_neg (by omega)]
              exact u _ _ hab (by omega)
theorem pp_range (n : Nat) : PP n (List.toArray (List.range n)) := by
  have ge : ∀ k, k < n → g (List.toArray (List.range n)) k = k := fun k hk => by
    unfold g
    rw [Array.getD_eq_getD_getElem?]
    simp [hk]
  refine ⟨by simp, fun k hk => by rw [ge k hk]; exact hk, fun k k' hk hk' e => ?_⟩
  rw [ge k hk, ge k' hk'] at e
  exact e
theorem sort_is (T : Tot n lt) (h2 : 2 ≤ n) : kw lt n (kas_sort n) (fun p => PP n p ∧ Up lt p n) := by
  unfold kas_sort
  refine kw_bind _ (kw_mono (fun r ⟨P, r1, r2, u⟩ => ?_) _ (count_is T (pp_range n) h2))
  by_cases c : r.1 < n
  · rw [if_pos c]
    rw [show max r.1 1 = r.1 by omega]
    exact bin_is T _ _ P (by omega) u
  · rw [if_neg c]
    have : r.1 = n := by omega
    rw [this] at u
    exact ⟨P, u⟩
end
end ST
end
section
namespace ST
open PySem PySem.W PyProof.Rows
theorem lex_as : ∀ {x y : List Int}, HT.lexLt x y = true → HT.lexLt y x = false
  | [], [], h => by cases h
  | [], _ :: _, _ => rfl
  | _ :: _, [], h => by cases h
  | a :: x, b :: y, h => by
    rw [HT.lexLt_cons] at h ⊢
    by_cases c : a = b
    · rw [if_pos c] at h
      rw [if_pos c.symm]
      exact lex_as h
    · rw [if_neg c] at h
      rw [if_neg (Ne.symm c)]
      have := of_decide_eq_true h
      exact decide_eq_false (by omega)
theorem lex_or : ∀ {x y : List Int}, x ≠ y → HT.lexLt x y = false → HT.lexLt y x = true
  | [], [], n, _ => absurd rfl n
  | [], _ :: _, _, h => by cases h
  | _ :: _, [], _, _ => rfl
  | a :: x, b :: y, n, h => by
    rw [HT.lexLt_cons] at h ⊢
    by_cases c : a = b
    · rw [if_pos c] at h
      rw [if_pos c.symm]
      exact lex_or (fun e => n (by rw [c, e])) h
    · rw [if_neg c] at h
      rw [if_neg (Ne.symm c)]
      have := of_decide_eq_false h
      exact decide_eq_true (by omega)
theorem lex_tr : ∀ {x y z : List Int}, HT.lexLt x y = true → HT.lexLt y z = true → HT.lexLt x z = true
  | [], [], _, h, _ => by cases h
  | [], _ :: _, [], _, h => by cases h
  | [], _ :: _, _ :: _, _, _ => rfl
  | _ :: _, [], _, h, _ => by cases h
  | _ :: _, _ :: _, [], _, h => by cases h
  | a :: x, b :: y, c :: z, h, k => by
    rw [HT.lexLt_cons] at h k ⊢
    by_cases ab : a = b
    · rw [if_pos ab] at h
      by_cases bc : b = c
      · rw [if_pos bc] at k
        rw [if_pos (ab.trans bc)]
        exact lex_tr h k
      · rw [if_neg bc] at k
        rw [if_neg (fun e => bc (by omega))]
        have := of_decide_eq_true k
        exact decide_eq_true (by omega)
    · rw [if_neg ab] at h
      have h' := of_decide_eq_true h
      by_cases bc : b = c
      · rw [if_pos bc] at k
        rw [if_neg (by omega)]
        exact decide_eq_true (by omega)
      · rw [if_neg bc] at k
        have k' := of_decide_eq_true k
        rw [if_neg (by omega)]
        exact decide_eq_true (by omega)
section
variable {prog : Program} {w : World} {A : Around} {E : Value → Shared → Prop} {s : Shared}
theorem lex_walk {b fin : Bool} {Q : Bool → Shared → Prop} {x y : List Int} {vs us : List Value} (hx : ItemsAre (intKind prog w) x vs) : ∀ {y : List Int} {us : List Value} (i : Nat), ItemsAre (intKind prog w) y us → fin = decide (x.length < y.length) → Q (HT.lexLt x y) s → KatLex prog w A b fin Q (vs.zip us) i s := by
  induction hx with
  | nil =>
    intro y us i hy hf q
    cases hy with
    | nil => rw [hf]; exact q
    | cons h1 t => rw [hf]; exact q
  | @cons k v ks vs' hk ht ih =>
    intro y us i hy hf q
    cases hy with
    | nil => rw [hf]; exact q
    | @cons k' v' ks' us' hk' ht' =>
      rw [HT.lexLt_cons] at q
      refine kat_cons ((intKind prog w).eqBool hk hk' ?_)
      by_cases c : k = k'
      · rw [if_pos c] at q
        rw [decide_eq_true c]
        refine kat_yes (ih (i + 1) ht' ?_ q)
        rw [hf]
        simp
      · rw [if_neg c] at q
        rw [decide_eq_false c]
        refine kat_no ?_
        obtain ⟨t1, rfl⟩ := Value.isInt_shape hk
        obtain ⟨t2, rfl⟩ := Value.isInt_shape hk'
        cases (b && i == 0) with
        | true =>
          rw [← keyLt'_oneType]
          exact kat_lt_int q
        | false => exact kat_one _ _ (lt_int q)
theorem tup_lt {b : Bool} {x y : List Int} {a c : Addr} {Q : Bool → Shared → Prop} (hx : IK prog w s.heap x a) (hy : IK prog w s.heap y c) (q : Q (HT.lexLt x y) s) : wpAny (model prog w) A (keyLt' (tuples' b) (.ref a) (.ref c)) Q E s := by
  obtain ⟨ox, xs, n, gx, cx, dx, ix⟩ := hx
  obtain ⟨oy, ys, k, gy, cy, dy, iy⟩ := hy
  refine kat_lt gx dx gy dy (lex_walk (x := x) (y := y) (us := ys.toList) ix 0 iy ?_ q)
  have l1 := ix.length
  have l2 := iy.length
  rw [l1, l2, Array.length_toList, Array.length_toList]
end
structure Row (prog : Program) (w : World) (h : Heap) (vs : List Value) (ks : List (List Int × Addr)) : Prop where
  vals : vs = ks.map fun x => Value.ref x.2
  keys : ∀ x ∈ ks, IK prog w h x.1 x.2
  full : ∀ x ∈ ks, x.1 ≠ []
  nd : (ks.map (·.1)).Nodup
def ltK (ks : List (List Int × Addr)) (i j : Nat) : Bool := HT.lexLt (ks.getD i ([], 0)).1 (ks.getD j ([], 0)).1
theorem Row.tot {prog : Program} {w : World} {h : Heap} {vs : List Value} {ks : List (List Int × Addr)} (R : Row prog w h vs ks) : Tot ks.length (ltK ks) := by
  have ne : ∀ i j, i < ks.length → j < ks.length → i ≠ j → (ks.getD i ([], 0)).1 ≠ (ks.getD j ([], 0)).1 := fun i j hi hj hij e => by
    have r := List.pairwise_iff_getElem.mp R.nd
    have g1 : (ks.getD i ([], 0)).1 = (ks.map (·.1))[i]'(by simpa using hi) := by simp [List.getD_eq_getElem?_getD, hi]
    have g2 : (ks.getD j ([], 0)).1 = (ks.map (·.1))[j]'(by simpa using hj) := by simp [List.getD_eq_getElem?_getD, hj]
    rw [g1, g2] at e
    rcases Nat.lt_or_gt_of_ne hij with c | c
    · exact r i j _ _ c e
    · exact r j i _ _ c e.symm
  exact ⟨fun i j hi hj hij e => lex_or (ne i j hi hj hij) e, fun i j _ _ e => lex_as e, fun i j k _ _ _ e1 e2 => lex_tr e1 e2⟩
section
variable {prog : Program} {w : World} {A : Around} {E : Value → Shared → Prop} {s : Shared} {vs : List Value} {ks : List (List Int × Addr)}
theorem Row.tups {h : Heap} (R : Row prog w h vs ks) : ∃ fs, KatTups h vs fs ∧ fs.length = vs.length ∧ ∀ v ∈ fs, ∃ n t, v = Value.int n t := by
  obtain ⟨e, hk, hf, hn⟩ := R
  clear hn
  subst e
  induction ks with
  | nil => exact ⟨[], trivial, rfl, fun v hv => by cases hv⟩
  | cons x r ih =>
    obtain ⟨fs, t, l, q⟩ := ih (fun y hy => hk y (List.mem_cons_of_mem _ hy)) (fun y hy => hf y (List.mem_cons_of_mem _ hy))
    obtain ⟨o, xs, n, gx, cx, dx, ix⟩ := hk x List.mem_cons_self
    have hx := hf x List.mem_cons_self
    obtain ⟨xk, xa⟩ := x
    cases hxs : xs.toList with
    | nil =>
      rw [hxs] at ix
      cases ix
      exact absurd rfl hx
    | cons f rest =>
      have hf0 : xs[0]? = some f := by rw [← Array.getElem?_toList, hxs]; rfl
      have hi := ik_ints ix f (by rw [hxs]; exact List.mem_cons_self)
      refine ⟨f :: fs, KatTups.cons gx cx dx hf0 t, by simp [l], fun v hv => ?_⟩
      rcases List.mem_cons.mp hv with rfl | hv
      · exact hi
      · exact q v hv
theorem row_kept {h h' : Heap} (R : Row prog w h vs ks) (e : ∀ x ∈ ks, ∀ o, h.get? x.2 = some o → h'.get? x.2 = some o) : Row prog w h' vs ks := ⟨R.vals, fun x hx => ik_kept (R.keys x hx) fun o => e x hx o, R.full, R.nd⟩
theorem sort_tups {a : Addr} {n : Nat} {P : PySem.Fin → Shared → Prop} (ho : s.heap.get? a = some (seqObj "list" vs.toArray n)) (R : Row prog w s.heap vs ks) (h64 : vs.length < 64)
    (h : ∀ p : Array Nat, PP ks.length p → Up (ltK ks) p ks.length → P (.done (.ret .none)) { s with heap := sortedHeap s.heap a vs (List.toArray (p.toList.map fun i => vs.getD i Value.none)) }) :
    wpAny (model prog w) A (Builtin.«list.sort» ⟨[.ref a], []⟩) P E s := by
  have la : a < s.heap.objs.size := Heap.lt_size ho
  have lk : ks.length = vs.length := by rw [R.vals, List.length_map]
  rw [list_sort_plain]
  refine wpAny_bind (listItems_at ho rfl ?_)
  refine wpAny_bind (listUpdate_at ho rfl ?_)
  obtain ⟨e1, ho1⟩ : ∃ e1, (s.heap.update a (Obj.mapSeq fun _ => #[])).get? a = some (seqObj "list" #[] e1) := ⟨_, get?_update_seq ho (fun _ => #[])⟩
  refine wpAny_bind (seqEpoch_at ho1 rfl ?_)
  refine wpAny_bind (wpAny_newTuple ?_)
  refine wpAny_bind (wpAny_newList ?_)
  refine wpAny_holding ?_
  have hoa : (((s.heap.update a (Obj.mapSeq fun _ => #[])).push (seqObj "tuple" vs.toArray 0)).push (seqObj "list" #[] 0)).get? a = some (seqObj "list" #[] e1) := Heap.get?_push_of_some _ (Heap.get?_push_of_some _ ho1)
  show wpAny (model prog w) A _ P E { s with heap := ((s.heap.update a (Obj.mapSeq fun _ => #[])).push (seqObj "tuple" vs.toArray 0)).push (seqObj "list" #[] 0) }
  dsimp only
  have vz : vs.toArray.size = vs.length := by simp
  by_cases h2 : vs.toArray.size < 2
  · rw [if_pos h2, if_pos h2]
    refine wpAny_bind (wpAny_pure ?_)
    rw [StateT.run_pure]
    refine wpAny_bind (wpAny_pure ?_)
    dsimp only
    have out : ((vs.toArray.zip vs.toArray).map (·.2)) = List.toArray ((List.toArray (List.range ks.length)).toList.map fun i => vs.getD i Value.none) := by
      apply Array.toList_inj.mp
      rw [Array.toList_map, Array.toList_zip, List.map_snd_zip (by simp), lk]
      apply List.ext_getElem?
      intro i
      by_cases c : i < vs.length
      · simp [c]
      · simp [c]
    refine wpAny_bind (seqEpoch_at hoa rfl ?_)
    refine wpAny_bind (listUpdate_at hoa rfl ?_ (hsz2 := by rw [Array.size_map, Array.size_zip, vz, sizeLine_eq]; omega))
    simp only [bne_self_eq_false, Bool.false_eq_true, if_false]
    refine wpAny_pure ?_
    rw [show (arrOf (SortSt.mk' general' (vs.toArray.zip vs.toArray) #[] 7 none)).map (·.2) = _ from out]
    exact h _ (pp_range _) fun x y hxy hy => absurd hxy (by omega)
  · rw [if_neg h2, if_neg h2]
    have R1 : Row prog w (((s.heap.update a (Obj.mapSeq fun _ => #[])).push (seqObj "tuple" vs.toArray 0)).push (seqObj "list" #[] 0)) vs ks := row_kept R fun x hx o gx => by
      have ne : x.2 ≠ a := fun e => by
        obtain ⟨o', _, _, go', co', _⟩ := R.keys x hx
        rw [e, ho] at go'
        cases go'
        have z : Value.type "list" = Value.type "tuple" := co'
        exact absurd z (by decide)
      exact Heap.get?_push_of_some _ (Heap.get?_push_of_some _ ((Heap.get?_update_other _ _ (Ne.symm ne)).trans gx))
    obtain ⟨fs, kt, lf, hfs⟩ := R1.tups
    refine wpAny_bind (kat_kind (s := { s with heap := ((s.heap.update a (Obj.mapSeq fun _ => #[])).push (seqObj "tuple" vs.toArray 0)).push (seqObj "list" #[] 0) }) (T := .type "int") kt (by omega) (fun v hv => by obtain ⟨n, t, rfl⟩ := hfs v hv; exact Looks.of_pure rfl) (by decide) ?_)
    refine wpAny_bind (wpAny_mono (kat_run (ks := vs) (Q := fun st' s' => ∃ p : Array Nat, PP ks.length p ∧ Up (ltK ks) p ks.length ∧ arrOf st' = p.map (kas_item (vs.toArray.zip vs.toArray)) ∧ failedOf st' = none ∧ s' = { s with heap := ((s.heap.update a (Obj.mapSeq fun _ => #[])).push (seqObj "tuple" vs.toArray 0)).push (seqObj "list" #[] 0) })
      (G := fun p s' => (PP ks.length p ∧ Up (ltK ks) p ks.length) ∧ s' = { s with heap := ((s.heap.update a (Obj.mapSeq fun _ => #[])).push (seqObj "tuple" vs.toArray 0)).push (seqObj "list" #[] 0) }) rfl (by omega) h64 (fun p st' s' _ a2 a3 a4 => ⟨p, a4.1.1, a4.1.2, a2, a3, a4.2⟩) ?_) ?_ fun _ _ e => e)
    · rw [← lk]
      refine kw_wp (lt := ltK ks) (n := ks.length) (fun i j C hi hj hc => ?_) (fun p hp => ⟨hp, rfl⟩) _ (sort_is R.tot (by omega))
      unfold kas_ask
      have gi : ∀ i, i < ks.length → vs.getD i Value.none = .ref (ks.getD i ([], 0)).2 ∧ IK prog w (((s.heap.update a (Obj.mapSeq fun _ => #[])).push (seqObj "tuple" vs.toArray 0)).push (seqObj "list" #[] 0)) (ks.getD i ([], 0)).1 (ks.getD i ([], 0)).2 := fun i hi => by
        have e : ks.getD i ([], 0) = ks[i] := by simp [List.getD_eq_getElem?_getD, hi]
        rw [e]
        refine ⟨?_, R1.keys _ (List.getElem_mem hi)⟩
        rw [R.vals]
        simp [List.getD_eq_getElem?_getD, hi]
      rw [(gi i hi).1, (gi j hj).1]
      exact tup_lt (gi i hi).2 (gi j hj).2 hc
    · rintro ⟨⟨⟩, st'⟩ s' ⟨p, P1, P2, har, hf, rfl⟩
      dsimp only
      have hout := kat_snds (ks := vs) (vs := vs) rfl har
      rw [hout]
      refine wpAny_bind (seqEpoch_at hoa rfl ?_)
      refine wpAny_bind (listUpdate_at hoa rfl ?_ (hsz2 := by rw [List.size_toArray, List.length_map, Array.length_toList, P1.size, sizeLine_eq]; omega))
      rw [hf]
      simp only [bne_self_eq_false, Bool.false_eq_true, if_false]
      exact wpAny_pure (h p P1 P2)
end
end ST
end
section
namespace ST
open PySem PySem.W PyProof.Rows
theorem perm_back {α β : Type} {f : α → β} {l m : List β} (p : l.Perm m) : ∀ ks : List α, m = ks.map f → ∃ ks' : List α, ks'.Perm ks ∧ l = ks'.map f := by
  induction p with
  | nil =>
    intro ks e
    cases ks with
    | nil => exact ⟨[], .refl _, rfl⟩
    | cons _ _ => cases e
  | @cons x l1 l2 _ ih =>
    intro ks e
    cases ks with
    | nil => cases e
    | cons k r =>
      rw [List.map_cons] at e
      obtain ⟨e1, e2⟩ := List.cons.inj e
      obtain ⟨r', p', e'⟩ := ih r e2
      exact ⟨k :: r', p'.cons k, by rw [List.map_cons, e1, e']⟩
  | swap x y l1 =>
    intro ks e
    match ks, e with
    | [], e => cases e
    | [_], e => simp at e
    | a :: b :: r, e =>
      rw [List.map_cons, List.map_cons] at e
      obtain ⟨e1, e2⟩ := List.cons.inj e
      obtain ⟨e3, e4⟩ := List.cons.inj e2
      exact ⟨b :: a :: r, List.Perm.swap .., by rw [List.map_cons, List.map_cons, e1, e3, e4]⟩
  | trans _ _ ih1 ih2 =>
    intro ks e
    obtain ⟨k2, p2, e2⟩ := ih2 ks e
    obtain ⟨k1, p1, e1⟩ := ih1 k2 e2
    exact ⟨k1, p1.trans p2, e1⟩
theorem pp_perm {n : Nat} {p : Array Nat} (P : PP n p) : p.toList.Perm (List.range n) := by
  refine ST.perm_of_sub ?_ (fun x hx => ?_) (by rw [List.length_range, Array.length_toList, P.size]; exact Nat.le_refl _)
  · refine List.pairwise_iff_getElem.mpr fun i j hi hj hij e => ?_
    have hi' : i < n := by rw [← P.size]; simpa using hi
    have hj' : j < n := by rw [← P.size]; simpa using hj
    have hi2 : i < p.size := by simpa using hi
    have hj2 : j < p.size := by simpa using hj
    have := P.inj i j hi' hj' (by simpa [g, Array.getD, hi2, hj2] using e)
    omega
  · obtain ⟨i, hi, rfl⟩ := List.mem_iff_getElem.mp hx
    have hi2 : i < p.size := by simpa using hi
    have := P.lt i (by rw [← P.size]; exact hi2)
    refine List.mem_range.mpr ?_
    simpa [g, Array.getD, hi2] using this
section
variable {prog : Program} {w : World} {A : Around} {E : Value → Shared → Prop} {s : Shared} {S : Addr} {es : Array (Int × Value)} {t : SetTable} {ks : List (List Int × Addr)}
theorem collect_set {Q : List Value → Shared → Prop} {o : Obj} {ep : Nat} (hh : A.handled = none) (ho : s.heap.get? S = some o) (hex : o.ExactSet) (hd : o.data = .set es ep t) (T : Tab t) (hl : es.size = t.place.size) (hp : t.plain = true) (hled : t.led = ledOf w) (h61 : es.size ≤ 61)
    (q : ∀ (h' : Heap) (tk : Nat) (acc : Array Value), (∀ b ob, s.heap.get? b = some ob → h'.get? b = some ob) → s.heap.objs.size ≤ h'.objs.size → acc.toList.map (fun v => v) = (ord w S ep es).toList.map (·.2) → Q acc.toList { s with heap := h', toks := tk }) :
    wpAny (model prog w) A (collect (.ref S)) Q E s := by
  unfold collect
  refine wpAny_bind (wpAny_runValue (codeAny_builtin PySem.F.entry_proto_collect ?_))
  rw [Around.under_plainId PySem.F.plain_proto_collect _]
  show wpAny _ A.in1 (newList [] >>= fun l => again (.builtin "list.__iadd__" ⟨[l, .ref S], []⟩)) _ _ s
  refine wpAny_bind (wpAny_newObj_type ?_)
  refine wpAny_pure ⟨plainId_quiet PySem.F.plain_list_iadd _, codeAny_builtin PySem.F.entry_list_iadd ?_⟩
  rw [Around.under_plainId PySem.F.plain_list_iadd _]
  have gD : (s.heap.push { cls := .type "list", data := .seq ([] : List Value).toArray }).get? s.heap.objs.size = some { cls := .type "list", data := .seq #[] 0 } := Heap.get?_push_size _ rfl
  show wpAny _ A.in1 (Builtin.List.listExtendWith (.ref s.heap.objs.size) (.ref S) (.ref s.heap.objs.size)) _ _ _
  have fin' : ∀ (h' : Heap) (tk : Nat) (acc' : Array Value) (c' : Nat), (∀ b ob, b ≠ s.heap.objs.size → (s.heap.push { cls := .type "list", data := .seq ([] : List Value).toArray }).get? b = some ob → h'.get? b = some ob) → h'.get? s.heap.objs.size = some { cls := .type "list", dict := none, data := .seq acc' c', slots := #[] } →
      ItemsOf (fun i v => ∃ e, (ord w S ep es)[i]? = some e ∧ v = e.2) acc' es.size → wpAny (model prog w) A (match Value.ref s.heap.objs.size with
      | Value.ref a => do
        match (← load a).data with
          | Data.seq xs _ => pure xs.toList
          | _ => unsupported "internal:collect"
      | _ => unsupported "internal:collect") Q E { s with heap := h', toks := tk } := fun h' tk acc' c' hk hS' hacc => by
    show wpAny _ A (load s.heap.objs.size >>= _) _ _ _
    refine wpAny_bind (wpAny_load hS' ?_)
    refine wpAny_pure ?_
    refine q h' tk acc' (fun b ob e => hk b ob (Nat.ne_of_lt (Heap.lt_size e)) (Heap.get?_push_of_some _ e)) (Nat.le_of_lt (Heap.lt_size hS')) ?_
    rw [List.map_id']
    apply List.ext_getElem?
    intro i
    rw [List.getElem?_map, Array.getElem?_toList, Array.getElem?_toList]
    by_cases c : i < es.size
    · have c1 : i < acc'.size := by rw [hacc.1]; exact c
      obtain ⟨e, ge, ev⟩ := hacc.2 i _ (Array.getElem?_eq_getElem c1)
      rw [Array.getElem?_eq_getElem c1, ge, ev]
      rfl
    · rw [Array.getElem?_eq_none (by rw [hacc.1]; omega), Array.getElem?_eq_none (by rw [ord_size]; omega)]
      rfl
  refine wpAny_mono (extend_set (A := A) (R := fun r s' => ∃ h' tk acc' c', r = .ok (.ret (.ref s.heap.objs.size)) ∧ s' = { s with heap := h', toks := tk } ∧ (∀ b ob, b ≠ s.heap.objs.size → (s.heap.push { cls := .type "list", data := .seq ([] : List Value).toArray }).get? b = some ob → h'.get? b = some ob) ∧ h'.get? s.heap.objs.size = some { cls := .type "list", dict := none, data := .seq acc' c', slots := #[] } ∧ ItemsOf (fun i v => ∃ e, (ord w S ep es)[i]? = some e ∧ v = e.2) acc' es.size)
    (s := { s with heap := s.heap.push { cls := .type "list", data := .seq ([] : List Value).toArray } }) hh (Heap.get?_push_of_some _ ho) hex hd T hl hp hled h61 s.heap.objs.size (.ref s.heap.objs.size) 0 gD fun h' tk acc' c' hk hS' hacc => ⟨h', tk, acc', c', rfl, rfl, hk, hS', hacc⟩) (fun fin s' h => ?_) (fun e s' h => ?_)
  · cases fin with
    | done f =>
      obtain ⟨h', tk, acc', c', e, rfl, hk, hS', hacc⟩ := h
      cases e
      exact fin' h' tk acc' c' hk hS' hacc
    | again c' => exact ⟨h.1, codeAny_mono h.2 fun r s'' hr => by obtain ⟨h', tk, acc', c', rfl, rfl, hk, hS', hacc⟩ := hr; exact fin' h' tk acc' c' hk hS' hacc⟩
  · obtain ⟨_, _, _, _, e, _⟩ := h
    cases e
theorem sorted_set (hh : A.handled = none) (X : TS prog w s.heap S es t ks) (hK : ∀ x ∈ ks, IK prog w s.heap x.1 x.2) (hf : ∀ x ∈ ks, x.1 ≠ []) (h61 : ks.length ≤ 61) {Q : Value → Shared → Prop}
    (q : ∀ (h' : Heap) (tk : Nat) (D : Addr) (ko : List (List Int × Addr)) (e : Nat), (∀ b ob, s.heap.get? b = some ob → h'.get? b = some ob) → s.heap.objs.size ≤ D → h'.get? D = some (seqObj "list" (ko.map fun x => Value.ref x.2).toArray e) → ko.Perm ks → (ko.map (·.1)).Pairwise (fun a b => HT.lexLt a b = true) → Q (.ref D) { s with heap := h', toks := tk }) :
    wpAny (model prog w) A (call (.builtin "sorted") [.ref S]) Q E s := by
  obtain ⟨o, ep, ho, hex, hd⟩ := X.obj
  have lks : ks.length = es.size := by
    have := congrArg List.length X.els
    rw [List.length_map, Array.length_toList] at this
    exact this.symm
  refine Calls.call_function_entry kind_sorted plain_sorted entry_sorted (args_sorted1 _) ?_
  unfold Builtin.«sorted»
  refine wpAny_bind (m := checkCount "sorted" 1 1 _) (wpAny_pure ?_)
  refine wpAny_bind (collect_set (A := A.in1) (by simp [hh]) ho hex hd X.tab X.len X.pl X.ld (by omega) fun h1 tk1 acc kp hsz hacc => ?_)
  have op := ord_perm w S ep es
  rw [X.els] at op
  obtain ⟨k1, p1, e1⟩ := perm_back op ks rfl
  rw [e1, List.map_id', List.map_map] at hacc
  have hvs : acc.toList = k1.map fun x => Value.ref x.2 := hacc
  generalize hv : acc.toList = vs at hvs
  have lvs : vs.length = ks.length := by rw [hvs, List.length_map, p1.length_eq]
  refine wpAny_bind (wpAny_newList ?_ (by rw [sizeLine_eq]; omega))
  have hoL : (h1.push (seqObj "list" vs.toArray 0)).get? h1.objs.size = some (seqObj "list" vs.toArray 0) := Heap.get?_push_size _ rfl
  have kp2 : ∀ b ob, s.heap.get? b = some ob → (h1.push (seqObj "list" vs.toArray 0)).get? b = some ob := fun b ob e => Heap.get?_push_of_some _ (kp b ob e)
  have R : Row prog w (h1.push (seqObj "list" vs.toArray 0)) vs k1 := ⟨hvs, fun x hx => ik_kept (hK x (p1.mem_iff.mp hx)) fun ob e => kp2 _ ob e, fun x hx => hf x (p1.mem_iff.mp hx), (List.Perm.nodup_iff (p1.map (·.1))).mpr X.nd⟩
  refine wpAny_bind (wpAny_holding (wpAny_call_entry slot_list_sort ⟨_, hoL, rfl⟩ entry_list_sort (sort_tups (s := { s with heap := h1.push (seqObj "list" vs.toArray 0), toks := tk1 }) hoL R (by omega) fun p P1 P2 => ⟨_, rfl, ?_⟩) (args_list_sort _)))
  refine wpAny_pure ⟨_, rfl, ?_⟩
  obtain ⟨e, he⟩ := sortedHeap_at (out := List.toArray (p.toList.map fun i => vs.getD i Value.none)) hoL
  have lk1 : k1.length = ks.length := p1.length_eq
  have eo : (p.toList.map fun i => vs.getD i Value.none) = (p.toList.map fun i => k1.getD i ([], 0)).map fun x => Value.ref x.2 := by
    rw [List.map_map]
    refine List.map_congr_left fun i hi => ?_
    have hi' : i < k1.length := List.mem_range.mp ((pp_perm P1).mem_iff.mp hi)
    rw [hvs]
    simp [List.getD_eq_getElem?_getD, hi']
  rw [eo] at he ⊢
  have pk : (p.toList.map fun i => k1.getD i ([], 0)).Perm k1 := by
    have z := ST.pick_perm (l := k1) (pp_perm P1)
    rw [ST.pick_map ([], 0) fun i hi => List.mem_range.mp ((pp_perm P1).mem_iff.mp hi)] at z
    exact z
  refine q _ tk1 h1.objs.size _ e (fun b ob eb => ?_) hsz he (pk.trans p1) ?_
  · have hb := Heap.lt_size (kp b ob eb)
    rw [sortedHeap_old (Nat.ne_of_lt hb) (by rw [Heap.size_push]; exact Nat.lt_succ_of_lt hb)]
    exact kp2 b ob eb
  · rw [List.map_map]
    refine List.pairwise_iff_getElem.mpr fun i j hi hj hij => ?_
    have hi' : i < p.size := by simpa using hi
    have hj' : j < p.size := by simpa using hj
    have z := P2 i j hij (by rw [← P1.size]; exact hj')
    unfold ltK g at z
    simpa [Array.getD, hi', hj'] using z
end
end ST
end
section
namespace L2
open PySem PySem.Spec PyProof.Rows
theorem items_of {prog : Program} {w : World} : ∀ {ns : List Int} {us : List Value}, Vals (ns.map V.int) us → ItemsAre (intKind prog w) ns us
  | [], _, .nil => .nil
  | n :: ns, _, .cons ⟨t, e⟩ r => by
    subst e
    exact .cons (intKind_is prog w n t) (items_of r)
section
variable {X : Cx} {e : Expr} {te : TE} {p1 p2 pos pos2 : Pos}
theorem ik_of {pins : List (Addr × Obj)} {σ : St} {H : Hp} {s : Shared} (I : Inv X pins σ H s) {b : Addr} {ns : List Int} (h : SqT X.K H b (ns.map V.int)) : ST.IK X.prog X.w s.heap ns b := by
  obtain ⟨its, r, ⟨o, ho, hc, n, hd⟩, _⟩ := I.tuple h
  exact ⟨o, its.toArray, n, ho, hc, hd, by simpa using items_of r⟩
end
end L2
end
section
namespace ST
open PySem PySem.W PyProof.Rows
structure RowE (prog : Program) (w : World) (h : Heap) (vs : List Value) (ks : List (List Int × Addr)) : Prop where
  vals : vs = ks.map fun x => Value.ref x.2
  keys : ∀ x ∈ ks, IK prog w h x.1 x.2
  nd : (ks.map (·.1)).Nodup
section
variable {prog : Program} {w : World} {A : Around} {E : Value → Shared → Prop} {s : Shared} {vs : List Value} {ks : List (List Int × Addr)}
end
section
variable {prog : Program} {w : World} {A : Around} {E : Value → Shared → Prop} {s : Shared} {S : Addr} {es : Array (Int × Value)} {t : SetTable} {ks : List (List Int × Addr)}
end
end ST
end
section
namespace L2
open PySem PySem.Spec PyProof.Rows
section
variable {X : Cx} {e : Expr} {te : TE} {p1 p2 pos pos2 : Pos}
end
end L2
end
section
namespace SI
open PySem PySem.SetTable ST PyProof.Rows
structure IS (prog : Program) (w : World) (h : Heap) (S : Addr) (es : Array (Int × Value)) (t : SetTable) (ks : List Int) : Prop where
  obj : ∃ o ep, h.get? S = some o ∧ o.ExactSet ∧ o.data = .set es ep t
  tab : Tab t
  len : es.size = t.place.size
  els : ElemsOf (intKind prog w) es.toList
  int : IntsAre (es.toList.map (·.2)) ks
  nd : ks.Nodup
  few : t.place.size * 5 < t.mask * 3
  pl : t.plain = true
  ld : t.led = ledOf w
section
variable {prog : Program} {w : World} {A : Around} {E : Value → Shared → Prop} {s : Shared} {S : Addr} {es : Array (Int × Value)} {t : SetTable} {ks : List Int}
end
end SI
end
section
namespace SI
open PySem PySem.SetTable ST
open PyProof.Rows (IntsAre)
section
variable {prog : Program} {w : World} {A : Around} {s : Shared}
end
section
variable {prog : Program} {w : World} {A : Around} {E : Value → Shared → Prop} {s : Shared}
end
end SI
end
section
namespace SI
open PySem PySem.SetTable ST PyProof.Rows
section
variable {prog : Program} {w : World} {A : Around} {E : Value → Shared → Prop} {s : Shared} {S : Addr} {es : Array (Int × Value)} {t : SetTable} {ks : List Int}
end
end SI
end
section
namespace L2
open PySem PySem.Spec PyProof.Rows
section
variable {X : Cx} {e : Expr} {te : TE} {p1 p2 pos pos2 : Pos}
end
end L2
end
section
namespace SI
open PySem PySem.SetTable ST PyProof.Rows
section
variable {prog : Program} {w : World} {A : Around} {E : Value → Shared → Prop} {s : Shared} {S S2 : Addr} {es es2 : Array (Int × Value)} {t t2 : SetTable} {ks ks2 : List Int}
end
end SI
end
section
namespace SI
open PySem PySem.SetTable ST PyProof.Rows
section
variable {prog : Program} {w : World} {A : Around} {E : Value → Shared → Prop} {s : Shared} {S S2 : Addr} {es es2 : Array (Int × Value)} {t t2 : SetTable} {ks ks2 : List Int}
end
end SI
end
section
namespace L2
open PySem PySem.Spec PyProof.Rows
section
variable {X : Cx} {e1 e2 : Expr} {t1 t2 : TE} {p1 p2 pos1 pos2 : Pos}
end
end L2
end
section
namespace L2
open PySem PySem.Spec PyProof.Rows
section
variable {X : Cx} {K : PySem.W.Frag}
end
end L2
end
section
namespace L2
open PySem PySem.Spec PyProof.Rows
section
variable {X : Cx}
end
end L2
end
section
namespace L2
open PySem PySem.Spec PyProof.Rows
section
variable {X : Cx}
end
end L2
end
section
namespace HT
open PySem PyProof.Rows
section
open PySem.SeqAt
open PySem.AutoSeq1 (wpAny_loadPart')
open PySem.MeetsSeq PySem.MeetsSeq2 PySem.MeetsSeq3
end
end HT
end
section
namespace ST
open PySem PySem.W PyProof.Rows
def PK (h : Heap) (k : List Int) (a : Addr) : Prop := ∃ (l v : Addr) (its : Array Value), IsTup h a #[.ref l, .ref v] ∧ h.IsList l its ∧ IntsAre its.toList k
structure RowP (h : Heap) (vs : List Value) (ks : List (List Int × Addr)) (m : Nat) : Prop where
  vals : vs = ks.map fun x => Value.ref x.2
  keys : ∀ x ∈ ks, PK h x.1 x.2
  nd : (ks.map (·.1)).Nodup
  len : ∀ x ∈ ks, x.1.length = m
section
variable {prog : Program} {w : World} {A : Around} {E : Value → Shared → Prop} {s : Shared} {vs : List Value} {ks : List (List Int × Addr)}
end
end ST
end
section
namespace L2
open PySem PySem.Spec PyProof.Rows
section
variable {X : Cx} {α β : Type} [DecidableEq α] [DecidableEq β] {n : Nat} {R : Rep α} {S : Rep β}
end
section
variable {X : Cx}
end
end L2
end
section
namespace ST
open PySem PySem.SetTable
section
variable {prog : Program} {w : World} {A : Around} {s : Shared}
theorem upd_loopU {R : Result → Shared → Prop} {I : Addr} {fp wr : List Addr} {G : Array GenState → Array GenState → Prop} {n : Nat} {P : Nat → Value → Prop} {St : Nat → Shared → Prop}
    (W : WalksS prog w A.in1 I fp wr G n P St) (S : Addr) (hSf : S ∉ fp) (vals : Nat → List Int × Addr) (hP : ∀ i v, P i v → v = .ref (vals i).2) (hn : ∀ ks : List (List Int × Addr), (∀ x ∈ ks, ∃ j, j < n ∧ x = vals j) → (ks.map (·.1)).Nodup → ks.length ≤ 60) (hoff : ∀ i, i < n → (vals i).2 ∉ S :: wr) (hu : A.in1.units < cLine)
    (hR : ∀ s' es' t' ks', TS prog w s'.heap S es' t' ks' → Of vals n ks' → Moved (S :: wr) G s s' → R (.ok (.ret .none)) s') :
    ∀ (k i : Nat) (s₁ : Shared) (es : Array (Int × Value)) (t : SetTable) (ks : List (List Int × Addr)), n - i = k → i ≤ n → St i s₁ → TS prog w s₁.heap S es t ks → (∀ j, j < n → IK prog w s₁.heap (vals j).1 (vals j).2) → Of vals i ks → Moved (S :: wr) G s s₁ →
      codeAny (model prog w) A (.builtin "set.update.loop" ⟨[.ref S, .ref I], []⟩) R s₁ := by
  have nSw : S ∉ wr := fun h => hSf (W.sub _ h)
  have inS : ∀ b ∈ wr, b ∈ S :: wr := fun b hb => List.mem_cons_of_mem _ hb
  intro k
  induction k with
  | zero =>
    intro i s₁ es t ks hk hi hst X hK O mv
    obtain rfl : i = n := by omega
    refine codeAny_builtin PyProof.Rows.F.entry_set_update_loop ?_
    rw [Around.under_plainId PyProof.Rows.F.plain_set_update_loop _]
    show wpAny _ A.in1 (pyNext (.ref I) >>= _) _ _ s₁
    refine wpAny_bind (W.done s₁ _ _ hst fun s₂ m2 => ?_)
    show wpAny _ A.in1 (ret Value.none) _ _ s₂
    exact wpAny_pure (hR s₂ es t ks (ts_kept X fun o e => m2.heap S o nSw e) O (Moved.trans W.gtrans mv (m2.mono inS)))
  | succ k ih =>
    intro i s₁ es t ks hk hi hst X hK O mv
    have lt : i < n := by omega
    refine codeAny_builtin PyProof.Rows.F.entry_set_update_loop ?_
    rw [Around.under_plainId PyProof.Rows.F.plain_set_update_loop _]
    show wpAny _ A.in1 (pyNext (.ref I) >>= _) _ _ s₁
    refine wpAny_bind (W.item i s₁ _ _ lt hst fun v s₂ pv st2 m2 => ?_)
    obtain rfl := hP i v pv
    have X2 : TS prog w s₂.heap S es t ks := ts_kept X fun o e => m2.heap S o nSw e
    have hK2 : ∀ j, j < n → IK prog w s₂.heap (vals j).1 (vals j).2 := fun j hj => ik_kept (hK j hj) fun o e => m2.heap _ o (fun z => hoff j hj (inS _ z)) e
    show wpAny _ A.in1 (holding [Value.ref (vals i).2] (setAdd S (.ref (vals i).2)) >>= _) _ _ s₂
    refine wpAny_bind (wpAny_holding (add_is X2 (fun x hx => ?_) (hK2 i lt) hu (hn ks (fun x hx => let ⟨j, hj, e⟩ := O.sub x hx; ⟨j, by omega, e⟩) X2.nd) fun b h' es' t' ks' sb X' ad => ?_))
    · obtain ⟨j, hj, rfl⟩ := O.sub x hx
      exact hK2 j (by omega)
    · refine wpAny_pure ⟨plainId_quiet PyProof.Rows.F.plain_set_update_loop _, ih (i + 1) _ es' t' ks' (by omega) lt (W.frame _ s₂ _ _ st2 (Nat.le_add_right _ _) fun b hb o e => ?_) X' (fun j hj => ik_kept (hK2 j hj) fun o e => ?_) (O.next ad) ?_⟩
      · rw [sb.2 b (fun (z : b = S) => hSf (by rw [← z]; exact hb))]
        exact e
      · rw [sb.2 _ (fun (z : (vals j).2 = S) => hoff j hj (by rw [z]; exact List.mem_cons_self))]
        exact e
      · refine Moved.trans W.gtrans mv ((m2.mono inS).then_heap (Nat.le_add_right _ _) fun b o hb e => ?_)
        rw [sb.2 b (fun (z : b = S) => hb (by rw [z]; exact List.mem_cons_self))]
        exact e
end
section
variable {prog : Program} {w : World} {A : Around} {E : Value → Shared → Prop} {s : Shared}
theorem set_ofU {l : Addr} {items : Array Value} {vals : Nat → List Int × Addr} {Q : Value → Shared → Prop} (hh : A.handled = none) (hu : A.units + 6 < cLine) (hl : s.heap.IsList l items) (hv : ∀ (i : Nat) (v : Value), items[i]? = some v → v = Value.ref (vals i).2)
    (hK : ∀ j, j < items.size → IK prog w s.heap (vals j).1 (vals j).2) (h61 : ∀ ks : List (List Int × Addr), (∀ x ∈ ks, ∃ j, j < items.size ∧ x = vals j) → (ks.map (·.1)).Nodup → ks.length ≤ 60)
    (q : ∀ h' tk es t ks, TS prog w h' s.heap.objs.size es t ks → Of vals items.size ks → (∀ b o, s.heap.get? b = some o → h'.get? b = some o) → Q (.ref s.heap.objs.size) { s with heap := h', toks := tk }) :
    wpAny (model prog w) A (call (.type "set") [.ref l]) Q E s := by
  obtain ⟨c, tl, hmro⟩ := F.called_set.mro
  have made := F.called_set.made
  have ssub := F.called_set.sub
  have nt := F.called_set.notType
  have cc := F.called_set.canCreate
  have tc := F.typeCall_set_1 (.ref l)
  refine wpAny_call (codeAny_of_tree ?_)
  show wpAny _ _ (callAny (.type "set") _) _ _ _
  refine wpAny_pure ⟨Code.quiet_builtin _ (by decide +kernel), codeAny_builtin F.entry_type_call ?_⟩
  rw [Around.under_plain (weight_type_call_type "set" [.ref l] []) rfl]
  repeat (any_goals (first | assumption | wp_step))
  refine codeAny_mono (code_new (.ref l) (E := E) (Q₁ := fun obj s₁ => ∃ led : Bool, led = ledOf w ∧ obj = .ref s.heap.objs.size ∧ s₁ = { s with heap := s.heap.push { cls := .type "set", dict := none, data := .set #[] 0 (.fresh 0 0 led) } }) ⟨_, rfl, rfl, rfl⟩) fun r s₁ hr => ?_
  cases r with
  | error e => exact hr
  | ok fl =>
    cases fl with
    | ret obj =>
      obtain ⟨led, hled, rfl, rfl⟩ := hr
      have gS : (s.heap.push { cls := .type "set", dict := none, data := .set #[] 0 (.fresh 0 0 led) }).get? s.heap.objs.size = some { cls := .type "set", dict := none, data := .set #[] 0 (.fresh 0 0 led) } := Heap.get?_push_size _ rfl
      have tS : Shared.TypeIs { s with heap := s.heap.push { cls := .type "set", dict := none, data := .set #[] 0 (.fresh 0 0 led) } } (.ref s.heap.objs.size) "set" := ⟨_, gS, rfl⟩
      have il := F.called_set.init.lookup
      have ib := F.called_set.init.bind (.ref s.heap.objs.size)
      repeat (any_goals (first | assumption | wp_step))
      refine codeAny_mono (codeAny_call_builtin (R := wants (fun r s₂ => r = .none ∧ ∃ h' tk es t ks, s₂ = { s with heap := h', toks := tk } ∧ TS prog w h' s.heap.objs.size es t ks ∧ Of vals items.size ks ∧ (∀ b o, s.heap.get? b = some o → h'.get? b = some o)) E) F.called_set.init.plain F.entry_set_init (check_set_init_1 tS ?_)) fun r₂ s₂ hr₂ => ?_
      · obtain ⟨⟨ocls, odict, odata, oslots⟩, hol, hcl, nl, hdl⟩ := id hl
        simp only at hcl hdl
        subst hcl hdl
        have hol2 : (s.heap.push { cls := .type "set", dict := none, data := .set #[] 0 (.fresh 0 0 led) }).get? l = some { cls := .type "list", dict := odict, data := .seq items nl, slots := oslots } := Heap.get?_push_of_some _ hol
        have s1 := F.sub_list_set
        have s2 := F.sub_list_frozenset
        have s3 : (Value.type "list" == Value.type "dict") = false := by decide
        have hl1 : (s.heap.push { cls := .type "set", dict := none, data := .set #[] 0 (.fresh 0 0 led) }).IsList l items := ⟨_, hol2, rfl, nl, rfl⟩
        unfold Builtin.«set.__init__» noKeywords Builtin.Frozenset.updateFrom
        generalize hPI : pyIter = PI
        wp_walk
        subst hPI
        refine wpAny_pyIter_list hl1 ?_
        refine wpAny_bind (wpAny_runValue ?_)
        have ll : l < s.heap.objs.size := Heap.lt_size hol
        have h3 : A.in1.in1.in1.handled = none := by simp [hh]
        have nI : l ≠ (s.heap.push { cls := .type "set", dict := none, data := .set #[] 0 (.fresh 0 0 led) }).objs.size := by
          rw [Heap.size_push]
          exact Nat.ne_of_lt (Nat.lt_succ_of_lt ll)
        have nS : s.heap.objs.size ∉ [(s.heap.push { cls := .type "set", dict := none, data := .set #[] 0 (.fresh 0 0 led) }).objs.size, l] := by
          rw [Heap.size_push]
          simp only [List.mem_cons, List.mem_singleton, List.not_mem_nil, or_false, not_or]
          exact ⟨Nat.ne_of_lt (Nat.lt_succ_self _), Nat.ne_of_gt ll⟩
        have lows : ∀ j, j < items.size → (vals j).2 < s.heap.objs.size := fun j hj => by
          obtain ⟨o, _, _, ho, _⟩ := hK j hj
          exact Heap.lt_size ho
        have old2 : ∀ (x : Obj) b o, s.heap.get? b = some o → ((s.heap.push { cls := .type "set", dict := none, data := .set #[] 0 (.fresh 0 0 led) }).push x).get? b = some o := fun x b o e => Heap.get?_push_of_some _ (Heap.get?_push_of_some _ e)
        refine upd_loopU (s := _) ((Walks.list h3 _ l nI items).toS) s.heap.objs.size nS vals hv h61 (fun j hj z => ?_) ?_ (fun s' es' t' ks' X' O' mv => ?_) (items.size - 0) 0 _ #[] (.fresh 0 0 led) [] (by omega) (Nat.zero_le _)
          ⟨⟨_, Heap.get?_push_size _ rfl, rfl, rfl⟩, (hl1.push _)⟩ (fresh_ts hled (Heap.get?_push_of_some _ gS)) (fun j hj => ik_kept (hK j hj) fun o e => old2 _ _ _ e) ⟨fun x hx => (by cases hx), fun j hj => absurd hj (by omega), Nat.le_refl _⟩ (Moved.refl fun _ => rfl)
        · have := lows j hj
          rw [Heap.size_push] at z
          simp only [List.mem_cons, List.mem_singleton, List.not_mem_nil, or_false] at z
          rcases z with z | z
          · exact absurd z (Nat.ne_of_lt this)
          · exact absurd z (Nat.ne_of_lt (Nat.lt_succ_of_lt this))
        · show A.units + 1 + 1 + 1 < cLine
          omega
        · obtain ⟨h', g', d', tk', os'⟩ := s'
          have eg : g' = s.gens := mv.gens
          have ed : d' = s.drawn := mv.drawn
          have eo : os' = s.os := mv.os
          subst eg ed eo
          show wpAny _ _ _ _ _ _
          refine wpAny_pure ?_
          show wpAny _ _ (ret Value.none) _ _ _
          refine wpAny_pure ⟨rfl, h', tk', es', t', ks', rfl, X', O', fun b o e => ?_⟩
          have hb := Heap.lt_size e
          refine mv.heap b o ?_ (old2 _ b o e)
          rw [Heap.size_push]
          simp only [List.mem_cons, List.mem_singleton, List.not_mem_nil, or_false, not_or]
          exact ⟨Nat.ne_of_lt hb, Nat.ne_of_lt (Nat.lt_succ_of_lt hb)⟩
      · cases r₂ with
        | error e => exact hr₂
        | ok fl₂ =>
          cases fl₂ with
          | ret r =>
            obtain ⟨rfl, h', tk, es, t, ks, rfl, X', O', kp⟩ := hr₂
            repeat (any_goals (first | assumption | wp_step))
            exact q _ _ _ _ _ X' O' kp
          | _ => exact hr₂.elim
    | _ => exact hr.elim
end
end ST
namespace L2
open PySem PySem.Spec PyProof.Rows
section
variable {X : Cx} {e : Expr} {te : TE} {p1 p2 pos pos2 : Pos}
def tSortSetU (K : PySem.W.Frag) (te : TE) : TE := fun σ H Q => te σ H fun v H1 => ∃ a xs rs, v = .ref a ∧ SqL K H1 a xs ∧ Paired (rPair K H1) rs xs ∧ (∀ ms : List (List Int), ms.Nodup → (∀ m ∈ ms, m ∈ rs) → ms.length ≤ 60) ∧ (∀ r ∈ rs, r ≠ []) ∧
  ∀ l ys ms, H1 l = none → ms.Pairwise (fun a b => HT.lexLt a b = true) → (∀ r, r ∈ ms ↔ r ∈ rs) → Paired (rPair K H1) ms ys → Paired (fun m y => ∃ i : Nat, rs[i]? = some m ∧ xs[i]? = some y) ms ys → Q (.ref l) (upd H1 l (.lst ys))
theorem pe_sortsetU (hc : X.calm = true) (hu : X.A.units + 7 < cLine) (hg : Gl X "sorted") (hm : X.mg "sorted" = none) (hg2 : Gl X "set") (hm2 : X.mg "set" = none) (he : PE X e te)
    (hv : bootBuiltins "sorted" = some (.builtin "sorted") := by exact PyProof.Rows.boot_sorted) (hv2 : bootBuiltins "set" = some (.type "set") := by decide +kernel)
    (s1 : starEach [e] X.env = (false, eval e X.env) :: starEach [] X.env := by rfl)
    (s2 : starEach [.Call (.Name "set" p2) [e] [] pos2] X.env = (false, eval (.Call (.Name "set" p2) [e] [] pos2) X.env) :: starEach [] X.env := by rfl) :
    PE X (.Call (.Name "sorted" p1) [.Call (.Name "set" p2) [e] [] pos2] [] pos) (tSortSetU X.K te) := by
  intro pins s σ H Q I h
  refine wpAny_Call_Name_kw (ld_blt I hg hm hv ?_ (by decide) (by decide))
  refine PyProof.Rows.callWith_builtin1 ?_ s2 rfl
  rw [s2]
  show wpAny _ _ (spliced ((false, eval (.Call (.Name "set" p2) [e] [] pos2) X.env) :: backTo pos (starEach [] X.env))) _ _ s
  refine Calls.spliced_cons ?_
  refine wpAny_Call_Name_kw (ld_blt I hg2 hm2 hv2 ?_ (by decide) (by decide))
  refine PyProof.Rows.callWith_type1 ?_ s1 rfl
  rw [s1]
  show wpAny _ _ (spliced ((false, eval e X.env) :: backTo pos2 (starEach [] X.env))) _ _ s
  refine Calls.spliced_cons (thn (he pins s σ H _ I h) fun u s1 ⟨x, H1, I1, r1, q1⟩ => ?_)
  refine Calls.spliced_nil ?_
  obtain ⟨a, xs, rs, rfl, ha, pr, h61, hne, q⟩ := q1
  cases r1
  obtain ⟨its, r, pl, _⟩ := I1.list ha
  have lx := r.length
  have lr := Paired.length pr
  have hl := pl.isList
  have at_ : ∀ i : Nat, i < its.length → ∃ b ns, its[i]? = some (.ref b) ∧ xs[i]? = some (.ref b) ∧ rs[i]? = some ns ∧ rPair X.K H1 ns (.ref b) := fun i hi => by
    have hx : i < xs.length := by omega
    obtain ⟨ns, hns, rp⟩ := Paired.get pr (List.getElem?_eq_getElem hx)
    obtain ⟨b, eb, hb⟩ := rPair_seq rp
    obtain ⟨u, hu', ru⟩ := r.get (List.getElem?_eq_getElem hx)
    rw [eb] at ru rp
    cases ru
    exact ⟨b, ns, hu', by rw [List.getElem?_eq_getElem hx, eb], hns, rp⟩
  have pick : ∃ vals : Nat → List Int × Addr, ∀ i : Nat, i < its.length → its[i]? = some (.ref (vals i).2) ∧ rs[i]? = some (vals i).1 ∧ rPair X.K H1 (vals i).1 (.ref (vals i).2) ∧ xs[i]? = some (.ref (vals i).2) := by
    refine ⟨fun i => if h : i < its.length then (Classical.choose (Classical.choose_spec (at_ i h)), Classical.choose (at_ i h)) else ([], 0), fun i hi => ?_⟩
    have z := Classical.choose_spec (Classical.choose_spec (at_ i hi))
    dsimp only
    rw [dif_pos hi]
    exact ⟨z.1, z.2.2.1, z.2.2.2, z.2.1⟩
  obtain ⟨vals, hvals⟩ := pick
  have hsz : its.toArray.size = its.length := by simp
  have few : ∀ ks : List (List Int × Addr), (∀ x ∈ ks, ∃ j, j < its.length ∧ x = vals j) → (ks.map (·.1)).Nodup → ks.length ≤ 60 := fun ks hs hn => by
    have := h61 (ks.map (·.1)) hn fun m hm => by
      obtain ⟨x, hx, rfl⟩ := List.mem_map.mp hm
      obtain ⟨j, hj, rfl⟩ := hs x hx
      exact List.mem_of_getElem? (hvals j hj).2.1
    rwa [List.length_map] at this
  refine ST.set_ofU (items := its.toArray) (vals := vals) (I1.ok.hd hc) (by omega) hl (fun i v hv => ?_) (fun j hj => ?_) (by rw [hsz]; exact few) fun h' tk es t ks T O kp => ?_
  · have hi : i < its.length := by
      have := (Array.getElem?_eq_some_iff.mp hv).1
      rw [hsz] at this
      exact this
    have z := (hvals i hi).1
    have hv' : its[i]? = some v := by simpa using hv
    rw [hv'] at z
    exact Option.some.inj z
  · rw [hsz] at hj
    obtain ⟨b, eb, hb⟩ := rPair_seq (hvals j hj).2.2.1
    cases eb
    exact ik_of I1 hb
  refine Calls.spliced_nil ?_
  rw [hsz] at O
  have hK : ∀ x ∈ ks, ST.IK X.prog X.w h' x.1 x.2 := fun x hx => by
    obtain ⟨j, hj, rfl⟩ := O.sub x hx
    obtain ⟨b, eb, hb⟩ := rPair_seq (hvals j hj).2.2.1
    cases eb
    exact ST.ik_kept (ik_of I1 hb) fun o e => kp _ o e
  have inrs : ∀ j, j < its.length → (vals j).1 ∈ rs := fun j hj => List.mem_of_getElem? (hvals j hj).2.1
  have hSz : s1.heap.objs.size ≤ h'.objs.size := by
    obtain ⟨o, _, ho, _⟩ := T.obj
    exact Nat.le_of_lt (Heap.lt_size ho)
  refine ST.sorted_set (s := { s1 with heap := h', toks := tk }) (I1.ok.hd hc) T hK (fun x hx => ?_) (Nat.le_succ_of_le (few ks O.sub T.nd)) fun h2 tk2 D ko e kp2 hD he pk so => ?_
  · obtain ⟨j, hj, rfl⟩ := O.sub x hx
    exact hne _ (inrs j hj)
  have hD' : s1.heap.objs.size ≤ D := Nat.le_trans hSz hD
  have hn : H1 D = none := I1.hok.fresh hD'
  have lko : ko.length ≤ 61 := by rw [pk.length_eq]; exact Nat.le_succ_of_le (few ks O.sub T.nd)
  have kov : ∀ x ∈ ko, ∃ j, j < its.length ∧ x = vals j := fun x hx => O.sub x (pk.mem_iff.mp hx)
  have vl : ∀ l : List (List Int × Addr), Vals (l.map fun x => V.ref x.2) (l.map fun x => Value.ref x.2) := fun l => by
    induction l with
    | nil => exact .nil
    | cons x r ih => exact .cons rfl ih
  have pv : ∀ l : List (List Int × Addr), (∀ x ∈ l, ∃ j, j < its.length ∧ x = vals j) → Paired (rPair X.K H1) (l.map (·.1)) (l.map fun x => V.ref x.2) := fun l => by
    induction l with
    | nil => exact fun _ => .nil
    | cons x r ih =>
      intro hh
      obtain ⟨j, hj, rfl⟩ := hh x List.mem_cons_self
      exact .cons (hvals j hj).2.2.1 (ih fun y hy => hh y (List.mem_cons_of_mem _ hy))
  have pw : ∀ l : List (List Int × Addr), (∀ x ∈ l, ∃ j, j < its.length ∧ x = vals j) → Paired (fun m y => ∃ i : Nat, rs[i]? = some m ∧ xs[i]? = some y) (l.map (·.1)) (l.map fun x => V.ref x.2) := fun l => by
    induction l with
    | nil => exact fun _ => .nil
    | cons x r ih =>
      intro hh
      obtain ⟨j, hj, rfl⟩ := hh x List.mem_cons_self
      exact .cons ⟨j, (hvals j hj).2.1, (hvals j hj).2.2.2⟩ (ih fun y hy => hh y (List.mem_cons_of_mem _ hy))
  refine ⟨.ref D, _, I1.laid (o := .lst (ko.map fun x => V.ref x.2)) (a := D) (t' := tk2) (fun b o eb => kp2 b o (kp b o eb)) hD' ⟨?_, ko.map (fun x => Value.ref x.2), e, vl ko, he⟩, rfl, q D _ (ko.map (·.1)) hn so (fun rr => ?_) (pv ko kov) (pw ko kov)⟩
  · rw [List.length_map]
    exact small (by omega)
  · constructor
    · intro hr
      obtain ⟨x, hx, rfl⟩ := List.mem_map.mp hr
      obtain ⟨j, hj, rfl⟩ := kov x hx
      exact inrs j hj
    · intro hr
      obtain ⟨j, hj⟩ := List.mem_iff_getElem?.mp hr
      have hjl : j < its.length := by
        have := (List.getElem?_eq_some_iff.mp hj).1
        omega
      have z := (hvals j hjl).2.1
      rw [hj] at z
      cases z
      exact (pk.map (·.1)).mem_iff.mpr (O.sup j hjl)
end
end L2
end
section
namespace L2
open PySem PySem.Spec PyProof.Rows
section
variable {X : Cx} {pins : List (Addr × Obj)} {σ : St} {H : Hp} {s : Shared}
end
section
variable {X : Cx} {tg : Expr}
variable {e : Expr} {t : TE}
end
end L2
end
section
namespace NK
open PySem
section
variable {P : Program} {w : World} {κ : Type} [DecidableEq κ] (kd : KeyKind P w κ)
def IsP (g : Heap) (p : κ × List κ) (x : Addr) : Prop := ∃ ob its c v b, g.get? x = some ob ∧ ob.cls = .type "tuple" ∧ ob.data = .seq its c ∧ its.toList = [v, .ref b] ∧ kd.is p.1 v = true ∧ IsTupleKey kd g p.2 b
def hashP (p : κ × List κ) : Int := reduceHash (Builtin.Tuple.tupleHashOf [kd.hash p.1, tupleKeyHash kd p.2])
variable {kd}
theorem IsP.ty {s : Shared} {p : κ × List κ} {x : Addr} (h : IsP kd s.heap p x) : s.TypeIs (.ref x) "tuple" := by
  obtain ⟨ob, _, _, _, _, e, c, _⟩ := h
  exact ⟨ob, e, c⟩
theorem IsP.one {g : Heap} {p q : κ × List κ} {x : Addr} (h : IsP kd g p x) (h' : IsP kd g q x) : p = q := by
  obtain ⟨ob, its, c, v, b, e, _, d, l, k, t⟩ := h
  obtain ⟨ob', its', c', v', b', e', _, d', l', k', t'⟩ := h'
  obtain rfl : ob = ob' := Option.some.inj (e.symm.trans e')
  rw [d] at d'
  obtain ⟨rfl, rfl⟩ : its = its' ∧ c = c' := by cases d'; exact ⟨rfl, rfl⟩
  rw [l] at l'
  injection l' with z1 z2
  injection z2 with z2 _
  injection z2 with z2
  subst z1
  subst z2
  exact Prod.ext (kd.inj _ _ _ k k') (t.inj t')
theorem IsP.stays {g g' : Heap} {p : κ × List κ} {x y : Addr} {ob : Obj} {es ep} (h : IsP kd g p x) (e : g.get? y = some ob) (d : ob.data = .dict es ep) (sb : Heap.SameBut y g g') : IsP kd g' p x := by
  obtain ⟨o1, its, c, v, b, e1, c1, d1, l, k, t⟩ := h
  have ne : x ≠ y := fun z => by
    rw [z, e] at e1
    cases e1
    rw [d] at d1
    cases d1
  exact ⟨o1, its, c, v, b, (sb.2 x ne).trans e1, c1, d1, l, k, t.keeps e d sb⟩
variable {A : Around} {E : Value → Shared → Prop} {s : Shared}
theorem hash_pair {p : κ × List κ} {x : Addr} {R : Int → Shared → Prop} (hu : A.units + 1 < cLine) (h : IsP kd s.heap p x) (q : R (hashP kd p) { s with toks := s.toks + (p.2.length + 3) }) : wpAny (model P w) A (pyHash (.ref x)) R E s := by
  have ty := h.ty
  obtain ⟨ob, its, c, v, b, e, _, d, l, k, t⟩ := h
  unfold pyHash
  first | unfold pyHashByItsType | skip
  first | refine wpAny_bind (wpAny_cRoomFor_or (.inr (by omega)) ?_) | skip
  refine wpAny_bind (wpAny_specialOf ty PySem.F.slot_tuple_hash.lookup ?_)
  show wpAny _ _ (if (some (Value.builtin "tuple.__hash__") == some Value.none) = true then _ else _) _ _ _
  rw [if_neg (by rw [beq_builtin_none]; exact Bool.false_ne_true)]
  refine wpAny_bind (wpAny_specialOf ty PySem.F.slot_tuple_hash.lookup ?_)
  show wpAny _ _ (callSpecialIfBoundUnlessNone? (.ref x) "__hash__" _ >>= _) _ _ _
  refine wpAny_bind (wpAny_callSpecialIfBoundUnlessNone?_slot ty PySem.F.slot_tuple_hash (wpAny_call_entry PySem.F.slot_tuple_hash ty PySem.F.entry_tuple_hash ?_ (PySem.F.args_tuple_hash_1 _)))
  show wpAny _ _ (Builtin.Tuple.tupleItemsOf (.ref x) >>= _) _ _ _
  refine wpAny_bind (wpAny_tupleItemsOf e d (wpAny_bind ?_))
  rw [← Array.forIn_toList, l]
  refine wpAny_forIn_list _ (fun rest (z : Array Int) s' => (rest = [v, .ref b] ∧ z = #[] ∧ s' = s) ∨ (rest = [.ref b] ∧ z = #[kd.hash p.1] ∧ s' = { s with toks := s.toks + 1 }) ∨ (rest = [] ∧ z = #[kd.hash p.1, tupleKeyHash kd p.2] ∧ s' = { s with toks := s.toks + 1 + (p.2.length + 1) }))
    _ ?_ ?_ _ _ (.inl ⟨rfl, rfl, rfl⟩)
  · rintro y rest z s' (⟨er, rfl, rfl⟩ | ⟨er, rfl, rfl⟩ | ⟨er, _⟩)
    · cases er
      refine wpAny_bind (kd.pyHash k ?_)
      first
        | exact wpAny_pure (.inr (.inl ⟨rfl, rfl, rfl⟩))
        | exact wpAny_bind (wpAny_pure (wpAny_pure (.inr (.inl ⟨rfl, rfl, rfl⟩))))
    · cases er
      refine wpAny_bind (wpAny_pyHash_tuple (by show A.units + 1 < cLine; exact hu) t ?_)
      first
        | exact wpAny_pure (.inr (.inr ⟨rfl, rfl, rfl⟩))
        | exact wpAny_bind (wpAny_pure (wpAny_pure (.inr (.inr ⟨rfl, rfl, rfl⟩))))
    · cases er
  · rintro z s' (⟨er, _⟩ | ⟨er, _⟩ | ⟨_, rfl, rfl⟩)
    · cases er
    · cases er
    · have et : { s with toks := s.toks + 1 + (p.2.length + 1) + 1 } = { s with toks := s.toks + (p.2.length + 3) } := by
        congr 1
        omega
      show wpAny _ _ (retInt (Builtin.Tuple.tupleHashOf [kd.hash p.1, tupleKeyHash kd p.2])) _ _ _
      refine wpAny_ret_mkInt ?_
      unfold hashP reduceHash at q
      generalize Builtin.Tuple.tupleHashOf [kd.hash p.1, tupleKeyHash kd p.2] = hv at q
      show wpAny _ _ (if (decide (-(2 : Int) ^ 63 ≤ hv) && decide (hv < 2 ^ 63)) = true then _ else _) _ _ _
      by_cases c0 : (decide (-(2 : Int) ^ 63 ≤ hv) && decide (hv < 2 ^ 63)) = true
      · rw [if_pos c0] at q ⊢
        refine wpAny_pure ?_
        rw [← et] at q
        exact q
      · rw [if_neg c0] at q ⊢
        refine wpAny_bind (wpAny_rule (wpAny_pure ?_))
        rw [← et] at q
        exact q
theorem eq_tree {p q : κ × List κ} {x y : Addr} {R : Fin → Shared → Prop} (hu : A.units < cLine) (h : IsP kd s.heap p x) (h' : IsP kd s.heap q y) (r : R (.done (.ret (.bool (decide (p = q))))) s) :
    wpAny (model P w) A (Builtin.«tuple.__eq__» ⟨[.ref x, .ref y], []⟩) R E s := by
  have ty := h'.ty
  obtain ⟨o1, i1, c1, v1, b1, e1, _, d1, l1, k1, t1⟩ := h
  obtain ⟨o2, i2, c2, v2, b2, e2, _, d2, l2, k2, t2⟩ := h'
  show wpAny _ _ (isInstance (.ref y) (.type "tuple") >>= _) _ _ _
  refine wpAny_bind (wpAny_isInstance ty isSubtype_tuple_tuple ?_)
  simp only [Bool.not_true, Bool.false_eq_true, if_false]
  refine wpAny_bind (wpAny_tupleItemsOf e1 d1 (wpAny_bind (wpAny_tupleItemsOf e2 d2 (wpAny_bind ?_))))
  have sz : (i1.size == i2.size) = true := by
    have z1 : i1.size = 2 := by rw [← Array.length_toList, l1]; rfl
    have z2 : i2.size = 2 := by rw [← Array.length_toList, l2]; rfl
    rw [z1, z2]
    rfl
  rw [l1, l2]
  refine wpAny_forIn_list _ (fun rest z s' => z.1 = none ∧ s' = s ∧ (rest = [(v1, v2), (.ref b1, .ref b2)] ∨ (rest = [(.ref b1, .ref b2)] ∧ p.1 = q.1) ∨ (rest = [] ∧ p = q))) _ ?_ ?_ _ _ ⟨rfl, rfl, .inl rfl⟩
  · rintro ⟨u, v⟩ rest z s' ⟨hz, rfl, er | ⟨er, pq⟩ | ⟨er, _⟩⟩
    · cases er
      refine wpAny_bind (kd.eqBool (a := p.1) (b := q.1) k1 k2 ?_)
      by_cases c : p.1 = q.1
      · rw [decide_eq_true c]
        simp only [Bool.not_true, Bool.false_eq_true, if_false]
        exact wpAny_pure ⟨rfl, rfl, .inr (.inl ⟨trivial, c⟩)⟩
      · rw [decide_eq_false c]
        simp only [Bool.not_false, if_true]
        rw [decide_eq_false (fun z => c (by rw [z]))] at r
        exact wpAny_bind (wpAny_pure (wpAny_pure (wpAny_pure r)))
    · cases er
      refine wpAny_bind (wpAny_eqBool_tuple hu t1 t2 ?_)
      by_cases c : p.2 = q.2
      · rw [decide_eq_true c]
        simp only [Bool.not_true, Bool.false_eq_true, if_false]
        exact wpAny_pure ⟨rfl, rfl, .inr (.inr ⟨trivial, Prod.ext pq c⟩)⟩
      · rw [decide_eq_false c]
        simp only [Bool.not_false, if_true]
        rw [decide_eq_false (fun z => c (by rw [z]))] at r
        exact wpAny_bind (wpAny_pure (wpAny_pure (wpAny_pure r)))
    · cases er
  · rintro ⟨z1, z2⟩ s' ⟨hz, rfl, er | ⟨er, _⟩ | ⟨_, pq⟩⟩
    · cases er
    · cases er
    · dsimp only at hz
      subst hz
      refine wpAny_pure ?_
      rw [decide_eq_true pq] at r
      show R (.done (.ret (.bool (i1.size == i2.size)))) s'
      rw [sz]
      exact r
theorem eq_pair {p q : κ × List κ} {x y : Addr} {R : Bool → Shared → Prop} (hu : A.units + 1 < cLine) (h : IsP kd s.heap p x) (h' : IsP kd s.heap q y) (r : R (decide (p = q)) s) : wpAny (model P w) A (eqBool (.ref x) (.ref y)) R E s := by
  unfold eqBool
  try with_reducible refine wpAny_holding ?_
  show wpAny _ _ (if (Value.ref x == Value.ref y) = true then _ else _) _ _ _
  by_cases c : (Value.ref x == Value.ref y) = true
  · rw [if_pos c]
    obtain rfl : x = y := by have z := eq_of_beq c; injection z
    obtain rfl := h.one h'
    rw [decide_eq_true rfl] at r
    exact wpAny_bind (wpAny_rule (wpAny_pure r))
  · rw [if_neg c]
    refine wpAny_bind (wpAny_richCompare_same_room (op := .Eq) h.ty h'.ty PySem.F.slot_tuple_eq (wpAny_call_entry PySem.F.slot_tuple_eq h.ty PySem.F.entry_tuple_eq (eq_tree ?_ h h' ⟨_, rfl, (fun e => nomatch e), wpAny_truthy_bool r⟩) (PySem.F.args_tuple_eq_2 _ _)) (by omega))
    show A.units + 1 < cLine
    exact hu
theorem quiet_tuple {ks : List κ} {x : Addr} {n : Nat} {R : Bool → Shared → Prop} (h : IsTupleKey kd s.heap ks x) (r : R true s) : wpAny (model P w) A (eqIsQuiet (n + 1) (.ref x)) R E s := by
  have ty := h.typeIs
  obtain ⟨ob, its, c, e, _, d, ia⟩ := h
  unfold eqIsQuiet
  refine wpAny_bind (wpAny_specialOf ty PySem.F.slot_tuple_eq.lookup ?_)
  show wpAny _ _ (isInstance (.ref x) (.type "tuple") >>= _) _ _ _
  refine wpAny_bind (wpAny_isInstance ty isSubtype_tuple_tuple ?_)
  simp only [Bool.not_true, Bool.false_eq_true, if_false]
  refine wpAny_bind (wpAny_seqItems e d (wpAny_bind ?_))
  show wpAny _ _ (forIn its _ _) _ _ _
  rw [← Array.forIn_toList]
  refine wpAny_forIn_list _ (fun rest z s' => z.1 = none ∧ s' = s ∧ ∀ v ∈ rest, carriedByValue v = true) _ (fun v rest z s' ⟨hz, es, al⟩ => ?_) (fun z s' ⟨hz, es, _⟩ => ?_) _ _ ⟨rfl, rfl, ia.byValue⟩
  · subst es
    rw [eqIsQuiet_byValue _ (al v List.mem_cons_self)]
    refine wpAny_bind (wpAny_pure ?_)
    simp only [Bool.not_true, Bool.false_eq_true, if_false]
    exact wpAny_pure ⟨rfl, rfl, fun u h => al u (List.mem_cons_of_mem _ h)⟩
  · subst es
    obtain ⟨z1, z2⟩ := z
    dsimp only at hz
    subst hz
    exact wpAny_pure r
theorem quiet_pair {p : κ × List κ} {x : Addr} {R : Bool → Shared → Prop} (h : IsP kd s.heap p x) (r : R true s) : wpAny (model P w) A (eqIsQuiet 8 (.ref x)) R E s := by
  have ty := h.ty
  obtain ⟨ob, its, c, v, b, e, _, d, l, k, t⟩ := h
  unfold eqIsQuiet
  refine wpAny_bind (wpAny_specialOf ty PySem.F.slot_tuple_eq.lookup ?_)
  show wpAny _ _ (isInstance (.ref x) (.type "tuple") >>= _) _ _ _
  refine wpAny_bind (wpAny_isInstance ty isSubtype_tuple_tuple ?_)
  simp only [Bool.not_true, Bool.false_eq_true, if_false]
  refine wpAny_bind (wpAny_seqItems e d (wpAny_bind ?_))
  show wpAny _ _ (forIn its _ _) _ _ _
  rw [← Array.forIn_toList, l]
  refine wpAny_forIn_list _ (fun rest z s' => z.1 = none ∧ s' = s ∧ (rest = [v, .ref b] ∨ rest = [.ref b] ∨ rest = [])) _ (fun u rest z s' ⟨hz, es, er⟩ => ?_) (fun z s' ⟨hz, es, _⟩ => ?_) _ _ ⟨rfl, rfl, .inl rfl⟩
  · subst es
    rcases er with er | er | er
    · cases er
      rw [eqIsQuiet_byValue _ (kd.byValue _ _ k)]
      refine wpAny_bind (wpAny_pure ?_)
      simp only [Bool.not_true, Bool.false_eq_true, if_false]
      exact wpAny_pure ⟨rfl, rfl, .inr (.inl trivial)⟩
    · cases er
      refine wpAny_bind (quiet_tuple t ?_)
      simp only [Bool.not_true, Bool.false_eq_true, if_false]
      exact wpAny_pure ⟨rfl, rfl, .inr (.inr trivial)⟩
    · cases er
  · subst es
    obtain ⟨z1, z2⟩ := z
    dsimp only at hz
    subst hz
    exact wpAny_pure r
end
def pairKind {P : Program} {w : World} {κ : Type} [DecidableEq κ] (kd : KeyKind P w κ) : HeapKind P w (κ × List κ) where
  is := IsP kd
  hash := hashP kd
  draws := fun p => p.2.length + 3
  room := fun A => A.units + 1 < cLine
  inj := fun a b => a.one b
  keeps := fun a b c d => a.stays b c d
  pyHash := fun a b c => hash_pair a b c
  eqBool := fun a b c d => eq_pair a b c d
  quiet := fun a b => quiet_pair a b
end NK
end
section
namespace L2
open PySem
abbrev PKey := Key × List Key
def dN (P : Program) (w : World) (a : Addr) (xs : List (PKey × Addr × Value)) : HO := .ext fun g => ∃ o es ep, g.get? a = some o ∧ o.ExactDict ∧ o.data = .dict es ep ∧ es.toList = xs.map (entryOfKey (NK.pairKind (mixKind P w))) ∧ (xs.map (·.1)).Nodup
def NKey (H : Hp) (p : PKey) (x : Addr) : Prop := ∃ b, H x = some (.tup [kV p.1, .ref b]) ∧ H b = some (.tup (p.2.map kV))
theorem NKey.ts {H H' : Hp} {p : PKey} {x : Addr} (h : NKey H p x) (t : ∀ b ys, H b = some (.tup ys) → H' b = some (.tup ys)) : NKey H' p x := let ⟨b, e1, e2⟩ := h; ⟨b, t _ _ e1, t _ _ e2⟩
abbrev KN (H : Hp) : List (PKey × V) → List (PKey × Addr × Value) → Prop := Paired fun p q => p.1 = q.1 ∧ NKey H p.1 q.2.1 ∧ RelV p.2 q.2.2
def DN (P : Program) (w : World) (H : Hp) (a : Addr) (kvs : List (PKey × V)) : Prop := kvs.length ≤ sizeLine ∧ (a == sysModules) = false ∧ ∃ xs, H a = some (dN P w a xs) ∧ KN H kvs xs
theorem DN.keep {P : Program} {w : World} {H H' : Hp} {a : Addr} {kvs : List (PKey × V)} (h : DN P w H a kvs) (e : ∀ o, H a = some o → H' a = some o) (t : ∀ b ys, H b = some (.tup ys) → H' b = some (.tup ys)) : DN P w H' a kvs := by
  obtain ⟨z, y, xs, e1, r⟩ := h
  exact ⟨z, y, xs, e _ e1, Paired.imp (fun _ _ q => ⟨q.1, q.2.1.ts t, q.2.2⟩) r⟩
theorem KN.val {H : Hp} {kvs : List (PKey × V)} {xs : List (PKey × Addr × Value)} (r : KN H kvs xs) (k : PKey) : RelO (valV kvs k) ((atKey xs k).map (·.2)) := by
  induction r with
  | nil => exact True.intro
  | @cons p q ps qs h t ih =>
    by_cases e : p.1 = k
    · have b : atKey (q :: qs) k = some q.2 := by simp [atKey, List.find?_cons, h.1.symm.trans e]
      rw [valV_pos e, b]
      exact h.2.2
    · have b : atKey (q :: qs) k = atKey qs k := by simp [atKey, List.find?_cons, show ¬ q.1 = k from fun z => e (h.1.trans z)]
      rw [valV_neg e, b]
      exact ih
theorem KN.put {H : Hp} {kvs : List (PKey × V)} {xs : List (PKey × Addr × Value)} (r : KN H kvs xs) {k : PKey} {b : Addr} {y : V} {u : Value} (hb : NKey H k b) (ry : RelV y u) (new : valV kvs k = none) : KN H (putK kvs k y) (storedH xs k b u) := by
  have e : atKey xs k = none := by
    have z := (r.val k).isSome_eq
    rw [new, Option.isSome_map] at z
    cases g : atKey xs k with
    | none => rfl
    | some q => rw [g] at z; cases z
  rw [putK_new y new, storedH_new e]
  exact Paired.snoc r ⟨rfl, hb, ry⟩
section
variable {P : Program} {w : World} {H : Hp} {h : Heap} {a : Addr}
theorem pkey_of {p : PKey} {x : Addr} (ok : HOk P w H h) (e : NKey H p x) : (NK.pairKind (mixKind P w)).is h p x := by
  obtain ⟨b, e1, e2⟩ := e
  obtain ⟨_, its, r, o, h1, h2, n, h3⟩ := (show ObjOk P w H h x (.tup [kV p.1, .ref b]) from ok x _ e1)
  cases r with
  | @cons _ v _ _ r1 r =>
    cases r with
    | @cons _ v2 _ _ r2 r =>
      cases r
      cases r2
      exact ⟨o, _, n, v, b, h1, h2, h3, rfl, kV_is r1, key_of ok e2⟩
theorem dn_of {kvs : List (PKey × V)} (ok : HOk P w H h) (d : DN P w H a kvs) : kvs.length ≤ sizeLine ∧ (a == sysModules) = false ∧ ∃ xs, H a = some (dN P w a xs) ∧ KN H kvs xs ∧ h.DictOfH (NK.pairKind (mixKind P w)) a xs := by
  obtain ⟨z, y, xs, e, r⟩ := d
  obtain ⟨⟨o, es, ep, h1, h2, h3, h4, h5⟩, _⟩ := (show ObjOk P w H h a (dN P w a xs) from ok a _ e)
  refine ⟨z, y, xs, e, r, o, es, ep, h1, h2, h3, h4, fun x hx => ?_, h5⟩
  obtain ⟨i, hi⟩ := List.mem_iff_getElem?.mp hx
  obtain ⟨p, _, e1, e2, _⟩ := Paired.get r hi
  rw [← e1]
  exact pkey_of ok e2
theorem dn_new {xs : List (PKey × Addr × Value)} {H' : Hp} (d : h.DictOfH (NK.pairKind (mixKind P w)) a xs) : ObjOk P w H' h a (dN P w a xs) := by
  obtain ⟨o, es, ep, h1, h2, h3, h4, _, h5⟩ := d
  refine ⟨⟨o, es, ep, h1, h2, h3, h4, h5⟩, ⟨o, h1⟩, fun g1 g2 ⟨o', es', ep', z1, z2⟩ st => ⟨o', es', ep', st _ z1, z2⟩⟩
end
section
variable {X : Cx} {pins : List (Addr × Obj)} {σ : St} {H : Hp} {s : Shared} {a : Addr} {A : Around} {E : Value → Shared → Prop}
def NGet (P : Program) (w : World) (H : Hp) (a : Addr) (y : V) (r : Option V) : Prop := ∃ kvs p x, DN P w H a kvs ∧ y = .ref x ∧ NKey H p x ∧ valV kvs p = r
theorem n_type {y : V} {r : Option V} (I : Inv X pins σ H s) (g : NGet X.prog X.w H a y r) : s.TypeIs (.ref a) "dict" := by
  obtain ⟨kvs, p, x, d, _⟩ := g
  obtain ⟨_, _, xs, _, _, dd⟩ := dn_of I.hok d
  exact dd.typeIs
theorem n_getItem {y v : V} {u : Value} {Q : Value → Shared → Prop} (hu : A.units + 2 < cLine) (I : Inv X pins σ H s) (g : NGet X.prog X.w H a y (some v)) (ry : RelV y u) (q : ∀ w' s', Inv X pins σ H s' → RelV v w' → Q w' s') : wpAny (model X.prog X.w) A (getItem (.ref a) u) Q E s := by
  obtain ⟨kvs, p, x, d, rfl, k, l⟩ := g
  cases (show u = Value.ref x from ry)
  obtain ⟨z, hd, xs, e, rel, dd⟩ := dn_of I.hok d
  obtain ⟨w', hw, rw'⟩ := RelO.some_of (v := v) (o := (atKey xs p).map (·.2)) (by rw [← l]; exact rel.val p)
  obtain ⟨pv, hp, hp2⟩ := Option.map_eq_some_iff.mp hw
  refine wpAny_getItem_heap (knd := NK.pairKind (mixKind X.prog X.w)) (k := p) (by show A.units + 1 + 1 < cLine; omega) (pkey_of I.hok k) dd hp ?_
  rw [hp2]
  exact q w' _ (I.tok _) rw'
theorem n_notIn {y : V} {r : Option V} {u : Value} {Q : Value → Shared → Prop} (hu : A.units + 2 < cLine) (I : Inv X pins σ H s) (g : NGet X.prog X.w H a y r) (ry : RelV y u) (q : ∀ s', Inv X pins σ H s' → Q (.bool (!r.isSome)) s') : wpAny (model X.prog X.w) A (compareOp .NotIn u (.ref a)) Q E s := by
  obtain ⟨kvs, p, x, d, rfl, k, l⟩ := g
  cases (show u = Value.ref x from ry)
  obtain ⟨z, hd, xs, e, rel, dd⟩ := dn_of I.hok d
  refine PyProof.Rows.wpAny_notIn_heap (knd := NK.pairKind (mixKind X.prog X.w)) (k := p) (by show A.units + 1 + 1 < cLine; omega) (pkey_of I.hok k) hd dd ?_
  have c := (rel.val p).isSome_eq
  rw [Option.isSome_map] at c
  rw [← c, l]
  exact q _ (I.tok _)
theorem n_setItem {y v : V} {u r : Value} {kvs : List (PKey × V)} {p : PKey} {x : Addr} {Q : Unit → Shared → Prop} (hu : A.units + 2 < cLine) (I : Inv X pins σ H s) (d : DN X.prog X.w H a kvs) (ey : y = .ref x) (k : NKey H p x) (new : valV kvs p = none) (hl : kvs.length < sizeLine) (ry : RelV y u) (rv : RelV v r)
    (q : ∀ (H' : Hp) s', (∀ b, b ≠ a → H' b = H b) → DN X.prog X.w H' a (putK kvs p v) → Inv X pins σ H' s' → Q () s') : wpAny (model X.prog X.w) A (setItem (.ref a) u r) Q E s := by
  subst ey
  cases (show u = Value.ref x from ry)
  obtain ⟨z, hd, xs, e, rel, dd⟩ := dn_of I.hok d
  have hz : xs.length ≤ sizeLine := by rw [← Paired.length rel]; exact z
  refine wpAny_setItem_heap (hsz := hz) (knd := NK.pairKind (mixKind X.prog X.w)) (k := p) (by show A.units + 1 + 1 < cLine; omega) (pkey_of I.hok k) dd fun h' dd' hs => ?_
  have he : ∃ o, h'.get? a = some o := let ⟨o, _, _, ho, _⟩ := dd'; ⟨o, ho⟩
  refine q (upd H a (dN X.prog X.w a (storedH xs p x r))) _ (fun b hb => upd_ne hb) ⟨?_, hd, _, upd_same, Paired.imp (fun _ _ c => ⟨c.1, c.2.1.ts fun b ys eb => ?_, c.2.2⟩) (KN.put rel k rv new)⟩ (d_write I (by rw [e]; exact True.intro) hs he (dn_new dd'))
  · rw [putK_new v new, List.length_append, List.length_singleton]
    omega
  · rw [upd_ne (ne_of eb e (by intro z; cases z))]
    exact eb
end
def tDNewN (P : Program) (w : World) : TE := fun _ H Q => ∀ p, H p = none → DN P w (upd H p (dN P w p [])) p [] → Q (.ref p) (upd H p (dN P w p []))
def tNGet (P : Program) (w : World) (td ty : TE) : TE := fun σ H Q => td σ H fun x H1 => ty σ H1 fun y H2 => ∃ a v, x = .ref a ∧ NGet P w H2 a y (some v) ∧ Q v H2
def tNNotIn (P : Program) (w : World) (ty td : TE) : TE := fun σ H Q => ty σ H fun y H1 => td σ H1 fun x H2 => ∃ a r, x = .ref a ∧ NGet P w H2 a y r ∧ Q (.bl (!r.isSome)) H2
def sNPut (P : Program) (w : World) (td ty tv : TE) : TS := fun D σ H => tv σ H fun v H1 => td σ H1 fun x H2 => ty σ H2 fun y H3 => ∃ a kvs p b, x = .ref a ∧ y = .ref b ∧ DN P w H3 a kvs ∧ NKey H3 p b ∧ valV kvs p = none ∧ kvs.length < sizeLine ∧
  ∀ H4, (∀ c, c ≠ a → H4 c = H3 c) → DN P w H4 a (putK kvs p v) → D.nx σ H4
section
variable {X : Cx} {o i e value : Expr} {pos pos' tpos : Pos} {td ty tv : TE}
theorem pe_dnewN : PE X (.Dict [] [] pos) (tDNewN X.prog X.w) := fun pins s σ H Q I h => by
  have hn := I.hok.fresh (Nat.le_refl s.heap.objs.size)
  have ns : (s.heap.objs.size == sysModules) = false := beq_eq_false_iff_ne.mpr (Ne.symm (Nat.ne_of_lt I.big))
  refine wpAny_Dict_empty ⟨.ref s.heap.objs.size, _, I.laid (a := s.heap.objs.size) (o := dN X.prog X.w s.heap.objs.size []) (t' := s.toks) (fun _ _ q => Heap.get?_push_of_some _ q) (Nat.le_refl _) (dn_new (Heap.DictOfH.new _)), rfl, h _ hn ⟨Nat.zero_le _, ns, [], upd_same, .nil⟩⟩
theorem pe_nget (hu : X.A.units + 2 < cLine) (ho : PE X o td) (hi : PE X i ty) (hs : NoSl i) : PE X (.Subscript o i pos) (tNGet X.prog X.w td ty) := by
  intro pins s σ H Q I h
  refine subD_of PySem.F.slot_dict_getitem.lookup hs (thn (ho pins s σ H _ I h) fun u s1 ⟨x, H1, I1, rx, q1⟩ => thn (hi pins s1 σ H1 _ I1 q1) fun iv s2 ⟨y, H2, I2, ry, a, v, ex, g, q2⟩ => ?_)
  subst ex
  obtain rfl : u = Value.ref a := rx
  exact ⟨n_type I2 g, n_getItem hu I2 g ry fun w' s3 I3 rw' => ⟨v, H2, I3, rw', q2⟩⟩
theorem pc_nnotin (hu : X.A.units + 2 < cLine) (hi : PE X i ty) (ho : PE X o td) : PC X .NotIn i o (tNNotIn X.prog X.w ty td) := by
  intro pins s σ H Q I h
  refine thn (hi pins s σ H _ I h) fun iv s1 ⟨y, H1, I1, ry, q1⟩ => thn (ho pins s1 σ H1 _ I1 q1) fun u s2 ⟨x, H2, I2, rx, a, r, ex, g, q2⟩ => ?_
  subst ex
  obtain rfl : u = Value.ref a := rx
  exact n_notIn hu I2 g ry fun s3 I3 => ⟨.bl (!r.isSome), H2, I3, rfl, q2⟩
theorem ps_nput (hu : X.A.units + 2 < cLine) (ho : PE X o td) (hi : PE X i ty) (hv : PE X value tv) (hs : swapsWith value (some (.Subscript o i pos')) pos.line X.env = pure false) : PS X (.Assign [.Subscript o i pos'] value pos) (sNPut X.prog X.w td ty tv) := by
  intro pins s σ H D I h
  refine wpAny_Assign_Subscript (thn (hv pins s σ H _ I h) fun r s1 ⟨v, H1, I1, rv, q1⟩ => thn (ho pins s1 σ H1 _ I1 q1) fun u s2 ⟨x, H2, I2, rx, q2⟩ => thn (hi pins s2 σ H2 _ I2 q2) fun iv s3 ⟨y, H3, I3, ry, a, kvs, p, b, ex, ey, d, k, new, hl, q3⟩ => ?_) hs
  subst ex
  obtain rfl : u = Value.ref a := rx
  exact n_setItem hu I3 d ey k new hl ry rv fun H4 s4 oth d4 I4 => ⟨σ, H4, I4, q3 H4 oth d4⟩
end
end L2
end
section
namespace K55
open PySem L2
def top (i : Nat) : Stmt := PySem.Challenge.pw_frontways_k55_whole_covers_counted.main.body.getD i (.Pass ⟨0, 0, 0, 0⟩)
abbrev sInit : Stmt := inClass (top 22) 0
abbrev sAllows : Stmt := inClass (top 32) 0
abbrev sFits : Stmt := inClass (top 30) 1
abbrev sBegun : Stmt := inClass (top 30) 2
abbrev sTaken : Stmt := inClass (top 30) 3
abbrev sPassed : Stmt := inClass (top 30) 4
abbrev sFul : Stmt := inClass (top 30) 5
abbrev sLeft : Stmt := inClass (top 18) 3
abbrev sGInit : Stmt := inClass (top 15) 0
abbrev sKnotAt : Stmt := inClass (top 15) 1
abbrev sPast : Stmt := inClass (top 15) 2
abbrev sSize : Stmt := inClass (top 22) 1
abbrev sTies : Stmt := inClass (top 22) 2
abbrev sAt : Stmt := inClass (top 22) 3
abbrev sAmt : Stmt := top 23
abbrev sChk : Stmt := top 24
abbrev sPts : Stmt := top 25
abbrev sCounts : Stmt := top 26
abbrev sWithin : Stmt := top 27
abbrev sCell : Stmt := top 34
abbrev sMix : Stmt := top 35
abbrev sDraw : Stmt := top 36
abbrev sWeb : Stmt := top 37
abbrev sFar : Stmt := top 38
abbrev sSum : Stmt := top 39
abbrev sLaw : Stmt := top 40
abbrev sGrown : Stmt := top 14
abbrev sBehind : Stmt := top 16
theorem ja : ¬ (("amount" : Str) = "joints") := by decide +kernel
def flds (z : Int) (j : Addr) : List (Str × V) := putF "joints" (.ref j) (putF "amount" (.int z) [])
theorem flds_amount (z : Int) (j : Addr) : (flds z j).lookup ("amount" : Str) = some (.int z) := by
  unfold flds
  rw [lookup_putF, if_neg ja, lookup_putF, if_pos rfl]
theorem flds_joints (z : Int) (j : Addr) : (flds z j).lookup ("joints" : Str) = some (.ref j) := by
  unfold flds
  rw [lookup_putF, if_pos rfl]
theorem flds_no (z : Int) (j : Addr) {m : Str} (h1 : ¬ m = "joints") (h2 : ¬ m = "amount") : (flds z j).lookup m = none := by
  unfold flds
  rw [lookup_putF, if_neg h1, lookup_putF, if_neg h2]
  all_goals rfl
structure Txt (K : PySem.W.Frag) (mg : Str → Option Value) (C : Addr) : Prop where
  cl : Cls K C
  nA : NoAttr K C "amount"
  nJ : NoAttr K C "joints"
  mgC : mg "Web" = some (.ref C)
  mp : ∃ t, mg "MOST_POINTS" = some (.int 10 t)
  mt : ∃ t, mg "MOST_TIES" = some (.int 12 t)
  len : mg "len" = none
  range : mg "range" = none
  int : mg "int" = none
  max : mg "max" = none
  min : mg "min" = none
  sorted : mg "sorted" = none
  tuple : mg "tuple" = none
  list : mg "list" = none
  bool : mg "bool" = none
  enum : mg "enumerate" = none
  isi : mg "isinstance" = none
def WebAt (K : PySem.W.Frag) (C : Addr) (H : Hp) (p : Addr) (z : Int) (as : List (List Int)) : Prop := ∃ dx j, H p = some (.ins C dx (flds z j)) ∧ rTup K (rPair K) H as (.ref j)
theorem WebAt.same {K : PySem.W.Frag} {C : Addr} {H H' : Hp} {p : Addr} {z : Int} {as : List (List Int)} (h : WebAt K C H p z as) (e : Same H H') : WebAt K C H' p z as := by
  obtain ⟨dx, j, h1, h2⟩ := h
  exact ⟨dx, j, e _ _ h1, trep_tup (trep_tup trep_int) _ _ _ _ e.ts h2⟩
def spCell (K : PySem.W.Frag) : Sp := fun vs H Q _ => ∃ (a : Addr) (ns : List Int) (k : Int), vs = [.ref a, .int k] ∧ SqL K H a (ns.map V.int) ∧ 0 ≤ k ∧ ∀ c : Int, Q (.int c) H
def spMix : Sp := fun vs H Q _ => ∃ (c k : Int), vs = [.int c, .int k] ∧ ∀ r : Int, Q (.int r) H
def spDraw : Sp := fun vs H Q _ => ∃ (c many most : Int), vs = [.int c, .int many, .int most] ∧ 0 ≤ many ∧ many ≤ 20 ∧ 0 < most ∧ most ≤ 1000 ∧
  ∀ (l : Addr) (ms : List Int) (H' : Hp), Same H H' → H l = none → H' l = some (.lst (ms.map V.int)) → (ms.length : Int) = many → (∀ m ∈ ms, 0 ≤ m ∧ m < most) → Q (.ref l) H'
def spAmt : Sp := fun vs H Q _ => ∃ (p t : Int), vs = [.int p, .int t] ∧ 1 ≤ p ∧ p ≤ 10 ∧ 0 ≤ t ∧ t ≤ 12 ∧ Q .non H
def spPts (K : PySem.W.Frag) : Sp := fun vs H Q _ => ∃ (m a b : Int) (t : Addr), vs = [.int m, .ref t] ∧ SqT K H t [.int a, .int b] ∧ 0 ≤ a ∧ a < b ∧ b < m ∧ Q .non H
def spChk (K : PySem.W.Frag) : Sp := fun vs H Q _ => ∃ (m : Int) (l : Addr) (xs : List V) (as : List (List Int)), vs = [.int m, .ref l] ∧ SqL K H l xs ∧ Paired (rSeq K H) as xs ∧ OkTies m as ∧ as.length ≤ 12 ∧
  ∀ (j : Addr) (H' : Hp), Same H H' → rTup K (rPair K) H' (as.map srt) (.ref j) → Q (.ref j) H'
def spInit (K : PySem.W.Frag) (C : Addr) : Sp := fun vs H Q _ => ∃ (p dx l : Addr) (m : Int) (xs : List V) (as : List (List Int)), vs = [.ref p, .int m, .ref l] ∧ H p = some (.ins C dx []) ∧ SqL K H l xs ∧ Paired (rSeq K H) as xs ∧ OkTies m as ∧ as.length ≤ 12 ∧ 1 ≤ m ∧ m ≤ 10 ∧
  ∀ (H' : Hp), (∀ b o, H b = some o → b ≠ p → H' b = some o) → WebAt K C H' p m (as.map srt) → Q .non H'
def spSize (K : PySem.W.Frag) (C : Addr) : Sp := fun vs H Q _ => ∃ (p : Addr) (m : Int) (as : List (List Int)), vs = [.ref p] ∧ WebAt K C H p m as ∧ Q (.int m) H
def spTies (K : PySem.W.Frag) (C : Addr) : Sp := fun vs H Q _ => ∃ (p : Addr) (m : Int) (as : List (List Int)), vs = [.ref p] ∧ WebAt K C H p m as ∧ ∀ (l : Addr) (H' : Hp), Same H H' → H l = none → rLst K (rPair K) H' as (.ref l) → Q (.ref l) H'
def spAt (K : PySem.W.Frag) (C : Addr) : Sp := fun vs H Q _ => ∃ (p : Addr) (m x : Int) (as : List (List Int)), vs = [.ref p, .int x] ∧ WebAt K C H p m as ∧ as.length ≤ 12 ∧
  ∀ (l : Addr) (H' : Hp), Same H H' → H l = none → H' l = some (.lst ((hits x as).map V.int)) → Q (.ref l) H'
def spLaw (K : PySem.W.Frag) : Sp := fun vs H Q _ => ∃ (a : Addr) (ns : List Int), vs = [.ref a] ∧ SqL K H a (ns.map V.int) ∧ ns.length ≤ 63 ∧ ∀ H', Q (.bl true) H'
section
variable {P : Program} {w : World} {K : PySem.W.Frag} {mg : Str → Option Value} {base : Heap} {f C : Addr} {fd : FuncData}
theorem scCell : FnScope ["_law_script", "_law_k"] ["_law_script", "_law_k"] (defScope sCell) := ⟨rfl, rfl, rfl, by decide +kernel, rfl, by decide +kernel, by decide +kernel⟩
theorem ok_cell (F : Fun K "_law_cell" "_law_cell" sCell f fd) (T : Txt K mg C) : FnOk P w K mg base CX0 1 f fd ["_law_script", "_law_k"] (spCell K) := by
  refine F.ok scCell (fun vs H Q E h => ?_) (fun cdv A outer s H vs Q E hr h => ?_)
  · obtain ⟨a, ns, k, rfl, _⟩ := h
    rfl
  obtain ⟨a, ns, k, rfl, hS, h0, q⟩ := h
  refine ⟨_, pss_one (ps_ret (pe_ifExp (pt_cmpR op_lt (pv 1) (pe_callB call_len_seq rfl T.len PySem.boot_len (pa_cons (pv 0) pa_nil)) (nomark _)) (pe_ix ix_list (pv 0) (pv 1) (fun _ _ => rfl)) pe_int)), ?_⟩
  refine ⟨_, rfl, _, rfl, a, _, rfl, .inl hS, _, _, rfl, rfl, _, rfl, ?_⟩
  refine ite2 (fun c => ?_) (fun c => ?_)
  · have c' : k < (((ns.map V.int).length : Nat) : Int) := of_decide_eq_true c
    rw [List.length_map] at c'
    obtain ⟨v, hv⟩ := atI_ints h0 c'
    exact ⟨_, rfl, _, rfl, a, _, _, _, rfl, rfl, hS, hv, q v⟩
  · exact q 0
theorem scMix : FnScope ["_law_cell_here", "_law_k", "_law_number"] ["_law_cell_here", "_law_k"] (defScope sMix) := ⟨rfl, rfl, rfl, by decide +kernel, rfl, by decide +kernel, by decide +kernel⟩
theorem ok_mix (F : Fun K "_law_mixed" "_law_mixed" sMix f fd) : FnOk P w K mg base CX0 1 f fd ["_law_cell_here", "_law_k"] spMix := by
  refine F.ok scMix (fun vs H Q E h => ?_) (fun cdv A outer s H vs Q E hr h => ?_)
  · obtain ⟨c, k, rfl, _⟩ := h
    rfl
  obtain ⟨c, k, rfl, q⟩ := h
  refine ⟨_, pss_cons (ps_set (i := 2) scMix.nd rfl (Or.inl rfl) (pe_op op_mod (pe_op op_add (pe_op op_add (pe_op op_mul (pe_op op_mod (pv 0) pe_int) pe_int) (pe_op op_mul (pv 1) pe_int)) pe_int) pe_int))
    (pss_one (ps_ret (pe_op op_mod (pe_op op_mul (pv 2) (pv 2)) pe_int))), ?_⟩
  refine ⟨_, rfl, _, _, rfl, rfl, (by show (0 : Int) < 2147483647; decide), _, _, rfl, rfl, .inr ⟨by decide, by decide⟩, _, rfl, _, _, rfl, rfl, .inr ⟨by decide, by decide⟩, _, _, rfl, rfl, _, _, rfl, rfl, _, _, rfl, rfl, (by show (0 : Int) < 2147483629; decide), ?_⟩
  refine ⟨_, rfl, _, rfl, _, _, rfl, rfl, ?_, _, _, rfl, rfl, (by show (0 : Int) < 2147483587; decide), q _⟩
  have h1 := Int.emod_nonneg (c % 2147483647 * 16807 + k * 48271 + 11) (show (2147483629 : Int) ≠ 0 by decide)
  have h2 := Int.emod_lt_of_pos (c % 2147483647 * 16807 + k * 48271 + 11) (show (0 : Int) < 2147483629 by decide)
  exact .inl ⟨by omega, by omega⟩
theorem scDraw : FnScope ["_law_cell_here", "_law_many", "_law_most", "_law_found", "_law_left", "_law_k"] ["_law_cell_here", "_law_many", "_law_most"] (defScope sDraw) := ⟨rfl, rfl, rfl, by decide +kernel, rfl, by decide +kernel, by decide +kernel⟩
theorem ok_draw {fM : Addr} {fdM : FuncData} (F : Fun K "_law_draws" "_law_draws" sDraw f fd) (T : Txt K mg C) (GM : FnOk P w K mg base CX0 1 fM fdM ["_law_cell_here", "_law_k"] spMix) (bM : Binds K fdM ["_law_cell_here", "_law_k"] []) (kM : PySem.W.keepIn K (.ref fM) = true) (mM : mg "_law_mixed" = some (.ref fM)) :
    FnOk P w K mg base CX0 2 f fd ["_law_cell_here", "_law_many", "_law_most"] spDraw := by
  refine F.ok scDraw (fun vs H Q E h => ?_) (fun cdv A outer s H vs Q E hr h => ?_)
  · obtain ⟨c, many, most, rfl, _⟩ := h
    rfl
  obtain ⟨c, many, most, rfl, h0, h1, h2, h3, q⟩ := h
  refine ⟨_, pss_cons (ps_set (i := 3) scDraw.nd rfl (Or.inl rfl) (pe_lst pa_nil))
    (pss_cons (ps_set (i := 4) scDraw.nd rfl (Or.inl rfl) (pe_op op_fdiv (pv 0) pe_int))
    (pss_cons (ps_for PassesOwn.never rfl (pi_range1 rfl T.range (pa_cons (pv 1) pa_nil)) (pg_name (i := 5) scDraw.nd rfl (Or.inl rfl))
      (pss_one (ps_if (pt_cmpR op_eq (pe_op op_mod (pv 0) pe_int) pe_int (nomark _))
        (pss_cons (ps_expr (pe_bm PySem.F.plainAttrs_list PySem.F.slot_list_append PySem.F.type_list_append mt_append (pv 3) (pa_cons (pe_op op_mod (pv 4) (pv 2)) pa_nil)))
          (pss_one (ps_set (i := 4) scDraw.nd rfl (Or.inl rfl) (pe_op op_fdiv (pv 4) (pv 2)))))
        (pss_one (ps_expr (pe_bm PySem.F.plainAttrs_list PySem.F.slot_list_append PySem.F.type_list_append mt_append (pv 3) (pa_cons (pe_op op_mod (pe_call GM hr rfl mM kM bM .nil pass0 (pa_cons (pv 0) (pa_cons (pv 5) pa_nil))) (pv 2)) pa_nil)))))))
    (pss_one (ps_ret (pv 3))))), ?_⟩
  refine ⟨Nat.zero_le _, fun l hl => ?_⟩
  refine ⟨_, rfl, _, _, rfl, rfl, ⟨by decide, by decide⟩, ?_⟩
  refine ⟨_, rfl, many, rfl, by omega, by omega, ?_⟩
  refine for_range (lo := 0) (n := many.toNat) (fun i σ H2 => ∃ (ms : List Int) (left : Int) (kv : Option V), σ = [some (.int c), some (.int many), some (.int most), some (.ref l), some (.int left), kv] ∧ Same H H2 ∧ H2 l = some (.lst (ms.map V.int)) ∧ ms.length = i ∧ ∀ m ∈ ms, 0 ≤ m ∧ m < most)
    ⟨[], _, none, rfl, Same.new hl _, upd_same, rfl, fun m hm => by cases hm⟩ ?_ ?_
  · rintro i σ H2 hi ⟨ms, left, kv, rfl, sm, hL, hn, hb⟩
    have put : ∀ v : Int, 0 ≤ v ∧ v < most → Same H (upd H2 l (.lst (ms.map V.int ++ [.int v]))) ∧ (upd H2 l (.lst (ms.map V.int ++ [.int v]))) l = some (.lst ((ms ++ [v]).map V.int)) ∧ (ms ++ [v]).length = i + 1 ∧ ∀ m ∈ ms ++ [v], 0 ≤ m ∧ m < most := fun v hv => by
      refine ⟨fun b o e => by rw [upd_ne (ne_of_none e hl)]; exact sm b o e, by rw [upd_same, List.map_append]; rfl, by simp [hn], fun m hm => ?_⟩
      rcases List.mem_append.mp hm with hm | hm
      · exact hb m hm
      · rw [List.mem_singleton.mp hm]; exact hv
    have hz : (ms.map V.int).length < sizeLine := by rw [List.length_map]; exact small1000 (by omega)
    refine ⟨_, rfl, _, _, rfl, rfl, (by show (0 : Int) < 2; decide), rfl, _, rfl, ?_⟩
    refine ite2 (fun _ => ?_) (fun _ => ?_)
    · obtain ⟨p1, p2, p3, p4⟩ := put (left % most) ⟨Int.emod_nonneg _ (by omega), Int.emod_lt_of_pos _ h2⟩
      refine ⟨_, rfl, .inl ⟨rfl, _, SqL.of hL⟩, _, rfl, _, rfl, _, _, rfl, rfl, h2, l, _, _, rfl, rfl, hL, hz, ?_⟩
      refine ⟨_, rfl, _, rfl, _, _, rfl, rfl, ⟨h2, by omega⟩, ?_⟩
      exact ⟨_, _, _, rfl, p1, p2, p3, p4⟩
    · refine ⟨_, rfl, .inl ⟨rfl, _, SqL.of hL⟩, _, rfl, _, rfl, _, _, rfl, fun r => ?_⟩
      obtain ⟨p1, p2, p3, p4⟩ := put (r % most) ⟨Int.emod_nonneg _ (by omega), Int.emod_lt_of_pos _ h2⟩
      refine ⟨_, rfl, _, _, rfl, rfl, h2, l, _, _, rfl, rfl, hL, hz, ?_⟩
      exact ⟨_, _, _, rfl, p1, p2, p3, p4⟩
  · rintro σ H2 ⟨ms, left, kv, rfl, sm, hL, hn, hb⟩
    exact ⟨_, rfl, q l ms H2 sm hl hL (by omega) hb⟩
theorem scAmt : FnScope ["points", "ties"] ["points", "ties"] (defScope sAmt) := ⟨rfl, rfl, rfl, by decide +kernel, rfl, by decide +kernel, by decide +kernel⟩
theorem ok_amt (F : Fun K "refuse_amounts" "refuse_amounts" sAmt f fd) (T : Txt K mg C) : FnOk P w K mg base CX0 1 f fd ["points", "ties"] spAmt := by
  refine F.ok scAmt (fun vs H Q E h => ?_) (fun cdv A outer s H vs Q E hr h => ?_)
  · obtain ⟨p, t, rfl, _⟩ := h
    rfl
  obtain ⟨p, t, rfl, h1, h2, h3, h4, q⟩ := h
  obtain ⟨t1, e1⟩ := T.mp
  obtain ⟨t2, e2⟩ := T.mt
  refine ⟨_, pss_cons (ps_if (PW.pt (pw_or (pt_cmpR op_lt (pv 0) pe_int (nomark _)) (pw_or1 (pt_cmpR op_gt (pv 0) (pe_glob (v := .int 10) rfl e1 ⟨t1, rfl⟩) (nomark _))))) pss_never pss_nil)
    (pss_one (ps_if (pt_cmpR op_gt (pv 1) (pe_glob (v := .int 12) rfl e2 ⟨t2, rfl⟩) (nomark _)) pss_never pss_nil)), ?_⟩
  refine ⟨_, rfl, _, _, rfl, rfl, _, rfl, ?_⟩
  refine iteN (by omega) ?_
  refine ⟨_, rfl, _, _, rfl, rfl, _, rfl, ?_⟩
  refine iteN (by omega) ?_
  refine ⟨_, rfl, _, _, rfl, rfl, _, rfl, ?_⟩
  refine iteN (by omega) ?_
  exact q
theorem scPts : FnScope ["many", "tie"] ["many", "tie"] (defScope sPts) := ⟨rfl, rfl, rfl, by decide +kernel, rfl, by decide +kernel, by decide +kernel⟩
theorem at0 {a b : V} : atI [a, b] 0 = some a := rfl
theorem at1 {a b : V} : atI [a, b] 1 = some b := rfl
theorem ok_pts (F : Fun K "refuse_points" "refuse_points" sPts f fd) : FnOk P w K mg base CX0 1 f fd ["many", "tie"] (spPts K) := by
  refine F.ok scPts (fun vs H Q E h => ?_) (fun cdv A outer s H vs Q E hr h => ?_)
  · obtain ⟨m, a, b, t, rfl, _⟩ := h
    rfl
  obtain ⟨m, a, b, t, rfl, hT, h0, h1, h2, q⟩ := h
  refine ⟨_, pss_cons (ps_if (PW.pt (pw_or (pt_cmpR op_lt (pe_ix ix_tup (pv 1) pe_int (fun _ _ => rfl)) pe_int (nomark _)) (pw_or1 (pt_cmpR op_ge (pe_ix ix_tup (pv 1) pe_int (fun _ _ => rfl)) (pv 0) (nomark _))))) pss_never pss_nil)
    (pss_one (ps_if (pt_cmpR op_eq (pe_ix ix_tup (pv 1) pe_int (fun _ _ => rfl)) (pe_ix ix_tup (pv 1) pe_int (fun _ _ => rfl)) (nomark _)) pss_never pss_nil)), ?_⟩
  refine ⟨_, rfl, t, _, _, _, rfl, rfl, hT, at0, _, _, rfl, rfl, _, rfl, ?_⟩
  refine iteN (by omega) ?_
  refine ⟨_, rfl, t, _, _, _, rfl, rfl, hT, at1, _, rfl, _, _, rfl, rfl, _, rfl, ?_⟩
  refine iteN (by omega) ?_
  refine ⟨_, rfl, t, _, _, _, rfl, rfl, hT, at0, _, rfl, t, _, _, _, rfl, rfl, hT, at1, rfl, _, rfl, ?_⟩
  refine iteN (fun e => ?_) q
  have := V.int.inj e
  omega
end
end K55
end
section
namespace K55
open PySem L2
section
variable {P : Program} {w : World} {K : PySem.W.Frag} {mg : Str → Option Value} {base : Heap} {f C : Addr} {fd : FuncData}
theorem scChk : FnScope ["many", "ties", "checked", "handed", "tie"] ["many", "ties"] (defScope sChk) := ⟨rfl, rfl, rfl, by decide +kernel, rfl, by decide +kernel, by decide +kernel⟩
theorem ok_chk {fP : Addr} {fdP : FuncData} (F : Fun K "checked_ties" "checked_ties" sChk f fd) (T : Txt K mg C) (GP : FnOk P w K mg base CX0 1 fP fdP ["many", "tie"] (spPts K)) (bP : Binds K fdP ["many", "tie"] []) (kP : PySem.W.keepIn K (.ref fP) = true) (mP : mg "refuse_points" = some (.ref fP)) :
    FnOk P w K mg base CX0 2 f fd ["many", "ties"] (spChk K) := by
  refine F.ok scChk (fun vs H Q E h => ?_) (fun cdv A outer s H vs Q E hr h => ?_)
  · obtain ⟨m, l, xs, as, rfl, _⟩ := h
    rfl
  obtain ⟨m, l, xs, as, rfl, hS, pa, ok, h12, q⟩ := h
  refine ⟨_, pss_cons (ps_set (i := 2) scChk.nd rfl (Or.inl rfl) (pe_lst pa_nil))
    (pss_cons (ps_for PassesOwn.never rfl (pi_list (pv 1)) (pg_name (i := 3) scChk.nd rfl (Or.inl rfl))
      (pss_cons (ps_set (i := 4) scChk.nd rfl (Or.inl rfl) (pe_callTy call_tuple_of rfl T.tuple PyProof.Rows.boot_tuple (pa_cons (pe_callB call_sorted rfl T.sorted PyProof.Rows.boot_sorted (pa_cons (pv 3) pa_nil)) pa_nil)))
      (pss_cons (ps_expr (pe_call GP hr rfl mP kP bP .nil pass0 (pa_cons (pv 0) (pa_cons (pv 4) pa_nil))))
      (pss_cons (ps_if (pt_cmpR (op_inL (dat_tup dat_int) (un_of hr)) (pv 4) (pv 2) rfl) pss_never pss_nil)
      (pss_one (ps_expr (pe_bm PySem.F.plainAttrs_list PySem.F.slot_list_append PySem.F.type_list_append mt_append (pv 2) (pa_cons (pv 4) pa_nil))))))))
    (pss_one (ps_ret (pe_callTy call_tuple_of rfl T.tuple PyProof.Rows.boot_tuple (pa_cons (pv 2) pa_nil))))), ?_⟩
  refine ⟨Nat.zero_le _, fun c hc => ?_⟩
  have lx : as.length = xs.length := Paired.length pa
  refine ⟨_, rfl, l, rfl, ⟨_, (Same.new hc _).seq hS⟩, for_list (K := K) (a := l) (xs := xs) (fun i σ H2 => ∃ (hv tv : Option V) (ys : List V), σ = [some (.int m), some (.ref l), some (.ref c), hv, tv] ∧ Same H H2 ∧ H2 c = some (.lst ys) ∧ Paired (rPair K H2) ((as.take i).map srt) ys)
    ⟨none, none, [], rfl, Same.new hc _, upd_same, .nil⟩ (fun i σ H2 _ ⟨_, _, _, _, sm, _⟩ => sm.seq hS) ?_ ?_⟩
  · rintro i x σ H2 hx ⟨hv, tv, ys, rfl, sm, hC, pc⟩
    obtain ⟨t, ht, rt0⟩ := Paired.get pa hx
    obtain ⟨p, rfl, hp⟩ := rSeq_seq rt0
    obtain ⟨a, b, rfl, a0, a1, b0, b1, nab⟩ := ok.ok t (List.mem_of_getElem? ht)
    have hp2 : SqL K H2 p ([a, b].map V.int) ∨ SqT K H2 p ([a, b].map V.int) := hp.elim (fun z => .inl (sm.seq z)) fun z => .inr (sm.ts.seq z)
    refine ⟨_, rfl, p, [a, b], rfl, hp2, (by show 2 < 64; decide), fun l1 ms hl1 perm pw => ?_⟩
    have em := perm_pair perm pw
    subst em
    refine ⟨l1, _, rfl, .inl ⟨SqL.of upd_same, fun t1 ht1 => ?_⟩⟩
    have hT : (upd (upd H2 l1 (.lst ((srt [a, b]).map V.int))) t1 (.tup ((srt [a, b]).map V.int))) t1 = some (.tup ((srt [a, b]).map V.int)) := upd_same
    have s1 : Same H2 (upd (upd H2 l1 (.lst ((srt [a, b]).map V.int))) t1 (.tup ((srt [a, b]).map V.int))) := (Same.new hl1 _).trans (Same.new ht1 _)
    generalize hH3 : upd (upd H2 l1 (.lst ((srt [a, b]).map V.int))) t1 (.tup ((srt [a, b]).map V.int)) = H3 at hT s1 ⊢
    have hlen : (srt [a, b]).length = 2 := by rw [srt_pair]; split <;> rfl
    have pts : ∃ u v : Int, srt [a, b] = [u, v] ∧ 0 ≤ u ∧ u < v ∧ v < m := by
      rw [srt_pair]
      split
      · exact ⟨b, a, rfl, b0, by omega, a1⟩
      · exact ⟨a, b, rfl, a0, by omega, b1⟩
    obtain ⟨u, v, euv, u0, uv, vm⟩ := pts
    have hT2 : SqT K H3 t1 [.int u, .int v] := by
      have e := SqT.of (K := K) hT
      rw [euv] at e
      exact e
    refine ⟨_, rfl, _, rfl, m, u, v, t1, rfl, hT2, u0, uv, vm, ?_⟩
    have hC3 : H3 c = some (.lst ys) := s1 _ _ hC
    have pc3 : Paired (rPair K H3) ((as.take i).map srt) ys := Paired.imp (fun a b => trep_tup trep_int H2 H3 a b s1.ts) pc
    have rt : rPair K H3 (srt [a, b]) (.ref t1) := rPair_of hT
    refine ⟨_, rfl, _, rfl, _, _, rt, .inl ⟨c, ys, rfl, SqL.of hC3, pc3⟩, _, rfl, ?_⟩
    refine iteN (ok.take_new ht) ?_
    have hys : ys.length ≤ 12 := by
      rw [← Paired.length pc, List.length_map, List.length_take]
      omega
    refine ⟨_, rfl, .inl ⟨rfl, _, SqL.of hC3⟩, _, rfl, c, ys, _, rfl, rfl, hC3, small1000 (by omega), ?_⟩
    refine ⟨_, _, _, rfl, fun b o e => ?_, upd_same, ?_⟩
    · rw [upd_ne (ne_of_none e hc)]
      exact s1 _ _ (sm b o e)
    · have e : as.take (i + 1) = as.take i ++ [[a, b]] := by rw [List.take_add_one, ht]; rfl
      rw [e, List.map_append, List.map_singleton]
      have ts : TSm H3 (upd H3 c (.lst (ys ++ [.ref t1]))) := TSm.lst hC3
      exact Paired.app (Paired.imp (fun a b => trep_tup trep_int H3 _ a b ts) pc3) (Paired.one (trep_tup trep_int H3 _ _ _ ts rt))
  · rintro σ H2 ⟨hv, tv, ys, rfl, sm, hC, pc⟩
    rw [← lx, List.take_length] at pc
    refine ⟨_, rfl, c, _, rfl, .inl ⟨SqL.of hC, fun j hj => ?_⟩⟩
    refine q j _ (sm.trans (Same.new hj _)) ⟨j, ys, rfl, SqT.of upd_same, ?_⟩
    exact Paired.imp (fun a b => trep_tup trep_int H2 _ a b (TSm.new hj)) pc
theorem scInit : FnScope ["self", "many", "ties"] ["self", "many", "ties"] (defScope sInit) := ⟨rfl, rfl, rfl, by decide +kernel, rfl, by decide +kernel, by decide +kernel⟩
theorem ok_init {fA fC : Addr} {fdA fdC : FuncData} (F : Fun K "__init__" "Web.__init__" sInit f fd) (T : Txt K mg C)
    (GA : FnOk P w K mg base CX0 1 fA fdA ["points", "ties"] spAmt) (bA : Binds K fdA ["points", "ties"] []) (kA : PySem.W.keepIn K (.ref fA) = true) (mA : mg "refuse_amounts" = some (.ref fA))
    (GC : FnOk P w K mg base CX0 2 fC fdC ["many", "ties"] (spChk K)) (bC : Binds K fdC ["many", "ties"] []) (kC : PySem.W.keepIn K (.ref fC) = true) (mC : mg "checked_ties" = some (.ref fC)) :
    FnOk P w K mg base CX0 3 f fd ["self", "many", "ties"] (spInit K C) := by
  refine F.ok scInit (fun vs H Q E h => ?_) (fun cdv A outer s H vs Q E hr h => ?_)
  · obtain ⟨p, dx, l, m, xs, as, rfl, _⟩ := h
    rfl
  obtain ⟨p, dx, l, m, xs, as, rfl, hP, hS, pa, ok, h12, h1, h10, q⟩ := h
  have lx : as.length = xs.length := Paired.length pa
  refine ⟨_, pss_cons (ps_expr (pe_call GA (hr.mono (by decide)) rfl mA kA bA .nil pass0 (pa_cons (pv 1) (pa_cons (pe_callB call_len_seq rfl T.len PySem.boot_len (pa_cons (pv 2) pa_nil)) pa_nil))))
    (pss_cons (ps_fld (pv 0) (pv 1) rfl)
    (pss_one (ps_fld (pv 0) (pe_call GC hr rfl mC kC bC .nil pass0 (pa_cons (pv 1) (pa_cons (pv 2) pa_nil))) rfl))), ?_⟩
  refine ⟨_, rfl, _, rfl, l, _, rfl, .inl hS, m, _, rfl, h1, h10, by omega, by omega, ?_⟩
  refine ⟨_, rfl, _, rfl, p, C, dx, [], rfl, hP, T.cl, T.nA, (by show 0 < 1000; decide), ?_⟩
  have ts : TSm H (upd H p (.ins C dx (putF "amount" (.int m) []))) := fun b u hb t => by
    rw [upd_ne ?_]
    · exact hb
    · rintro rfl
      rw [hP] at hb
      cases hb
      obtain ⟨ys, e | ⟨o, e⟩⟩ := t
      · cases e
      · cases e
  have sl : ∀ {a : Addr} {zs : List V}, SqL K H a zs → SqL K (upd H p (.ins C dx (putF "amount" (.int m) []))) a zs := fun {a zs} h => by
    rcases h with (h | ⟨o, h⟩) | h
    · exact .inl (.inl (by rw [upd_ne (ne_of h hP (by intro z; cases z))]; exact h))
    · exact .inl (.inr ⟨o, by rw [upd_ne (ne_of h hP (by intro z; cases z))]; exact h⟩)
    · exact .inr h
  have pa' : Paired (rSeq K (upd H p (.ins C dx (putF "amount" (.int m) [])))) as xs := Paired.imp (fun t x h => by
    rcases h with ⟨q, zs, rfl, hq, pz⟩ | h
    · exact .inl ⟨q, zs, rfl, sl hq, pz⟩
    · exact .inr (trep_tup trep_int _ _ _ _ ts h)) pa
  refine ⟨_, rfl, _, rfl, m, l, xs, as, rfl, sl hS, pa', ok, h12, fun j H' sm rj => ?_⟩
  have hP' : H' p = some (.ins C dx (putF "amount" (.int m) [])) := sm _ _ upd_same
  refine ⟨_, rfl, p, C, dx, _, rfl, hP', T.cl, T.nJ, (by show 1 < 1000; decide), ?_⟩
  refine q _ (fun b o e hb => ?_) ⟨dx, j, upd_same, ?_⟩
  · rw [upd_ne hb]
    exact sm _ _ (by rw [upd_ne hb]; exact e)
  · refine trep_tup (trep_tup trep_int) _ _ _ _ (fun b u hb t => ?_) rj
    rw [upd_ne ?_]
    · exact hb
    · rintro rfl
      rw [hP'] at hb
      cases hb
      obtain ⟨ys, e | ⟨o, e⟩⟩ := t
      · cases e
      · cases e
theorem scSize : FnScope ["self"] ["self"] (defScope sSize) := ⟨rfl, rfl, rfl, by decide +kernel, rfl, by decide +kernel, by decide +kernel⟩
theorem ok_size (F : Fun K "size" "Web.size" sSize f fd) (T : Txt K mg C) : FnOk P w K mg base CX0 1 f fd ["self"] (spSize K C) := by
  refine F.ok scSize (fun vs H Q E h => ?_) (fun cdv A outer s H vs Q E hr h => ?_)
  · obtain ⟨p, m, as, rfl, _⟩ := h
    rfl
  obtain ⟨p, m, as, rfl, ⟨dx, j, hP, hj⟩, q⟩ := h
  refine ⟨_, pss_one (ps_ret (pe_fld (pv 0) rfl)), ?_⟩
  exact ⟨_, rfl, p, C, dx, _, _, rfl, hP, T.cl, T.nA, flds_amount _ _, q⟩
theorem scTies : FnScope ["self"] ["self"] (defScope sTies) := ⟨rfl, rfl, rfl, by decide +kernel, rfl, by decide +kernel, by decide +kernel⟩
theorem ok_ties (F : Fun K "ties" "Web.ties" sTies f fd) (T : Txt K mg C) : FnOk P w K mg base CX0 1 f fd ["self"] (spTies K C) := by
  refine F.ok scTies (fun vs H Q E h => ?_) (fun cdv A outer s H vs Q E hr h => ?_)
  · obtain ⟨p, m, as, rfl, _⟩ := h
    rfl
  obtain ⟨p, m, as, rfl, ⟨dx, j, hP, j', xs, ej, hj, pj⟩, q⟩ := h
  cases ej
  refine ⟨_, pss_one (ps_ret (pe_callTy call_list_of rfl T.list PyProof.Rows.boot_list (pa_cons (pe_fld (pv 0) rfl) pa_nil))), ?_⟩
  refine ⟨_, rfl, p, C, dx, _, _, rfl, hP, T.cl, T.nJ, flds_joints _ _, j, xs, rfl, .inr hj, fun l hl => ?_⟩
  refine q l _ (Same.new hl _) hl ⟨l, xs, rfl, SqL.of upd_same, ?_⟩
  exact Paired.imp (fun a b => trep_tup trep_int H _ a b (TSm.new hl)) pj
theorem scAt : FnScope ["self", "point"] ["self", "point"] (defScope sAt) := ⟨rfl, rfl, rfl, by decide +kernel, rfl, by decide +kernel, by decide +kernel⟩
theorem ok_at (F : Fun K "at" "Web.at" sAt f fd) (T : Txt K mg C) : FnOk P w K mg base CX0 1 f fd ["self", "point"] (spAt K C) := by
  refine F.ok scAt (fun vs H Q E h => ?_) (fun cdv A outer s H vs Q E hr h => ?_)
  · obtain ⟨p, m, x, as, rfl, _⟩ := h
    rfl
  obtain ⟨p, m, x, as, rfl, ⟨dx, j, hP, j', xs, ej, hj, pj⟩, h12, q⟩ := h
  cases ej
  refine ⟨_, pss_one (ps_ret (pe_comp (defScope sAt) ["number", "tie"] ["point"] [1] rfl rfl (by decide +kernel) ⟨⟨rfl, by decide +kernel⟩, trivial⟩ (pi_enumT rfl T.enum (pa_cons (pe_fld (pv 0) rfl) pa_nil))
    (fun _ _ _ => pg_tupK (K := K) (n := 2) rfl rfl (pgs_cons (pg_name (i := 0) (show ((["number", "tie"] : List Str) ++ (["point"] : List Str)).Nodup by decide +kernel) rfl (Or.inl rfl)) (pgs_cons (pg_name (i := 1) (show ((["number", "tie"] : List Str) ++ (["point"] : List Str)).Nodup by decide +kernel) rfl (Or.inl rfl)) pgs_nil)))
    (fun _ _ _ => pifs_one (pt_cmpR (op_in_seqK (K := K) rfl) (pv 2) (pv 1) rfl))
    (fun _ _ _ => pv 0))), ?_⟩
  refine ⟨_, rfl, p, C, dx, _, _, rfl, hP, T.cl, T.nJ, flds_joints _ _, j, rfl, ⟨_, hj⟩, fun D hD => ?_⟩
  have lx : as.length = xs.length := Paired.length pj
  refine turns_enum (xs := xs) (fun i τ H2 => ∃ n t : Option V, τ = [n, t, some (.int x)] ∧ Same H H2 ∧ H2 D = some (.lst ((hits x (as.take i)).map V.int))) ⟨none, none, rfl, Same.new hD _, upd_same⟩
    (fun i τ H2 _ ⟨_, _, _, sm, _⟩ => sm.ts.seq hj) ?_ ?_
  · rintro i y τ H2 T1 hy hT1 ⟨n, t, rfl, sm, hD2⟩
    obtain ⟨tie, ht, rt⟩ := Paired.get pj hy
    obtain ⟨q1, rfl, hq1⟩ := rPair_seq rt
    have s1 : Same H2 (upd H2 T1 (.tup [.int i, .ref q1])) := Same.new hT1 _
    refine ⟨T1, _, rfl, SqT.of upd_same, rfl, _, _, rfl, _, _, rfl, rfl, ?_⟩
    refine ⟨_, rfl, _, rfl, q1, _, rfl, .inr (s1.ts.seq (sm.ts.seq hq1)), rfl, ?_, _, rfl, ?_⟩
    · simp [flatV]
    · rw [if_neg (by decide), inV_ints]
      have hD3 : (upd H2 T1 (.tup [.int i, .ref q1])) D = some (.lst ((hits x (as.take i)).map V.int)) := s1 _ _ hD2
      have hlt : i < as.length := (List.getElem?_eq_some_iff.mp ht).1
      refine ite2 (fun c => ?_) (fun c => ?_)
      · have c' : x ∈ tie := of_decide_eq_true c
        refine ⟨_, rfl, _, hD3, ?_, _, _, rfl, fun b o e => ?_, ?_⟩
        · have : (hits x (as.take i)).length ≤ (as.take i).length := hits_len x 0 (as.take i)
          rw [List.length_map]
          rw [List.length_take] at this
          exact small1000 (by omega)
        · rw [upd_ne (ne_of_none e hD)]
          exact s1 _ _ (sm b o e)
        · rw [upd_same, hits_take ht, if_pos c', List.map_append]
          rfl
      · have c' : ¬ x ∈ tie := fun z => c (decide_eq_true z)
        refine ⟨_, _, rfl, sm.trans s1, ?_⟩
        rw [hD3, hits_take ht, if_neg c', List.append_nil]
  · rintro τ H2 ⟨n, t, rfl, sm, hD2⟩
    rw [← lx, List.take_length] at hD2
    exact q D H2 sm hD hD2
end
end K55
end
section
namespace K55
open PySem L2
def spWeb (K : PySem.W.Frag) : Sp := fun vs H Q _ => ∃ (a : Addr) (ns : List Int) (at_ : Int), vs = [.ref a, .int at_] ∧ SqL K H a (ns.map V.int) ∧ 0 ≤ at_ ∧
  ∀ (t l : Addr) (z : Int) (xs : List V) (as : List (List Int)) (H' : Hp), Same H H' → H' t = some (.tup [.int z, .ref l]) → H' l = some (.lst xs) → H l = none → Paired (rPair K H') as xs → 1 ≤ z → z ≤ 10 → as.length ≤ 12 → OkTies z as → Q (.ref t) H'
section
variable {P : Program} {w : World} {K : PySem.W.Frag} {mg : Str → Option Value} {base : Heap} {f C : Addr} {fd : FuncData}
theorem scWeb : FnScope ["_law_script", "_law_at", "_law_points", "_law_ties", "_law_many", "_law_number", "_law_one", "_law_other"] ["_law_script", "_law_at"] (defScope sWeb) := ⟨rfl, rfl, rfl, by decide +kernel, rfl, by decide +kernel, by decide +kernel⟩
theorem drawn {z v : Int} (h1 : 1 ≤ z) (h10 : z ≤ 10) (hz : 1 < z) (v0 : 0 ≤ v) (vm : v < z * (z - 1)) : OkTie z [v / (z - 1), v % (z - 1) + (if decide (v / (z - 1) ≤ v % (z - 1)) = true then 1 else 0)] := by
  have a0 : 0 ≤ v / (z - 1) := Int.ediv_nonneg v0 (by omega)
  have a1 : v / (z - 1) < z := Int.ediv_lt_of_lt_mul (by omega) vm
  have b0 : 0 ≤ v % (z - 1) := Int.emod_nonneg _ (by omega)
  have b1 : v % (z - 1) < z - 1 := Int.emod_lt_of_pos _ (by omega)
  refine ⟨_, _, rfl, a0, a1, ?_⟩
  by_cases h : v / (z - 1) ≤ v % (z - 1)
  · rw [decide_eq_true h]
    simp only [if_true]
    omega
  · rw [decide_eq_false h]
    simp only [Bool.false_eq_true, if_false]
    omega
theorem ok_web {fC fD : Addr} {fdC fdD : FuncData} (F : Fun K "_law_web" "_law_web" sWeb f fd) (T : Txt K mg C)
    (GC : FnOk P w K mg base CX0 1 fC fdC ["_law_script", "_law_k"] (spCell K)) (bC : Binds K fdC ["_law_script", "_law_k"] []) (kC : PySem.W.keepIn K (.ref fC) = true) (mC : mg "_law_cell" = some (.ref fC))
    (GD : FnOk P w K mg base CX0 2 fD fdD ["_law_cell_here", "_law_many", "_law_most"] spDraw) (bD : Binds K fdD ["_law_cell_here", "_law_many", "_law_most"] []) (kD : PySem.W.keepIn K (.ref fD) = true) (mD : mg "_law_draws" = some (.ref fD)) :
    FnOk P w K mg base CX0 3 f fd ["_law_script", "_law_at"] (spWeb K) := by
  refine F.ok scWeb (fun vs H Q E h => ?_) (fun cdv A outer s H vs Q E hr h => ?_)
  · obtain ⟨a, ns, at_, rfl, _⟩ := h
    rfl
  obtain ⟨a, ns, at_, rfl, hS, at0, q⟩ := h
  have hr1 : Room 1 _ := hr.mono (by decide)
  have hu := hr.units
  refine ⟨_, pss_cons (ps_set (i := 2) scWeb.nd rfl (Or.inl rfl) (pe_op op_add pe_int (pe_op op_mod (pe_call GC hr1 rfl mC kC bC .nil pass0 (pa_cons (pv 0) (pa_cons (pv 1) pa_nil))) pe_int)))
    (pss_cons (ps_set (i := 3) scWeb.nd rfl (Or.inl rfl) (pe_lst pa_nil))
    (pss_cons (ps_set (i := 4) scWeb.nd rfl (Or.inl rfl) (pe_op op_mul (pe_op op_mod (pe_op op_fdiv (pe_call GC hr1 rfl mC kC bC .nil pass0 (pa_cons (pv 0) (pa_cons (pv 1) pa_nil))) pe_int) pe_int) (pe_callTy call_int1 rfl T.int PyProof.Rows.boot_int (pa_cons (pe_cmpR op_gt (pv 2) pe_int (nomark _)) pa_nil))))
    (pss_cons (ps_for PassesOwn.never rfl (pi_list (pe_call GD hr rfl mD kD bD .nil pass0 (pa_cons (pe_call GC hr1 rfl mC kC bC .nil pass0 (pa_cons (pv 0) (pa_cons (pe_op op_add (pv 1) pe_int) pa_nil))) (pa_cons (pv 4) (pa_cons (pe_callB (call_max2 rfl) rfl T.max PyProof.Rows.boot_max (pa_cons pe_int (pa_cons (pe_op op_mul (pv 2) (pe_op op_sub (pv 2) pe_int)) pa_nil))) pa_nil)))))
        (pg_name (i := 5) scWeb.nd rfl (Or.inl rfl))
      (pss_cons (ps_set (i := 6) scWeb.nd rfl (Or.inl rfl) (pe_op op_fdiv (pv 5) (pe_op op_sub (pv 2) pe_int)))
      (pss_cons (ps_set (i := 7) scWeb.nd rfl (Or.inl rfl) (pe_op op_mod (pv 5) (pe_op op_sub (pv 2) pe_int)))
      (pss_cons (ps_set (i := 7) scWeb.nd rfl (Or.inl rfl) (pe_op op_add (pv 7) (pe_callTy call_int1 rfl T.int PyProof.Rows.boot_int (pa_cons (pe_cmpR op_ge (pv 7) (pv 6) (nomark _)) pa_nil))))
      (pss_one (ps_if (PW.pt (pw_and (pt_cmpR (op_notInL (dat_tup dat_int) (un_of hr)) (pe_tup (pa_cons (pv 6) (pa_cons (pv 7) pa_nil))) (pv 3) rfl) (pw_and1 (pt_cmpR (op_notInL (dat_tup dat_int) (un_of hr)) (pe_tup (pa_cons (pv 7) (pa_cons (pv 6) pa_nil))) (pv 3) rfl))))
        (pss_one (ps_expr (pe_bm PySem.F.plainAttrs_list PySem.F.slot_list_append PySem.F.type_list_append mt_append (pv 3) (pa_cons (pe_tup (pa_cons (pv 6) (pa_cons (pv 7) pa_nil))) pa_nil)))) pss_nil))))))
    (pss_one (ps_ret (pe_tup (pa_cons (pv 2) (pa_cons (pv 3) pa_nil)))))))), ?_⟩
  refine ⟨_, rfl, _, rfl, a, ns, at_, rfl, hS, at0, fun c => ?_⟩
  refine ⟨_, _, rfl, rfl, (by show (0 : Int) < 10; decide), _, _, rfl, rfl, ?_⟩
  have z1 : (1 : Int) ≤ 1 + c % 10 := by omega
  have z10 : (1 : Int) + c % 10 ≤ 10 := by omega
  dsimp only
  generalize hz : (1 : Int) + c % 10 = z at z1 z10 ⊢
  refine ⟨Nat.zero_le _, fun l hl => ?_⟩
  have s1 : Same H (upd H l (.lst [])) := Same.new hl _
  refine ⟨_, rfl, _, rfl, a, ns, at_, rfl, s1.seq hS, at0, fun c2 => ?_⟩
  refine ⟨_, _, rfl, rfl, ⟨by decide, by decide⟩, _, _, rfl, rfl, (by show (0 : Int) < 13; decide), _, rfl, _, _, rfl, rfl, .inr ⟨_, rfl, ?_⟩⟩
  have y0 : 0 ≤ c2 / 10 % 13 := Int.emod_nonneg _ (by decide)
  have y1 : c2 / 10 % 13 < 13 := Int.emod_lt_of_pos _ (by decide)
  refine ⟨_, _, rfl, rfl, .inl ⟨by omega, by omega⟩, ?_⟩
  have many : ∃ k : Int, c2 / 10 % 13 * (if decide (1 < z) = true then (1 : Int) else 0) = k ∧ 0 ≤ k ∧ k ≤ 12 ∧ (0 < k → 1 < z) := by
    refine ⟨_, rfl, ?_⟩
    by_cases h : 1 < z
    · rw [decide_eq_true h]
      simp only [if_true, Int.mul_one]
      omega
    · rw [decide_eq_false h]
      simp only [Bool.false_eq_true, if_false, Int.mul_zero]
      omega
  obtain ⟨k, ek, k0, k12, kz⟩ := many
  dsimp only
  rw [ek]
  refine ⟨_, rfl, _, rfl, _, _, rfl, rfl, a, ns, at_ + 1, rfl, s1.seq hS, by omega, fun c3 => ?_⟩
  refine ⟨_, rfl, _, rfl, _, rfl, _, _, rfl, rfl, _, _, rfl, rfl, .inl ⟨by omega, by omega⟩, 1, z * (z - 1), rfl, ?_⟩
  have zz : 0 ≤ z * (z - 1) ∧ z * (z - 1) ≤ 90 := by
    have : z = 1 ∨ z = 2 ∨ z = 3 ∨ z = 4 ∨ z = 5 ∨ z = 6 ∨ z = 7 ∨ z = 8 ∨ z = 9 ∨ z = 10 := by omega
    rcases this with h | h | h | h | h | h | h | h | h | h <;> subst h <;> decide
  refine ⟨c3, k, _, rfl, k0, by omega, by split <;> omega, by split <;> omega, fun l2 ms H2 s2 n2 e2 hms hb => ?_⟩
  have hl2 : H2 l = some (.lst []) := s2 _ _ upd_same
  have sH : Same H H2 := s1.trans s2
  have lms : (ms.map V.int).length = ms.length := List.length_map _
  refine ⟨l2, rfl, ⟨_, SqL.of e2⟩, for_list (K := K) (a := l2) (xs := ms.map V.int) (fun i σ H3 => ∃ (v4 v5 v6 : Option V) (xs : List V) (as : List (List Int)), σ = [some (.ref a), some (.int at_), some (.int z), some (.ref l), some (.int k), v4, v5, v6] ∧ Same H H3 ∧ H3 l2 = some (.lst (ms.map V.int)) ∧ H3 l = some (.lst xs) ∧ Paired (rPair K H3) as xs ∧ as.length ≤ i ∧ OkTies z as)
    ⟨none, none, none, [], [], rfl, sH, e2, hl2, .nil, Nat.le_refl _, ⟨(fun t ht => by cases ht), List.nodup_nil⟩⟩ (fun i σ H3 _ ⟨_, _, _, _, _, _, _, e3, _⟩ => SqL.of e3) ?_ ?_⟩
  · rintro i y σ H3 hy ⟨v4, v5, v6, xs, as, rfl, s3, e3, hL, pl, hlen, ok⟩
    have hi : i < ms.length := by rw [← lms]; exact (List.getElem?_eq_some_iff.mp hy).1
    rw [List.getElem?_map, List.getElem?_eq_getElem hi] at hy
    have ey : y = .int ms[i] := (Option.some.inj hy).symm
    subst ey
    obtain ⟨v0, vm⟩ := hb _ (List.getElem_mem hi)
    have hz1 : 1 < z := kz (by omega)
    have vm' : ms[i] < z * (z - 1) := by
      have hz2 : (1 : Int) ≤ z * (z - 1) := by
        have : z = 2 ∨ z = 3 ∨ z = 4 ∨ z = 5 ∨ z = 6 ∨ z = 7 ∨ z = 8 ∨ z = 9 ∨ z = 10 := by omega
        rcases this with h | h | h | h | h | h | h | h | h <;> subst h <;> decide
      split at vm <;> omega
    have okt := drawn z1 z10 hz1 v0 vm'
    refine ⟨_, rfl, _, rfl, _, _, rfl, rfl, _, _, rfl, rfl, ⟨by omega, by omega⟩, ?_⟩
    refine ⟨_, rfl, _, rfl, _, _, rfl, rfl, _, _, rfl, rfl, (by show 0 < z - 1; omega), ?_⟩
    refine ⟨_, rfl, _, rfl, _, rfl, _, _, rfl, rfl, .inr ⟨_, rfl, ?_⟩⟩
    refine ⟨_, _, rfl, rfl, ?_⟩
    dsimp only
    generalize ho : ms[i] / (z - 1) = one at okt ⊢
    generalize hq : ms[i] % (z - 1) + (if decide (one ≤ ms[i] % (z - 1)) = true then 1 else 0) = oth at okt ⊢
    refine ⟨_, rfl, _, rfl, (by show 2 ≤ sizeLine; decide), fun t1 ht1 => ?_⟩
    have st1 : Same H3 (upd H3 t1 (.tup [.int one, .int oth])) := Same.new ht1 _
    have rt1 : rPair K (upd H3 t1 (.tup [.int one, .int oth])) [one, oth] (.ref t1) := rPair_of upd_same
    have pl1 : Paired (rPair K (upd H3 t1 (.tup [.int one, .int oth]))) as xs := Paired.imp (fun a b => trep_tup trep_int _ _ a b st1.ts) pl
    refine ⟨_, rfl, _, _, rt1, .inl ⟨l, xs, rfl, SqL.of (st1 _ _ hL), pl1⟩, _, rfl, ?_⟩
    by_cases c1 : [one, oth] ∈ as
    · refine iteNP c1 (iteF ?_)
      exact ⟨_, _, _, xs, as, rfl, s3.trans st1, st1 _ _ e3, st1 _ _ hL, pl1, by omega, ok⟩
    · refine iteNN c1 ?_
      refine ⟨_, rfl, _, rfl, (by show 2 ≤ sizeLine; decide), fun t2 ht2 => ?_⟩
      have st2 := Same.new ht2 (.tup [.int oth, .int one])
      generalize hH4 : upd (upd H3 t1 (.tup [.int one, .int oth])) t2 (.tup [.int oth, .int one]) = H4 at st2 ⊢
      have s34 : Same H3 H4 := st1.trans st2
      have rt2 : rPair K H4 [oth, one] (.ref t2) := rPair_of (by rw [← hH4]; exact upd_same)
      have pl2 : Paired (rPair K H4) as xs := Paired.imp (fun a b => trep_tup trep_int _ _ a b st2.ts) pl1
      refine ⟨_, rfl, _, _, rt2, .inl ⟨l, xs, rfl, SqL.of (s34 _ _ hL), pl2⟩, _, rfl, ?_⟩
      by_cases c2 : [oth, one] ∈ as
      · refine iteNP c2 ?_
        exact ⟨_, _, _, xs, as, rfl, s3.trans s34, s34 _ _ e3, s34 _ _ hL, pl2, by omega, ok⟩
      · refine iteNN c2 ?_
        refine ⟨_, rfl, .inl ⟨rfl, _, SqL.of (s34 _ _ hL)⟩, _, rfl, _, rfl, (by show 2 ≤ sizeLine; decide), fun t3 ht3 => ?_⟩
        have st3 := Same.new ht3 (.tup [.int one, .int oth])
        have hL5 := st3 _ _ (s34 _ _ hL)
        have lxs : xs.length = as.length := (Paired.length pl).symm
        refine ⟨l, xs, _, rfl, rfl, hL5, small1000 (by omega), ?_⟩
        have nl : ∀ b o, H b = some o → b ≠ l := fun b o e => ne_of_none e hl
        refine ⟨_, _, _, _, as ++ [[one, oth]], rfl, fun b o e => ?_, ?_, upd_same, ?_, ?_, ok.snoc okt c1 c2⟩
        · rw [upd_ne (nl b o e)]
          exact st3 _ _ (s34 _ _ (s3 b o e))
        · have : l2 ≠ l := fun e => by
            rw [e] at n2
            rw [upd_same] at n2
            cases n2
          rw [upd_ne this]
          exact st3 _ _ (s34 _ _ e3)
        · have ts := TSm.lst (o := .lst (xs ++ [.ref t3])) hL5
          have r3 : rPair K (upd H4 t3 (.tup [.int one, .int oth])) [one, oth] (.ref t3) := rPair_of upd_same
          exact Paired.app (Paired.imp (fun a b => trep_tup trep_int _ _ a b (st3.ts.trans ts)) pl2) (Paired.one (trep_tup trep_int _ _ _ _ ts r3))
        · rw [List.length_append, List.length_singleton]
          omega
  · rintro σ H3 ⟨v4, v5, v6, xs, as, rfl, s3, e3, hL, pl, hlen, ok⟩
    refine ⟨_, rfl, _, rfl, (by show 2 ≤ sizeLine; decide), fun t ht => ?_⟩
    have st := Same.new ht (.tup [.int z, .ref l])
    refine q t l z xs as _ (s3.trans st) upd_same (st _ _ hL) hl (Paired.imp (fun a b => trep_tup trep_int _ _ a b st.ts) pl) z1 z10 (by omega) ok
end
end K55
end
section
namespace K55
open PySem L2
abbrev rRow (K : PySem.W.Frag) (H : Hp) (s : Addr) (ms : List Int) : Prop := SqL K H s (ms.map V.int) ∨ SqT K H s (ms.map V.int)
theorem rRow.same {K : PySem.W.Frag} {H H' : Hp} {s : Addr} {ms : List Int} (h : rRow K H s ms) (e : Same H H') : rRow K H' s ms := h.elim (fun z => .inl (e.seq z)) fun z => .inr (e.ts.seq z)
def spWithin (K : PySem.W.Frag) : Sp := fun vs H Q _ => ∃ (l s : Addr) (ns ms : List Int), vs = [.ref l, .ref s] ∧ SqL K H l (ns.map V.int) ∧ rRow K H s ms ∧ ns.length ≤ 12 ∧
  ∀ (D : Addr) (H' : Hp), Same H H' → H D = none → H' D = some (.lst ((ns.filter fun k => decide (k ∈ ms)).map V.int)) → Q (.ref D) H'
def cnts (as : List (List Int)) (ms : List Int) : Nat → List Int
  | 0 => []
  | i + 1 => cnts as ms i ++ [(((hits (i : Int) as).filter fun k => decide (k ∈ ms)).length : Int)]
theorem cnts_len (as : List (List Int)) (ms : List Int) : ∀ i, (cnts as ms i).length = i
  | 0 => rfl
  | i + 1 => by
    show (cnts as ms i ++ _).length = _
    rw [List.length_append, cnts_len as ms i]
    rfl
def spCounts (K : PySem.W.Frag) (C : Addr) : Sp := fun vs H Q _ => ∃ (p s : Addr) (z : Int) (as : List (List Int)) (ms : List Int), vs = [.ref p, .ref s] ∧ WebAt K C H p z as ∧ rRow K H s ms ∧ 1 ≤ z ∧ z ≤ 10 ∧ as.length ≤ 12 ∧
  ∀ (D : Addr) (H' : Hp), Same H H' → H D = none → H' D = some (.lst ((cnts as ms z.toNat).map V.int)) → Q (.ref D) H'
theorem int_at {ns : List Int} {i : Nat} {y : V} (h : (ns.map V.int)[i]? = some y) : ∃ u, ns[i]? = some u ∧ y = .int u := by
  rw [List.getElem?_map] at h
  cases e : ns[i]? with
  | none => rw [e] at h; cases h
  | some u => rw [e] at h; exact ⟨u, rfl, (Option.some.inj h).symm⟩
theorem take_snoc {α : Type} {l : List α} {i : Nat} {x : α} (h : l[i]? = some x) : l.take (i + 1) = l.take i ++ [x] := by rw [List.take_add_one, h]; rfl
theorem flat_ints (ms : List Int) : (ms.map V.int).all flatV = true := by
  rw [List.all_eq_true]
  intro x hx
  obtain ⟨i, _, rfl⟩ := List.mem_map.mp hx
  rfl
section
variable {P : Program} {w : World} {K : PySem.W.Frag} {mg : Str → Option Value} {base : Heap} {f C : Addr} {fd : FuncData}
theorem scWithin : FnScope ["numbers", "some"] ["numbers", "some"] (defScope sWithin) := ⟨rfl, rfl, rfl, by decide +kernel, rfl, by decide +kernel, by decide +kernel⟩
theorem ok_within (F : Fun K "ties_within" "ties_within" sWithin f fd) : FnOk P w K mg base CX0 1 f fd ["numbers", "some"] (spWithin K) := by
  refine F.ok scWithin (fun vs H Q E h => ?_) (fun cdv A outer s H vs Q E hr h => ?_)
  · obtain ⟨l, so, ns, ms, rfl, _⟩ := h
    rfl
  obtain ⟨l, so, ns, ms, rfl, hl, hso, h12, q⟩ := h
  refine ⟨_, pss_one (ps_ret (pe_comp (defScope sWithin) ["number"] ["some"] [1] rfl rfl (by decide +kernel) ⟨⟨rfl, by decide +kernel⟩, trivial⟩ (pi_list (pv 0))
      (fun _ _ _ => pg_name (i := 0) (show ((["number"] : List Str) ++ (["some"] : List Str)).Nodup by decide +kernel) rfl (Or.inl rfl))
      (fun _ _ _ => pifs_one (pt_cmpR (op_in_seqK (K := K) rfl) (pv 0) (pv 1) rfl))
      (fun _ _ _ => pv 0))), ?_⟩
  refine ⟨_, rfl, l, rfl, ⟨_, hl⟩, fun D hD => ?_⟩
  refine turns_list (xs := ns.map V.int) (fun i τ H2 => ∃ n : Option V, τ = [n, some (.ref so)] ∧ Same H H2 ∧ H2 D = some (.lst (((ns.take i).filter fun k => decide (k ∈ ms)).map V.int))) ⟨none, rfl, Same.new hD _, upd_same⟩
    (fun i τ H2 _ ⟨_, _, sm, _⟩ => sm.seq hl) ?_ ?_
  · rintro i y τ H2 hy ⟨n, rfl, sm, hD2⟩
    obtain ⟨u, hu, rfl⟩ := int_at hy
    refine ⟨_, rfl, _, rfl, so, ms.map V.int, rfl, hso.same sm, rfl, flat_ints ms, _, rfl, ?_⟩
    rw [if_neg (show ¬ (false = true) by decide), inV_ints]
    show putD D _ _ _ (decide (u ∈ ms)) _
    have ef : (ns.take (i + 1)).filter (fun k => decide (k ∈ ms)) = (ns.take i).filter (fun k => decide (k ∈ ms)) ++ (if u ∈ ms then [u] else []) := by
      rw [take_snoc hu, List.filter_append]
      by_cases c : u ∈ ms <;> simp [c]
    by_cases c : u ∈ ms
    · refine iteP c ⟨_, rfl, _, hD2, ?_, _, rfl, fun b o e => ?_, ?_⟩
      · have := List.length_filter_le (fun k => decide (k ∈ ms)) (ns.take i)
        rw [List.length_take] at this
        rw [List.length_map]
        exact small1000 (by omega)
      · rw [upd_ne (ne_of_none e hD)]
        exact sm b o e
      · rw [upd_same, ef, if_pos c, List.map_append]
        rfl
    · refine iteN c ⟨_, rfl, sm, ?_⟩
      rw [hD2, ef, if_neg c, List.append_nil]
  · rintro τ H2 ⟨n, rfl, sm, hD2⟩
    rw [List.length_map, List.take_length] at hD2
    exact q D H2 sm hD hD2
theorem scCounts : FnScope ["web", "some"] ["web", "some"] (defScope sCounts) := ⟨rfl, rfl, rfl, by decide +kernel, rfl, by decide +kernel, by decide +kernel⟩
theorem ok_counts {fS fA fW : Addr} {fdS fdA fdW : FuncData} (F : Fun K "tie_counts" "tie_counts" sCounts f fd) (T : Txt K mg C)
    (GS : FnOk P w K mg base CX0 1 fS fdS ["self"] (spSize K C)) (bS : Binds K fdS ["self"] []) (mS : Meth K C "size" fS)
    (GA : FnOk P w K mg base CX0 1 fA fdA ["self", "point"] (spAt K C)) (bA : Binds K fdA ["self", "point"] []) (mA : Meth K C "at" fA)
    (GW : FnOk P w K mg base CX0 1 fW fdW ["numbers", "some"] (spWithin K)) (bW : Binds K fdW ["numbers", "some"] []) (kW : PySem.W.keepIn K (.ref fW) = true) (mW : mg "ties_within" = some (.ref fW)) :
    FnOk P w K mg base CX0 2 f fd ["web", "some"] (spCounts K C) := by
  refine F.ok scCounts (fun vs H Q E h => ?_) (fun cdv A outer s H vs Q E hr h => ?_)
  · obtain ⟨p, sm, z, as, ms, rfl, _⟩ := h
    rfl
  obtain ⟨p, so, z, as, ms, rfl, hW, hso, z1, z10, h12, q⟩ := h
  refine ⟨_, pss_one (ps_ret (pe_comp (defScope sCounts) ["point"] ["web", "some"] [0, 1] rfl rfl (by decide +kernel) ⟨⟨rfl, by decide +kernel⟩, ⟨rfl, by decide +kernel⟩, trivial⟩ (pi_range1 rfl T.range (pa_cons (pe_meth0 (pv 0) T.cl mS GS hr bS .nil pass0) pa_nil))
      (fun _ _ _ => pg_name (i := 0) (show ((["point"] : List Str) ++ (["web", "some"] : List Str)).Nodup by decide +kernel) rfl (Or.inl rfl))
      (fun _ _ _ => pifs_nil)
      (fun _ _ _ => pe_callB (call_len_seqK (K := K) rfl) rfl T.len PySem.boot_len (pa_cons (pe_call GW hr rfl mW kW bW .nil pass0 (pa_cons (pe_meth (pv 1) T.cl mA GA hr bA .nil pass0 (pa_cons (pv 0) pa_nil)) (pa_cons (pv 2) pa_nil))) pa_nil)))), ?_⟩
  obtain ⟨dx, j, hP, _⟩ := id hW
  refine ⟨_, rfl, p, dx, _, rfl, hP, flds_no _ _ (by decide +kernel) (by decide +kernel), p, z, _, rfl, hW, ?_⟩
  refine ⟨z, rfl, by omega, by omega, fun D hD => ?_⟩
  refine turns_range (lo := 0) (n := z.toNat) (fun i τ H2 => ∃ (n : Option V), τ = [n, some (.ref p), some (.ref so)] ∧ Same H H2 ∧ H2 D = some (.lst ((cnts as ms i).map V.int))) ⟨none, rfl, Same.new hD _, upd_same⟩ ?_ ?_
  · rintro i τ H2 hi ⟨n, rfl, s2, e2⟩
    have ei : (0 : Int) + (i : Int) = (i : Int) := by omega
    rw [ei]
    refine yesN ?_
    have hW2 := hW.same s2
    obtain ⟨dx2, j2, hP2, _⟩ := id hW2
    refine ⟨_, rfl, p, dx2, _, rfl, hP2, flds_no _ _ (by decide +kernel) (by decide +kernel), _, rfl, p, z, _, as, rfl, hW2, h12, fun l3 H3 s3 n3 e3 => ?_⟩
    have hl := hits_len (i : Int) 0 as
    refine ⟨_, rfl, l3, so, hits (i : Int) as, ms, rfl, SqL.of e3, hso.same (s2.trans s3), Nat.le_trans hl h12, fun D4 H4 s4 n4 e4 => ?_⟩
    refine ⟨D4, _, rfl, .inl (SqL.of e4), _, s4 _ _ (s3 _ _ e2), ?_, _, rfl, fun b o e => ?_, ?_⟩
    · rw [List.length_map, cnts_len]
      exact small1000 (by omega)
    · rw [upd_ne (ne_of_none e hD)]
      exact s4 _ _ (s3 _ _ (s2 b o e))
    · rw [upd_same, List.length_map]
      show _ = some (HO.lst ((cnts as ms i ++ [(((hits (i : Int) as).filter fun k => decide (k ∈ ms)).length : Int)]).map V.int))
      rw [List.map_append]
      rfl
  · rintro τ H2 ⟨n, rfl, s2, e2⟩
    exact q D H2 s2 hD e2
end
end K55
end
section
namespace L2
open PySem PySem.Spec PyProof.Rows
section
variable {prog : Program} {w : World} {A : Around} {E : Value → Shared → Prop} {s : Shared} {d : Addr} {o : Obj} {es : Array DictEntry} {ep : Nat}
theorem meets_len_raw (d : Addr) (hd : (d == sysModules) = false) :
    MeetsIn prog w (Builtin.«dict.__len__» ⟨[.ref d], []⟩) (fun _ R s => ∃ o es ep, s.heap.get? d = some o ∧ o.data = .dict es ep ∧ R (.ok (.ret (.int es.size s.toks))) { s with toks := s.toks + 1 }) :=
  .of_wp fun A R s ⟨o, es, ep, ho, hdat, h⟩ => by
    show wpAny _ _ (dictSize d >>= _) _ _ s
    unfold dictSize
    refine wpAny_bind (wpAny_bind (wpAny_dictEntries ho hdat (wpAny_pure ?_)))
    show wpAny _ _ (Builtin.Dict.pendingCount d >>= _) _ _ s
    refine wpAny_bind (wpAny_pendingCount_other hd ?_)
    refine wpAny_ret_mkInt ?_
    rw [Nat.add_zero]; exact h
theorem len_raw {Q : Value → Shared → Prop} (hd : (d == sysModules) = false) (hT : s.TypeIs (.ref d) "dict") (ho : s.heap.get? d = some o) (hdat : o.data = .dict es ep) (hfit : (es.size : Int) < 2 ^ 63)
    (h : Q (.int es.size (s.toks + 1)) { s with toks := s.toks + 1 + 1 }) : wpAny (model prog w) A (call (.builtin "len") [.ref d]) Q E s := by
  refine Calls.call_function_entry kind_len plain_len entry_len (args_len1 _) ?_
  unfold Builtin.«len»
  refine wpAny_bind (m := oneArg "len" _) (wpAny_pure ?_)
  refine wpAny_bind (m := callSpecial? (.ref d) (Str.ofString "__len__")) (wpAny_callSpecial?_slot (name := Str.ofString "__len__") hT PySem.F.slot_dict_len
    (call_meetsIn PySem.F.slot_dict_len hT PySem.F.entry_dict_len (PySem.F.args_dict_len_1 _) (meets_len_raw d hd) ⟨o, es, ep, ho, hdat, ?_⟩))
  show wpAny _ _ _ _ _ { s with toks := s.toks + 1 }
  refine wpAny_bind (wpAny_holding (wpAny_pure ?_))
  refine wpAny_bind (wpAny_letGo ?_)
  show wpAny _ _ (if ((es.size : Nat) : Int) < 0 then _ else _) _ _ _
  rw [if_neg (by omega)]
  show wpAny _ _ (if ((es.size : Nat) : Int) ≥ 2 ^ 63 then _ else _) _ _ _
  rw [if_neg (by omega)]
  exact wpAny_bind (wpAny_mkInt (wpAny_pure ⟨_, rfl, h⟩))
end
section
variable {X : Cx}
theorem call_len_dT : CallR X (.builtin "len") (fun xs H Q => ∃ p kvs, xs = [.ref p] ∧ H p = some (.dT kvs) ∧ Q (.int kvs.length) H) := by
  intro pins s σ H xs us Q I rr h
  obtain ⟨p, kvs, rfl, hp, q⟩ := h
  obtain ⟨u, rfl, ru⟩ := rr.one
  cases ru
  obtain ⟨z, lo, ts, kt, o, es, ep, h1, h2, h3, h4, h5⟩ := (show ObjOk X.prog X.w H s.heap p (.dT kvs) from I.hok p _ hp)
  have hl : es.size = kvs.length := by
    rw [← Array.length_toList, h4, List.length_map]
    exact (Paired.length kt).symm
  refine len_raw lo ⟨o, h1, h2.1⟩ h1 h3 (by rw [hl]; rw [sizeLine_eq] at z; omega) ?_
  exact ⟨.int kvs.length, H, I.tok _, ⟨_, by rw [hl]⟩, q⟩
end
def Itd (lo : Int) (n : Nat) : It := ⟨fun i _ => i < n, fun i H x H' => H' = H ∧ x = .int (lo - i), fun i _ => n ≤ i⟩
theorem turn_down {P : Program} {w : World} {K : PySem.W.Frag} {tg : Expr} (it : Addr) (lo : Int) (n : Nat) : Turn P w K tg (Itd lo n) [it] it (fun i h => IsRangeIter h it (lo + (i : Nat) * (-1)) ((n : Int) - (i : Nat)) (-1)) where
  mem := by simp
  obj := fun i h st b hb => by
    have e : b = it := by simpa using hb
    subst e
    exact ⟨_, st, fun v z => by
      have z' : Data.fields _ = Data.cell v := z
      cases z'⟩
  keep := fun i h h' st k => k it (by simp) _ st
  item := by
    intro X hP hw hK hc i pins s σ H E I hf st hg
    subst hP hw hK
    obtain ⟨f0, f1, f2, f3, f4, f5⟩ := hf it (by simp)
    have W := Walks.range (prog := X.prog) (w := X.w) (I.ok.hd hc) it lo (-1) n
    refine W.item i s _ _ hg st fun v h' tk hv st' kk => ?_
    obtain ⟨t, rfl⟩ := hv
    have I1 : Inv X pins σ H { s with heap := h', toks := tk } := I.turned (fun b o hb e => kk b o (by simpa using hb) e) f0 f1 f3 f4 f5
    refine ⟨_, rfl, go_of (s := { s with heap := h', toks := tk }) (n := "range_iterator") st' rfl rfl (by decide) ⟨.int (lo - i), H, I1, ⟨t, ?_⟩, ⟨rfl, rfl⟩, st', fun b hb => (hf b hb).1⟩⟩
    congr 1
    omega
  done := by
    intro X hP hw hK hc i pins s σ H E I hf st hg
    subst hP hw hK
    obtain ⟨f0, f1, f2, f3, f4, f5⟩ := hf it (by simp)
    exact wpAny_pyNext_range_end (I.ok.hd hc) st (by have : n ≤ i := hg; omega) fun h' eb => ⟨rfl, I.turned (t' := s.toks) (fun b o hb e => eb b o hb e) f0 f1 f3 f4 f5⟩
  self := fun _ _ _ _ _ st h => wpAny_pyIter_rangeiter st h
theorem rangeSize_down (a b : Int) : Builtin.Range.rangeSize a b (-1) = if b < a then a - b else 0 := by
  unfold Builtin.Range.rangeSize
  simp only [show ¬ ((-1 : Int) > 0) by decide, if_false]
  split
  · rw [show (- -1 : Int) = 1 from rfl, Int.ediv_one]; omega
  · rfl
theorem small_down {a b : Int} (ha : -(2 ^ 62) ≤ a) (ha' : a < 2 ^ 62) (hb : -(2 ^ 62) ≤ b) (hb' : b < 2 ^ 62) : Builtin.Range.small a b (-1) = true := by
  unfold Builtin.Range.small
  rw [rangeSize_down]
  simp only [Builtin.Range.rangeFitsLong, Bool.and_eq_true, Bool.or_eq_true, decide_eq_true_eq, beq_iff_eq, show ¬ ((-1 : Int) > 0) by decide, if_false]
  split <;> omega
section
variable {X : Cx} {tg : Expr}
theorem range_itd {pins : List (Addr × Obj)} {σ : St} {H : Hp} {s : Shared} {R : It → Hp → Prop} {E : Value → Shared → Prop} {lo hi : Int} {t u v : Tok} {tk : Nat} (I : Inv X pins σ H s) (h1 : -(2 ^ 62) ≤ lo) (h2 : lo < 2 ^ 62) (h3 : -(2 ^ 62) ≤ hi) (h4 : hi < 2 ^ 62)
    (q : R (Itd lo (lo - hi).toNat) H) : wpAny (model X.prog X.w) X.A (pyIter (.ref s.heap.objs.size)) (PIE X pins σ tg R) E { s with heap := s.heap.push { cls := .type "range", data := .fields #[.int lo t, .int hi u, .int (-1) v] }, toks := tk } := by
  refine wpAny_pyIter_range (IsRange.new ..) (small_down h1 h2 h3 h4) ?_
  have I1 : Inv X pins σ H { s with heap := s.heap.push { cls := .type "range", data := .fields #[.int lo t, .int hi u, .int (-1) v] }, toks := tk } := I.kept fun b o e => Heap.get?_push_of_some _ e
  refine ⟨(s.heap.push { cls := .type "range", data := .fields #[.int lo t, .int hi u, .int (-1) v] }).objs.size, [(s.heap.push { cls := .type "range", data := .fields #[.int lo t, .int hi u, .int (-1) v] }).objs.size], _, _, H, rfl,
    I1.kept (t' := tk) fun b o e => Heap.get?_push_of_some _ e, turn_down _ lo (lo - hi).toNat, ?_, fun b hb => ?_, q⟩
  · have e1 : lo + ((0 : Nat) : Int) * (-1) = lo := by simp
    have e2 : (((lo - hi).toNat : Nat) : Int) - ((0 : Nat) : Int) = Builtin.Range.rangeSize lo hi (-1) := by rw [rangeSize_down]; split <;> omega
    show IsRangeIter _ _ (lo + ((0 : Nat) : Int) * (-1)) ((((lo - hi).toNat : Nat) : Int) - ((0 : Nat) : Int)) (-1)
    rw [e1, e2]
    exact Heap.get?_push_size _ rfl
  · have e : b = (s.heap.push { cls := .type "range", data := .fields #[.int lo t, .int hi u, .int (-1) v] }).objs.size := by simpa using hb
    subst e
    exact I1.fpOk (Nat.le_refl _) (I1.hok.fresh (Nat.le_refl _))
def iRngD (ta : TA) : TI := fun σ H R => ta σ H fun vs H1 => ∃ i j : Int, vs = [.int i, .int j, .int (-1)] ∧ (-(2 ^ 62) ≤ i ∧ i < 2 ^ 62 ∧ -(2 ^ 62) ≤ j ∧ j < 2 ^ 62) ∧ R (Itd i (i - j).toNat) H1
theorem pi_rangeD {a b c : Expr} {ta : TA} {p pos : Pos} (hg : Gl X "range") (hm : X.mg "range" = none) (ha : PA X [a, b, c] ta) (hs : starEach [a, b, c] X.env = [(false, eval a X.env), (false, eval b X.env), (false, eval c X.env)] := by rfl) (hs2 : starEach [b, c] X.env = [(false, eval b X.env), (false, eval c X.env)] := by rfl) :
    PI X tg (.Call (.Name "range" p) [a, b, c] [] pos) (iRngD ta) := by
  intro pins s σ H R I h
  refine Call_ (ld_blt I hg hm boot_range (PyProof.Rows.callWith_type1 (thn (ha pos pins s σ H _ I h) fun us s1 ⟨vs, H1, I1, r1, q1⟩ => ?_) (by rw [hs, hs2]) (by rw [hs2]; rfl)))
  obtain ⟨i, j, e, ⟨q1, q2, q3, q4⟩, q⟩ := q1
  subst e
  cases r1 with
  | cons r rr =>
    cases rr with
    | cons r' rr =>
      cases rr with
      | cons r'' rr =>
        cases rr
        obtain ⟨t, rfl⟩ := r
        obtain ⟨t', rfl⟩ := r'
        obtain ⟨t'', rfl⟩ := r''
        exact call_range_3 (by decide) (range_itd I1 q1 q2 q3 q4 q) (.inl (PyProof.noPylong_small (by decide)))
theorem for_down {lo : Int} {n : Nat} {g : TG} {tb : TS} {D : Ends} {σ : St} {H : Hp} (Pv : Nat → St → Hp → Prop) (h0 : Pv 0 σ H)
    (hs : ∀ i σ H, i < n → Pv i σ H → g (.int (lo - i)) σ H fun σ2 H2 => tb { D with nx := Pv (i + 1), ct := Pv (i + 1), bk := D.nx } σ2 H2) (hd : ∀ σ H, Pv n σ H → D.nx σ H) :
    ∃ W : Nat → Nat → St → Hp → Prop, (∃ m, W 0 m σ H) ∧ ∀ i m σ H, W i m σ H →
      ((Itd lo n).stop i H ∧ D.nx σ H) ∨ ((Itd lo n).go i H ∧ ∃ N : St → Hp → Prop, (∀ σ' H', N σ' H' → ∃ m', m' < m ∧ W (i + 1) m' σ' H') ∧ ∀ x H', (Itd lo n).yld i H x H' → g x σ H' fun σ2 H2 => tb { D with nx := N, ct := N, bk := D.nx } σ2 H2) := by
  refine ⟨fun i m σ H => m = n - i ∧ i ≤ n ∧ Pv i σ H, ⟨n, by simp, Nat.zero_le _, h0⟩, ?_⟩
  rintro i m σ H ⟨rfl, hi, p⟩
  by_cases hlt : i < n
  · refine .inr ⟨hlt, Pv (i + 1), fun σ' H' p' => ⟨n - (i + 1), by omega, rfl, hlt, p'⟩, fun x H' y => ?_⟩
    obtain ⟨e, y⟩ := y
    subst e y
    exact hs i σ _ hlt p
  · have e : i = n := by omega
    subst e
    exact .inl ⟨Nat.le_refl _, hd σ H p⟩
end
end L2
end
section
namespace L2
open PySem
open Sem (wp)
section
variable {prog : Program} {w : World} {A : Around} {E : Value → Shared → Prop} {s : Shared}
end
end L2
end
section
namespace L2
open PySem
open Sem (wp)
open AutoSeq1 (wpAny_loadPart')
section
variable {prog : Program} {w : World} {A : Around} {E : Value → Shared → Prop} {s : Shared}
end
section
variable {M : Model} {A : Around} {E : Value → Shared → Prop} {s : Shared} {env : Env}
end
end L2
end
section
namespace L2
open PySem PySem.Spec PyProof.Rows
section
variable {X : Cx} {elts : List Expr} {k : Nat} {tp : Pos}
end
end L2
end
section
namespace L2
open PySem PySem.Spec PyProof.Rows
theorem vals_bool {bs : List Bool} {us : List Value} (r : Vals (bs.map V.bl) us) : us = bs.map Value.bool := by
  induction bs generalizing us with
  | nil => cases r; rfl
  | cons b bs ih =>
    rw [List.map_cons] at r
    cases r with
    | cons h t =>
      rw [ih t, List.map_cons]
      congr 1
section
variable {X : Cx} {K : PySem.W.Frag}
theorem call_all_bools (hc : X.calm = true) : CallR X (.builtin "all") (fun xs H Q => ∃ (p : Addr) (bs : List Bool), xs = [.ref p] ∧ SqL X.K H p (bs.map V.bl) ∧ Q (.bl (bs.all id)) H) := by
  intro pins s σ H xs us Q I r h
  obtain ⟨p, bs, rfl, hq, q⟩ := h
  obtain ⟨u0, rfl, ru⟩ := r.one
  cases ru
  obtain ⟨its, rv, pl, hz⟩ := I.list hq
  have e := vals_bool rv
  subst e
  have hl := pl.isList
  have hlt : p < s.heap.objs.size := by obtain ⟨_, e, _⟩ := hl; exact Heap.lt_size e
  refine call_all_walk (wpAny_pyIter_list hl ?_)
  refine ⟨s.heap.objs.size, [s.heap.objs.size, p], [s.heap.objs.size], (bs.map Value.bool).toArray.size, _, _, fun i => (bs[i]?).getD true, rfl, Walks.list (A := X.A.in1) (I.ok.hd hc) _ p (Nat.ne_of_lt hlt) (bs.map Value.bool).toArray,
    ⟨⟨_, Heap.get?_push_size _ rfl, rfl, rfl⟩, hl.push _⟩, fun i v s' Q' E' hP hQ => ?_, fun h' tk hk => ?_⟩
  · have hP' : (bs.map Value.bool)[i]? = some v := by simpa using hP
    rw [List.getElem?_map] at hP'
    cases g : bs[i]? with
    | none => rw [g] at hP'; cases hP'
    | some b =>
      rw [g] at hP'
      cases hP'
      simp only [g, Option.getD_some] at hQ
      exact wpAny_truthy_bool hQ
  · have e : ((List.range (bs.map Value.bool).toArray.size).all fun i => (bs[i]?).getD true) = bs.all id := by
      rw [List.size_toArray, List.length_map]; exact LSm.range_all bs
    rw [e]
    exact ⟨.bl (bs.all id), H, I.kept (LSm.kept_iter hk), rfl, q⟩
end
end L2
end
section
namespace K55
open PySem L2
structure Rul (K : PySem.W.Frag) (mg : Str → Option Value) (D : Addr) : Prop where
  cl : Cls K D
  makes : PySem.W.makesIn K D = true
  hi : PySem.W.findIn K (.ref D) "__init__" = some (some (.builtin "object.__init__"))
  kp : PySem.W.keepIn K (.ref D) = true
  mgD : mg "Covers" = some (.ref D)
  all : mg "all" = none
  sev : ∃ t, mg "SEVERAL" = some (.int 2 t)
def cov (as : List (List Int)) (ms : List Int) (m : Nat) : Bool := (List.range m).all fun p : Nat => ms.any fun k => (as.getD k.toNat []).contains (p : Int)
theorem cov_succ (as : List (List Int)) (ms : List Int) (m : Nat) : cov as ms (m + 1) = (cov as ms m && ms.any fun k => (as.getD k.toNat []).contains (m : Int)) := by
  unfold cov
  rw [List.range_succ, List.all_append]
  simp
theorem cov_cnts {as : List (List Int)} {ms : List Int} (hr : ∀ k ∈ ms, 0 ≤ k ∧ k < as.length) : ∀ m, (cnts (as.map srt) ms m).all (fun c => decide (1 ≤ c)) = cov as ms m
  | 0 => rfl
  | m + 1 => by
    show (cnts (as.map srt) ms m ++ [_]).all _ = _
    rw [List.all_append, cov_cnts hr m, cov_succ]
    congr 1
    rw [List.all_cons, List.all_nil, Bool.and_true, Bool.eq_iff_iff, decide_eq_true_iff, List.any_eq_true]
    have e : hits (m : Int) (as.map srt) = hits (m : Int) as := hits_srt _ 0 as
    rw [e]
    constructor
    · intro h
      have hp : 0 < ((hits (m : Int) as).filter fun k => decide (k ∈ ms)).length := by omega
      obtain ⟨x, hx⟩ := List.exists_mem_of_length_pos hp
      obtain ⟨h1, h2⟩ := List.mem_filter.mp hx
      obtain ⟨i, t, e1, e2, e3⟩ := L2.mem_hits.mp h1
      refine ⟨x, of_decide_eq_true h2, ?_⟩
      have ex : x.toNat = i := by omega
      rw [ex, List.getD_eq_getElem?_getD, e1]
      exact List.contains_iff_mem.mpr e2
    · rintro ⟨k, hk, hc⟩
      obtain ⟨k0, k1⟩ := hr k hk
      have kl : k.toNat < as.length := by omega
      have hm : (m : Int) ∈ as[k.toNat] := by
        rw [List.getD_eq_getElem?_getD, List.getElem?_eq_getElem kl] at hc
        exact List.contains_iff_mem.mp hc
      have : k ∈ (hits (m : Int) as).filter fun k => decide (k ∈ ms) := List.mem_filter.mpr ⟨L2.mem_hits.mpr ⟨k.toNat, as[k.toNat], List.getElem?_eq_getElem kl, hm, by omega⟩, decide_eq_true hk⟩
      have := List.length_pos_of_mem this
      omega
def spAllows (D : Addr) : Sp := fun vs H Q _ => ∃ (p : Addr) (c : Int), vs = [.ref p, .int c] ∧ Q (.bl (decide (1 ≤ c))) H
def spFits (K : PySem.W.Frag) (C D : Addr) : Sp := fun vs H Q _ => ∃ (r p s dx : Addr) (z : Int) (as : List (List Int)) (ms : List Int), vs = [.ref r, .ref p, .ref s] ∧ H r = some (.ins D dx []) ∧ WebAt K C H p z (as.map srt) ∧ rRow K H s ms ∧ 1 ≤ z ∧ z ≤ 10 ∧ as.length ≤ 12 ∧ (∀ k ∈ ms, 0 ≤ k ∧ k < as.length) ∧
  ∀ (H' : Hp), Same H H' → Q (.bl (cov as ms z.toNat)) H'
section
variable {P : Program} {w : World} {K : PySem.W.Frag} {mg : Str → Option Value} {base : Heap} {f C D R : Addr} {fd : FuncData}
theorem scAllows : FnScope ["self", "count"] ["self", "count"] (defScope sAllows) := ⟨rfl, rfl, rfl, by decide +kernel, rfl, by decide +kernel, by decide +kernel⟩
theorem ok_allows (F : Fun K "allows" "Covers.allows" sAllows f fd) : FnOk P w K mg base CX0 1 f fd ["self", "count"] (spAllows D) := by
  refine F.ok scAllows (fun vs H Q E h => ?_) (fun cdv A outer s H vs Q E hr h => ?_)
  · obtain ⟨p, c, rfl, _⟩ := h
    rfl
  obtain ⟨p, c, rfl, q⟩ := h
  refine ⟨_, pss_one (ps_ret (pe_cmpR op_ge (pv 1) pe_int (nomark _))), ?_⟩
  exact ⟨_, rfl, _, _, rfl, rfl, q⟩
theorem scFits : FnScope ["self", "web", "some"] ["self", "web", "some"] (defScope sFits) := ⟨rfl, rfl, rfl, by decide +kernel, rfl, by decide +kernel, by decide +kernel⟩
theorem ok_fits {fA fC : Addr} {fdA fdC : FuncData} (F : Fun K "fits" "TiedPoints.fits" sFits f fd) (U : Rul K mg D)
    (GA : FnOk P w K mg base CX0 1 fA fdA ["self", "count"] (spAllows D)) (bA : Binds K fdA ["self", "count"] []) (mA : Meth K D "allows" fA)
    (GC : FnOk P w K mg base CX0 2 fC fdC ["web", "some"] (spCounts K C)) (bC : Binds K fdC ["web", "some"] []) (kC : PySem.W.keepIn K (.ref fC) = true) (mC : mg "tie_counts" = some (.ref fC)) :
    FnOk P w K mg base CX0 3 f fd ["self", "web", "some"] (spFits K C D) := by
  refine F.ok scFits (fun vs H Q E h => ?_) (fun cdv A outer s H vs Q E hr h => ?_)
  · obtain ⟨r, p, so, dx, z, as, ms, rfl, _⟩ := h
    rfl
  obtain ⟨r, p, so, dx, z, as, ms, rfl, hr0, hW, hso, z1, z10, h12, rng, q⟩ := h
  have hr1 : Room 1 _ := hr.mono (by decide)
  refine ⟨_, pss_one (ps_ret (pe_callB (call_all_bools rfl) rfl U.all PyProof.Rows.boot_all (pa_cons (pe_comp (defScope sFits) ["count"] ["self"] [0] rfl rfl (by decide +kernel) ⟨⟨rfl, by decide +kernel⟩, trivial⟩ (pi_list (pe_call GC hr rfl mC kC bC .nil pass0 (pa_cons (pv 1) (pa_cons (pv 2) pa_nil))))
      (fun _ _ _ => pg_name (i := 0) (show ((["count"] : List Str) ++ (["self"] : List Str)).Nodup by decide +kernel) rfl (Or.inl rfl)) (fun _ _ _ => pifs_nil)
      (fun _ _ _ => pe_meth (pv 1) U.cl mA GA hr1 bA .nil pass0 (pa_cons (pv 0) pa_nil))) pa_nil))), ?_⟩
  refine ⟨_, rfl, _, rfl, p, so, z, as.map srt, ms, rfl, hW, hso, z1, z10, by rw [List.length_map]; exact h12, fun L H1 s1 hL eL => ?_⟩
  have lc := cnts_len (as.map srt) ms z.toNat
  refine ⟨L, rfl, ⟨_, SqL.of eL⟩, fun Y hY => ?_⟩
  refine turns_list (K := K) (a := L) (xs := (cnts (as.map srt) ms z.toNat).map V.int) (fun j τ H2 => ∃ o : Option V, τ = [o, some (.ref r)] ∧ Same H1 H2 ∧ H2 Y = some (.lst ((((cnts (as.map srt) ms z.toNat).take j).map fun c => decide (1 ≤ c)).map V.bl))) ⟨none, rfl, Same.new hY _, upd_same⟩ (fun j τ H2 _ ⟨_, _, s2, _⟩ => s2.seq (SqL.of eL)) ?_ ?_
  · rintro j y τ H2 hy ⟨o, rfl, s2, eY⟩
    obtain ⟨c, hc, rfl⟩ := int_at hy
    have jl := (List.getElem?_eq_some_iff.mp hc).1
    refine yesN ?_
    refine ⟨_, rfl, r, dx, _, rfl, s2 _ _ (s1 _ _ hr0), rfl, _, rfl, r, c, rfl, ?_⟩
    refine ⟨_, eY, small1000 (by rw [List.length_map, List.length_map, List.length_take]; omega), _, rfl, fun b o e => ?_, ?_⟩
    · rw [upd_ne (ne_of_none e hY)]
      exact s2 b o e
    · rw [upd_same, take_snoc hc, List.map_append, List.map_append]
      rfl
  · rintro τ H2 ⟨o, rfl, s2, eY⟩
    rw [List.length_map, List.take_length] at eY
    refine ⟨Y, _, rfl, SqL.of eY, ?_⟩
    have e : ((cnts (as.map srt) ms z.toNat).map fun c => decide (1 ≤ c)).all id = cov as ms z.toNat := by
      rw [← cov_cnts rng, List.all_map]
      rfl
    rw [e]
    exact q _ (s1.trans s2)
end
end K55
end
section
namespace RT
open PySem
theorem noMul : fillsNumberSlot (.type "tuple") "mul" = pure false := fillsNumberSlot_seq (id := "tuple.__mul__") (r := some (.builtin "tuple.__rmul__")) PySem.F.slot_tuple_mul.lookup (by decide +kernel) PySem.F.slot_tuple_rmul.lookup (by decide +kernel)
theorem reps : seqRepeat? (.type "tuple") = pure (some (.builtin "tuple.__mul__")) := by
  unfold seqRepeat?
  rw [seqSlot_of (T := "tuple") (name := "__mul__") (id := "tuple.__mul__") PySem.F.slot_tuple_mul.lookup (by decide +kernel), seqSlot_of (T := "tuple") (name := "__rmul__") (id := "tuple.__rmul__") PySem.F.slot_tuple_rmul.lookup (by decide +kernel)]
  rfl
theorem declines (a : Int) (t : Tok) (l : Addr) (c : Nat) (its : Array Value) (dc : Option Addr) (sl : Array (Option Value)) :
    Meets (Builtin.«int.__rmul__» ⟨[.int a t, .ref l], []⟩) (fun _ R s => s.heap.get? l = some { cls := .type "tuple", dict := dc, data := .seq its c, slots := sl } ∧ R (.ok (.ret Value.notImplemented)) s) :=
  .of_wp fun P w A R s h => by
    obtain ⟨hp, g, d, tk, os⟩ := s
    obtain ⟨hl, h⟩ := h
    wp_walk
    exact ⟨_, rfl, h⟩
theorem times (l : Addr) (c : Nat) (its : List Value) (dc : Option Addr) (sl : Array (Option Value)) (k : Int) (t : Tok) (k1 : 1 < k) (k2 : k < 100) (ne : its ≠ []) (small : its.length < 100) :
    Meets (Builtin.«tuple.__mul__» ⟨[.ref l, .int k t], []⟩) (fun _ R s => s.heap.get? l = some { cls := .type "tuple", dict := dc, data := .seq its.toArray c, slots := sl } ∧
      R (.ok (.ret (.ref s.heap.objs.size))) { s with heap := s.heap.push { cls := .type "tuple", data := .seq (List.replicate k.toNat its).flatten.toArray } }) :=
  .of_wp fun P w A R s h => by
    obtain ⟨hp, g, d, tk, os⟩ := s
    obtain ⟨hl, h⟩ := h
    have ie : its.toArray.isEmpty = false := by cases its with
      | nil => exact absurd rfl ne
      | cons => rfl
    have sz : its.toArray.size = its.length := by simp
    have c1 : ¬ (decide (k < -2 ^ 63) || decide (k ≥ 2 ^ 63)) = true := by
      rw [decide_eq_false (by omega), decide_eq_false (by omega)]
      exact Bool.false_ne_true
    have c2 : ¬ (its.toArray.isEmpty || k == 1) = true := by
      rw [ie, Bool.false_or]
      intro z
      have := eq_of_beq z
      omega
    have c3 : ¬ (decide (k ≤ 0) || its.toArray.isEmpty) = true := by
      rw [ie, Bool.or_false, decide_eq_false (by omega)]
      exact Bool.false_ne_true
    have le : (its.toArray.size : Int) * k ≤ 100 * 100 := Int.mul_le_mul (by omega) (by omega) (by omega) (by decide)
    have c4 : ¬ (its.toArray.size : Int) * k > (2 ^ 63 - 1) / 8 := by omega
    have c5 : ¬ Builtin.Tuple.tupleTooMany ((its.toArray.size : Int) * k) = true := by
      unfold Builtin.Tuple.tupleTooMany
      intro z
      have := of_decide_eq_true z
      have hs : (sizeLine : Nat) = 16777216 := rfl
      omega
    have fl : List.foldl (fun x1 x2 => x1 ++ x2) #[] (List.replicate k.toNat its.toArray) = (List.replicate k.toNat its).flatten.toArray := by
      have := L2.foldl_rep its k.toNat []
      rw [List.nil_append] at this
      exact this
    have ln : (List.replicate k.toNat its).flatten.length ≤ sizeLine := by
      rw [L2.len_rep]
      have : k.toNat * its.length ≤ 100 * 100 := Nat.mul_le_mul (by omega) (by omega)
      exact Nat.le_trans this (by decide)
    wp_walk
    rw [if_neg c1]
    refine wpAny_bind (wpAny_tupleItemsOf hl rfl ?_)
    show wpAny _ _ (if (its.toArray.isEmpty || k == 1) = true then _ else _) _ _ _
    rw [if_neg c2]
    show wpAny _ _ (if (decide (k ≤ 0) || its.toArray.isEmpty) = true then _ else _) _ _ _
    rw [if_neg c3]
    show wpAny _ _ (if (its.toArray.size : Int) * k > (2 ^ 63 - 1) / 8 then _ else _) _ _ _
    rw [if_neg c4]
    show wpAny _ _ (if Builtin.Tuple.tupleTooMany ((its.toArray.size : Int) * k) = true then _ else _) _ _ _
    rw [if_neg c5]
    show wpAny _ _ (Builtin.Tuple.tupleExact _ >>= _) _ _ _
    unfold Builtin.Tuple.tupleExact
    rw [fl]
    refine wpAny_bind (wpAny_newObj_type (hd := ?_) (wpAny_pure ⟨_, rfl, h⟩))
    show (List.replicate k.toNat its).flatten.toArray.size ≤ sizeLine
    rw [List.size_toArray]
    exact ln
theorem once (l : Addr) (c : Nat) (its : List Value) (dc : Option Addr) (sl : Array (Option Value)) (t : Tok) :
    Meets (Builtin.«tuple.__mul__» ⟨[.ref l, .int 1 t], []⟩) (fun _ R s => s.heap.get? l = some { cls := .type "tuple", dict := dc, data := .seq its.toArray c, slots := sl } ∧ R (.ok (.ret (.ref l))) s) :=
  .of_wp fun P w A R s h => by
    obtain ⟨hp, g, d, tk, os⟩ := s
    obtain ⟨hl, h⟩ := h
    wp_walk
    exact ⟨_, rfl, h⟩
end RT
namespace L2
open PySem
section
variable {X : Cx}
def rRepT : R2 := fun x y H Q => ∃ l k xs, x = .ref l ∧ y = .int k ∧ H l = some (.tup xs) ∧ 1 ≤ k ∧ k < 100 ∧ xs ≠ [] ∧ xs.length < 100 ∧
  (k = 1 → Q (.ref l) H) ∧ (1 < k → ∀ p, H p = none → Q (.ref p) (upd H p (.tup (List.replicate k.toNat xs).flatten)))
theorem op_repT : OpR X (binaryOp .Mult) rRepT := by
  intro pins s σ H x y v u Q I rx ry h
  obtain ⟨l, k, xs, rfl, rfl, hH, h1, h2, ne, sm, q1, q2⟩ := h
  cases rx
  obtain ⟨t, rfl⟩ := ry
  obtain ⟨z, its, r, ⟨⟨oc, od, odt, osl⟩, e, hc, c, hd⟩⟩ := (show ObjOk X.prog X.w H s.heap l (.tup xs) from I.hok l _ hH)
  dsimp only at hc hd
  subst hc hd
  have lr := r.length
  have ne' : its ≠ [] := fun z => by rw [z] at lr; exact ne (List.length_eq_zero_iff.mp (by simpa using lr))
  refine wpAny_binaryOp_repeat_ref (T := "tuple") (U := "int") (by decide) ⟨_, e, rfl⟩ (fun s' => typeIs_int s' k t) RT.noMul PySem.F.fills_int_mul PySem.F.slot_int_rmul RT.reps PySem.F.slot_int_index.lookup
    (call_meets PySem.F.slot_int_rmul (typeIs_int s k t) PySem.F.entry_int_rmul (PySem.F.args_int_rmul_2 _ _) (RT.declines k t l c its.toArray od osl) ⟨e, rfl, ⟨_, e, rfl⟩, ?_⟩)
  by_cases c1 : k = 1
  · subst c1
    refine call_meets PySem.F.slot_tuple_mul ⟨_, e, rfl⟩ PySem.F.entry_tuple_mul (PySem.F.args_tuple_mul_2 _ _) (RT.once l c its od osl t) ⟨e, ?_⟩
    exact ⟨.ref l, H, I, rfl, q1 rfl⟩
  · refine call_meets PySem.F.slot_tuple_mul ⟨_, e, rfl⟩ PySem.F.entry_tuple_mul (PySem.F.args_tuple_mul_2 _ _) (RT.times l c its od osl k t (by omega) h2 ne' (by omega)) ⟨e, ?_⟩
    have hf : H s.heap.objs.size = none := I.hok.fresh (Nat.le_refl _)
    refine ⟨.ref s.heap.objs.size, _, I.laid (t' := s.toks) (o := .tup (List.replicate k.toNat xs).flatten) (fun b u e => Heap.get?_push_of_some _ e) (Nat.le_refl _) ?_, rfl, q2 (by omega) _ hf⟩
    refine ⟨?_, (List.replicate k.toNat its).flatten, r.rep k.toNat, ⟨_, Heap.get?_push_size _ rfl, rfl, _, rfl⟩⟩
    rw [len_rep]
    have : k.toNat * xs.length ≤ 100 * 100 := Nat.mul_le_mul (by omega) (by omega)
    exact Nat.le_trans this (by decide)
end
end L2
end
section
namespace G
abbrev Row := Nat × Nat × Nat
def Low (rows : List Row) (t k l : Nat) : Prop := l < k ∧ (l ≤ 1 ∨ ∃ r, rows[l - 2]? = some r ∧ t < r.1)
def Ok (n : Nat) (rows : List Row) : Prop := ∀ (i : Nat) (r : Row), rows[i]? = some r → r.1 < n ∧ Low rows r.1 (i + 2) r.2.1 ∧ Low rows r.1 (i + 2) r.2.2
structure Least (n : Nat) (rows : List Row) : Prop where
  ok : Ok n rows
  pos : ∀ (i : Nat) (r : Row), rows[i]? = some r → r.2.2 ≠ 0
  one : ∀ (i j : Nat) (r : Row), rows[i]? = some r → rows[j]? = some r → i = j
def rank (n : Nat) (rows : List Row) (k : Nat) : Nat := if k < 2 then n + 1 - k else (rows.getD (k - 2) (0, 0, 0)).1
def ledF (rows : List Row) : Nat → Nat → List Nat → Bool
  | 0, _, _ => false
  | f + 1, k, s => if k ≤ 1 then decide (k = 1 ∧ s = []) else
    let r := rows.getD (k - 2) (0, 0, 0)
    match s with
    | [] => ledF rows f r.2.1 []
    | x :: xs => if x < r.1 then false else if x = r.1 then ledF rows f r.2.2 xs else ledF rows f r.2.1 (x :: xs)
def led (rows : List Row) (k : Nat) (s : List Nat) : Bool := ledF rows (k + 1) k s
def Knot (rows : List Row) (k : Nat) : Prop := k < rows.length + 2
section
variable {n : Nat} {rows : List Row}
theorem row_at {k : Nat} (h : Knot rows k) (h2 : 2 ≤ k) : rows[k - 2]? = some (rows.getD (k - 2) (0, 0, 0)) := by
  have : k - 2 < rows.length := by unfold Knot at h; omega
  rw [List.getElem?_eq_getElem this, List.getD_eq_getElem?_getD, List.getElem?_eq_getElem this]
  rfl
theorem Ok.low (o : Ok n rows) {i : Nat} {r : Row} (h : rows[i]? = some r) : r.1 < n ∧ r.2.1 < i + 2 ∧ r.2.2 < i + 2 ∧ r.1 < rank n rows r.2.1 ∧ r.1 < rank n rows r.2.2 ∧ Knot rows r.2.1 ∧ Knot rows r.2.2 := by
  obtain ⟨h1, h2, h3⟩ := o i r h
  have hi : i < rows.length := (List.getElem?_eq_some_iff.mp h).1
  have rk : ∀ l, Low rows r.1 (i + 2) l → r.1 < rank n rows l ∧ Knot rows l := by
    intro l hl
    obtain ⟨a, b⟩ := hl
    refine ⟨?_, by unfold Knot; omega⟩
    unfold rank
    by_cases c : l < 2
    · rw [if_pos c]; omega
    · rw [if_neg c]
      rcases b with b | ⟨r', e, z⟩
      · omega
      · rw [List.getD_eq_getElem?_getD, e]; exact z
  exact ⟨h1, h2.1, h3.1, (rk _ h2).1, (rk _ h3).1, (rk _ h2).2, (rk _ h3).2⟩
theorem ledF_more (o : Ok n rows) : ∀ (f k : Nat) (s : List Nat), k < f → Knot rows k → ledF rows (f + 1) k s = ledF rows f k s := by
  intro f
  induction f with
  | zero => intro k s h; omega
  | succ f ih =>
    intro k s hk kn
    unfold ledF
    by_cases c : k ≤ 1
    · rw [if_pos c, if_pos c]
    rw [if_neg c, if_neg c]
    obtain ⟨h1, h2, h3, _, _, k1, k2⟩ := o.low (row_at kn (by omega))
    have e1 : ∀ s, ledF rows (f + 1) (rows.getD (k - 2) (0, 0, 0)).2.1 s = ledF rows f (rows.getD (k - 2) (0, 0, 0)).2.1 s := fun s => ih _ _ (by omega) k1
    have e2 : ∀ s, ledF rows (f + 1) (rows.getD (k - 2) (0, 0, 0)).2.2 s = ledF rows f (rows.getD (k - 2) (0, 0, 0)).2.2 s := fun s => ih _ _ (by omega) k2
    cases s with
    | nil => exact e1 _
    | cons x xs =>
      show (if _ then _ else if _ then ledF rows (f + 1) _ _ else ledF rows (f + 1) _ _) = _
      rw [e1, e2]
theorem ledF_le (o : Ok n rows) {k : Nat} (s : List Nat) (kn : Knot rows k) : ∀ d, ledF rows (k + 1 + d) k s = led rows k s
  | 0 => rfl
  | d + 1 => by rw [show k + 1 + (d + 1) = (k + 1 + d) + 1 by omega, ledF_more o _ k s (by omega) kn, ledF_le o s kn d]
theorem led_one (s : List Nat) : led rows 1 s = decide (s = []) := by
  unfold led ledF
  simp
theorem led_zero (s : List Nat) : led rows 0 s = false := by
  unfold led ledF
  simp
theorem led_nil (o : Ok n rows) {k : Nat} (kn : Knot rows k) (h2 : 2 ≤ k) : led rows k [] = led rows (rows.getD (k - 2) (0, 0, 0)).2.1 [] := by
  obtain ⟨h1, h2', h3, _, _, k1, k2⟩ := o.low (row_at kn h2)
  unfold led
  conv => lhs; unfold ledF
  rw [if_neg (by omega)]
  have := ledF_le o [] k1 (k - (rows.getD (k - 2) (0, 0, 0)).2.1 - 1)
  rw [show (rows.getD (k - 2) (0, 0, 0)).2.1 + 1 + (k - (rows.getD (k - 2) (0, 0, 0)).2.1 - 1) = k by omega] at this
  exact this
theorem led_cons (o : Ok n rows) {k x : Nat} {xs : List Nat} (kn : Knot rows k) (h2 : 2 ≤ k) : led rows k (x :: xs) =
    if x < (rows.getD (k - 2) (0, 0, 0)).1 then false else if x = (rows.getD (k - 2) (0, 0, 0)).1 then led rows (rows.getD (k - 2) (0, 0, 0)).2.2 xs else led rows (rows.getD (k - 2) (0, 0, 0)).2.1 (x :: xs) := by
  obtain ⟨h1, h2', h3, _, _, k1, k2⟩ := o.low (row_at kn h2)
  unfold led
  conv => lhs; unfold ledF
  rw [if_neg (by omega)]
  have e1 := ledF_le o (x :: xs) k1 (k - (rows.getD (k - 2) (0, 0, 0)).2.1 - 1)
  rw [show (rows.getD (k - 2) (0, 0, 0)).2.1 + 1 + (k - (rows.getD (k - 2) (0, 0, 0)).2.1 - 1) = k by omega] at e1
  have e2 := ledF_le o xs k2 (k - (rows.getD (k - 2) (0, 0, 0)).2.2 - 1)
  rw [show (rows.getD (k - 2) (0, 0, 0)).2.2 + 1 + (k - (rows.getD (k - 2) (0, 0, 0)).2.2 - 1) = k by omega] at e2
  show (if _ then _ else if _ then ledF rows k _ _ else ledF rows k _ _) = _
  rw [e1, e2]
  rfl
def Way (n : Nat) (rows : List Row) (k : Nat) (s : List Nat) : Prop := led rows k s = true ∧ s.Pairwise (· < ·) ∧ ∀ x ∈ s, x < n ∧ rank n rows k ≤ x
theorem way_step (L : Least n rows) {k : Nat} {s : List Nat} (kn : Knot rows k) (h2 : 2 ≤ k) (w : Way n rows (rows.getD (k - 2) (0, 0, 0)).2.2 s) : Way n rows k ((rows.getD (k - 2) (0, 0, 0)).1 :: s) := by
  obtain ⟨w1, w2, w3⟩ := w
  obtain ⟨h1, h2', h3, r1, r2, k1, k2⟩ := L.ok.low (row_at kn h2)
  have rk : rank n rows k = (rows.getD (k - 2) (0, 0, 0)).1 := by unfold rank; rw [if_neg (by omega)]
  refine ⟨?_, ?_, ?_⟩
  · rw [led_cons L.ok kn h2, if_neg (by omega), if_pos rfl]; exact w1
  · exact List.Pairwise.cons (fun x hx => by have := (w3 x hx).2; omega) w2
  · intro x hx
    rcases List.mem_cons.mp hx with rfl | hx
    · exact ⟨h1, by omega⟩
    · have := w3 x hx
      exact ⟨this.1, by omega⟩
theorem way_end : Way n rows 1 [] := ⟨by rw [led_one]; rfl, .nil, fun x hx => nomatch hx⟩
structure Part (n : Nat) (rows : List Row) (a b : Nat) (u : Bool) (s : List Nat) : Prop where
  asc : s.Pairwise (· < ·)
  lt : ∀ x ∈ s, x < n
  ge : ∀ m, m ≤ rank n rows a → m ≤ rank n rows b → ∀ x ∈ s, m ≤ x
  la : led rows a s = u
  lb : led rows b s = !u
theorem off (o : Ok n rows) {b x : Nat} {xs : List Nat} (kb : Knot rows b) (h : x < rank n rows b) : led rows b (x :: xs) = false := by
  unfold rank at h
  by_cases c : b < 2
  · have hb : b = 0 ∨ b = 1 := by omega
    rcases hb with rfl | rfl
    · exact led_zero _
    · rw [led_one]; rfl
  · rw [if_neg c] at h
    rw [led_cons o kb (by omega), if_pos h]
end
end G
end
section
namespace G
section
variable {n t : Nat} {rows nums new : List Row} {rc : List Nat} {pl pl' : Nat → Option Nat}
def tieOf (rows : List Row) (k : Nat) : Nat := (rows.getD (k - 2) (0, 0, 0)).1
def outOf (rows : List Row) (k : Nat) : Nat := (rows.getD (k - 2) (0, 0, 0)).2.1
def intoOf (rows : List Row) (k : Nat) : Nat := (rows.getD (k - 2) (0, 0, 0)).2.2
structure Closed (rows : List Row) (rc : List Nat) : Prop where
  two : ∀ k ∈ rc, 2 ≤ k
  knot : ∀ k ∈ rc, Knot rows k
  out : ∀ k ∈ rc, outOf rows k ≤ 1 ∨ outOf rows k ∈ rc
  into : ∀ k ∈ rc, intoOf rows k ≤ 1 ∨ intoOf rows k ∈ rc
structure Kept (n t : Nat) (rows : List Row) (rc : List Nat) (nums : List Row) (pl : Nat → Option Nat) : Prop where
  least : Least n nums
  ge : ∀ r ∈ nums, t ≤ r.1
  z : pl 0 = some 0
  o : pl 1 = some 1
  has : ∀ k ∈ rc, t ≤ tieOf rows k → ∃ p, pl k = some p ∧ Knot nums p ∧ tieOf rows k ≤ rank n nums p
theorem kept_none (hn : ∀ k ∈ rc, tieOf rows k < n) : Kept n n rows rc [] (fun k => if k = 0 then some 0 else if k = 1 then some 1 else none) :=
  ⟨⟨fun i r h => by simp at h, fun i r h => by simp at h, fun i j r h => by simp at h⟩, fun r h => (nomatch h), rfl, rfl, fun k hk h => absurd (hn k hk) (by omega)⟩
theorem rank_app {p : Nat} (h : Knot nums p) : rank n (nums ++ new) p = rank n nums p := by
  unfold rank
  by_cases c : p < 2
  · rw [if_pos c, if_pos c]
  · rw [if_neg c, if_neg c, List.getD_eq_getElem?_getD, List.getD_eq_getElem?_getD, List.getElem?_append_left (by unfold Knot at h; omega)]
theorem knot_app {p : Nat} (h : Knot nums p) : Knot (nums ++ new) p := by unfold Knot at *; rw [List.length_append]; omega
theorem Kept.low (I : Kept n (t + 1) rows rc nums pl) (o : Ok n rows) (hn : t < n) {l : Nat} (h : l ≤ 1 ∨ l ∈ rc) (z : l ≤ 1 ∨ t < tieOf rows l) : ∃ p, pl l = some p ∧ Knot nums p ∧ t < rank n nums p := by
  rcases Nat.lt_or_ge l 2 with c | c
  · have e : l = 0 ∨ l = 1 := by omega
    rcases e with rfl | rfl
    · exact ⟨0, I.z, by unfold Knot; omega, by unfold rank; rw [if_pos (by decide)]; omega⟩
    · exact ⟨1, I.o, by unfold Knot; omega, by unfold rank; rw [if_pos (by decide)]; omega⟩
  · have hr : l ∈ rc := h.resolve_left (by omega)
    have hz : t < tieOf rows l := z.resolve_left (by omega)
    obtain ⟨p, h1, h2, h3⟩ := I.has l hr hz
    exact ⟨p, h1, h2, by omega⟩
def rowIn (rows : List Row) (pl : Nat → Option Nat) (k : Nat) : Row := (tieOf rows k, (pl (outOf rows k)).getD 0, (pl (intoOf rows k)).getD 0)
theorem Closed.low (c : Closed rows rc) (o : Ok n rows) {k : Nat} (h : k ∈ rc) : tieOf rows k < n ∧ (outOf rows k ≤ 1 ∨ tieOf rows k < tieOf rows (outOf rows k)) ∧ (intoOf rows k ≤ 1 ∨ tieOf rows k < tieOf rows (intoOf rows k)) := by
  obtain ⟨h1, h2, h3⟩ := o _ _ (row_at (c.knot k h) (c.two k h))
  refine ⟨h1, h2.2.imp id fun ⟨r, e, z⟩ => ?_, h3.2.imp id fun ⟨r, e, z⟩ => ?_⟩
  · show (rows.getD (k - 2) (0, 0, 0)).1 < (rows.getD ((rows.getD (k - 2) (0, 0, 0)).2.1 - 2) (0, 0, 0)).1
    rw [List.getD_eq_getElem?_getD (l := rows) (i := (rows.getD (k - 2) (0, 0, 0)).2.1 - 2), e]
    exact z
  · show (rows.getD (k - 2) (0, 0, 0)).1 < (rows.getD ((rows.getD (k - 2) (0, 0, 0)).2.2 - 2) (0, 0, 0)).1
    rw [List.getD_eq_getElem?_getD (l := rows) (i := (rows.getD (k - 2) (0, 0, 0)).2.2 - 2), e]
    exact z
theorem Kept.row (I : Kept n (t + 1) rows rc nums pl) (c : Closed rows rc) (o : Ok n rows) (hn : t < n) {k : Nat} (h : k ∈ rc) (ht : tieOf rows k = t) :
    ∃ a b, pl (outOf rows k) = some a ∧ pl (intoOf rows k) = some b ∧ rowIn rows pl k = (t, a, b) ∧ Knot nums a ∧ Knot nums b ∧ t < rank n nums a ∧ t < rank n nums b := by
  obtain ⟨_, z1, z2⟩ := c.low o h
  obtain ⟨a, a1, a2, a3⟩ := I.low o hn (c.out k h) (by rw [← ht]; exact z1)
  obtain ⟨b, b1, b2, b3⟩ := I.low o hn (c.into k h) (by rw [← ht]; exact z2)
  exact ⟨a, b, a1, b1, by unfold rowIn; rw [a1, b1, ht]; rfl, a2, b2, a3, b3⟩
theorem low_of {p k : Nat} (h : Knot nums p) (hk : nums.length + 2 ≤ k) (z : t < rank n nums p) : Low (nums ++ new) t k p := by
  refine ⟨by unfold Knot at h; omega, ?_⟩
  rcases Nat.lt_or_ge p 2 with c | c
  · exact .inl (by omega)
  · refine .inr ⟨nums.getD (p - 2) (0, 0, 0), ?_, ?_⟩
    · rw [List.getElem?_append_left (by unfold Knot at h; omega)]
      exact row_at h c
    · unfold rank at z
      rw [if_neg (by omega)] at z
      exact z
theorem Kept.step (I : Kept n (t + 1) rows rc nums pl) (c : Closed rows rc) (o : Ok n rows) (hn : t < n) (hw : ∀ r, r ∈ new → ∃ k, k ∈ rc ∧ tieOf rows k = t ∧ r = rowIn rows pl k ∧ r.2.2 ≠ 0) (nd : new.Nodup)
    (h1 : ∀ k, k ∉ rc ∨ tieOf rows k ≠ t → pl' k = pl k)
    (h2 : ∀ k ∈ rc, tieOf rows k = t → ∃ p, pl' k = some p ∧ ((∃ i, (nums ++ new)[i]? = some (rowIn rows pl k) ∧ p = i + 2) ∨ (rowIn rows pl k ∉ nums ++ new ∧ p = (rowIn rows pl k).2.1))) :
    Kept n t rows rc (nums ++ new) pl' := by
  have at_new : ∀ (i : Nat) (r : Row), nums.length ≤ i → (nums ++ new)[i]? = some r → new[i - nums.length]? = some r := fun i r hi e => by rw [List.getElem?_append_right hi] at e; exact e
  have at_old : ∀ (i : Nat) (r : Row), i < nums.length → (nums ++ new)[i]? = some r → nums[i]? = some r := fun i r hi e => by rw [List.getElem?_append_left hi] at e; exact e
  have tn : ∀ r ∈ new, ∃ a b, r = (t, a, b) ∧ b ≠ 0 ∧ Knot nums a ∧ Knot nums b ∧ t < rank n nums a ∧ t < rank n nums b := fun r hr => by
    obtain ⟨k, k1, k2, k3, k4⟩ := hw r hr
    obtain ⟨a, b, _, _, e, x1, x2, x3, x4⟩ := I.row c o hn k1 k2
    rw [e] at k3
    refine ⟨a, b, k3, ?_, x1, x2, x3, x4⟩
    rw [k3] at k4
    exact k4
  have two : ∀ k ∈ rc, k ≠ 0 ∧ k ≠ 1 := fun k hk => by have := c.two k hk; omega
  refine ⟨⟨?_, ?_, ?_⟩, ?_, ?_, ?_, ?_⟩
  · intro i r e
    rcases Nat.lt_or_ge i nums.length with hi | hi
    · obtain ⟨z1, z2, z3⟩ := I.least.ok i r (at_old i r hi e)
      refine ⟨z1, ⟨z2.1, z2.2.imp id fun ⟨q, e, z⟩ => ⟨q, ?_, z⟩⟩, ⟨z3.1, z3.2.imp id fun ⟨q, e, z⟩ => ⟨q, ?_, z⟩⟩⟩
      · rw [List.getElem?_append_left (by have := (List.getElem?_eq_some_iff.mp e).1; omega)]; exact e
      · rw [List.getElem?_append_left (by have := (List.getElem?_eq_some_iff.mp e).1; omega)]; exact e
    · obtain ⟨a, b, rfl, _, x1, x2, x3, x4⟩ := tn r (List.mem_of_getElem? (at_new i r hi e))
      exact ⟨hn, low_of x1 (by omega) x3, low_of x2 (by omega) x4⟩
  · intro i r e
    rcases Nat.lt_or_ge i nums.length with hi | hi
    · exact I.least.pos i r (at_old i r hi e)
    · obtain ⟨a, b, rfl, x, _⟩ := tn r (List.mem_of_getElem? (at_new i r hi e))
      exact x
  · intro i j r e1 e2
    have cross : ∀ (i j : Nat), i < nums.length → nums.length ≤ j → (nums ++ new)[i]? = some r → (nums ++ new)[j]? = some r → False := fun i j hi hj e1 e2 => by
      have g := I.ge r (List.mem_of_getElem? (at_old i r hi e1))
      obtain ⟨a, b, rfl, _⟩ := tn r (List.mem_of_getElem? (at_new j r hj e2))
      have g' : t + 1 ≤ t := g
      omega
    rcases Nat.lt_or_ge i nums.length with hi | hi
    · rcases Nat.lt_or_ge j nums.length with hj | hj
      · exact I.least.one i j r (at_old i r hi e1) (at_old j r hj e2)
      · exact (cross i j hi hj e1 e2).elim
    · rcases Nat.lt_or_ge j nums.length with hj | hj
      · exact (cross j i hj hi e2 e1).elim
      · have a1 := at_new i r hi e1
        have a2 := at_new j r hj e2
        have := (List.getElem?_inj (List.getElem?_eq_some_iff.mp a1).1 nd).mp (a1.trans a2.symm)
        omega
  · intro r hr
    rcases List.mem_append.mp hr with hr | hr
    · have := I.ge r hr; omega
    · obtain ⟨a, b, rfl, _⟩ := tn r hr
      exact Nat.le_refl t
  · rw [h1 0 (.inl fun h => (two 0 h).1 rfl)]; exact I.z
  · rw [h1 1 (.inl fun h => (two 1 h).2 rfl)]; exact I.o
  · intro k hk hk2
    by_cases e : tieOf rows k = t
    · obtain ⟨p, p1, p2⟩ := h2 k hk e
      refine ⟨p, p1, ?_⟩
      obtain ⟨a, b, _, _, re, x1, x2, x3, x4⟩ := I.row c o hn hk e
      rcases p2 with ⟨i, i1, rfl⟩ | ⟨i1, rfl⟩
      · have il := (List.getElem?_eq_some_iff.mp i1).1
        refine ⟨by unfold Knot; omega, ?_⟩
        unfold rank
        rw [if_neg (by omega), Nat.add_sub_cancel, List.getD_eq_getElem?_getD, i1, re]
        show tieOf rows k ≤ t
        omega
      · rw [re]
        refine ⟨knot_app x1, ?_⟩
        rw [rank_app x1, e]
        exact Nat.le_of_lt x3
    · obtain ⟨p, p1, p2, p3⟩ := I.has k hk (by omega)
      exact ⟨p, by rw [h1 k (.inr e)]; exact p1, knot_app p2, by rw [rank_app p2]; exact p3⟩
end
end G
end
section
namespace G
structure SetsOk (n lo : Nat) (ss : List (List Int)) : Prop where
  nd : ss.Nodup
  asc : ∀ s ∈ ss, s.Pairwise (· < ·)
  rng : ∀ s ∈ ss, ∀ x ∈ s, (lo : Int) ≤ x ∧ x < n
section
variable {n lo d t k1 k2 m1 m2 m : Nat} {ss : List (List Int)} {rows more more1 more2 : List Row}
structure Made (n lo d : Nat) (rows more : List Row) (k m : Nat) : Prop where
  ok : Ok n (rows ++ more)
  kn : Knot (rows ++ more) k
  up : k ≤ 1 ∨ lo ≤ tieOf (rows ++ more) k
  ge : ∀ r ∈ more, lo ≤ r.1
  cnt : ∀ t, (more.filter fun r => decide (r.1 = t)).length ≤ m
  len : more.length ≤ d * m
theorem low_app {l k : Nat} (h : Low rows t k l) : Low (rows ++ more) t k l := ⟨h.1, h.2.imp id fun ⟨q, e, z⟩ => ⟨q, by rw [List.getElem?_append_left (List.getElem?_eq_some_iff.mp e).1]; exact e, z⟩⟩
theorem ok_app (o : Ok n rows) (ht : t < n) (h1 : Low rows t (rows.length + 2) k1) (h2 : Low rows t (rows.length + 2) k2) : Ok n (rows ++ [(t, k1, k2)]) := by
  intro j r e
  rcases Nat.lt_or_ge j rows.length with c | c
  · rw [List.getElem?_append_left c] at e
    obtain ⟨z1, z2, z3⟩ := o j r e
    exact ⟨z1, low_app z2, low_app z3⟩
  · rw [List.getElem?_append_right c] at e
    have j0 : j = rows.length := by
      have := (List.getElem?_eq_some_iff.mp e).1
      simp at this
      omega
    subst j0
    rw [Nat.sub_self] at e
    cases e
    exact ⟨ht, low_app h1, low_app h2⟩
theorem low_knot {k : Nat} (kn : Knot rows k) (up : k ≤ 1 ∨ t + 1 ≤ tieOf rows k) : Low rows t (rows.length + 2) k := by
  refine ⟨kn, ?_⟩
  rcases Nat.lt_or_ge k 2 with c | c
  · exact .inl (by omega)
  · exact .inr ⟨_, row_at kn c, by have := up.resolve_left (by omega); unfold tieOf at this; omega⟩
theorem tie_app {k : Nat} (kn : Knot rows k) (h2 : 2 ≤ k) : tieOf (rows ++ more) k = tieOf rows k := by
  unfold tieOf
  rw [List.getD_eq_getElem?_getD, List.getD_eq_getElem?_getD, List.getElem?_append_left (by unfold Knot at kn; omega)]
end
end G
end
section
namespace G
section
variable {n t : Nat} {rows nums new more : List Row} {rc : List Nat} {pl pl' : Nat → Option Nat}
theorem ledF_app (o : Ok n rows) : ∀ (f k : Nat) (s : List Nat), Knot rows k → ledF (rows ++ more) f k s = ledF rows f k s := by
  intro f
  induction f with
  | zero => intro k s h; rfl
  | succ f ih =>
    intro k s kn
    unfold ledF
    by_cases c : k ≤ 1
    · rw [if_pos c, if_pos c]
    rw [if_neg c, if_neg c]
    have eg : (rows ++ more).getD (k - 2) (0, 0, 0) = rows.getD (k - 2) (0, 0, 0) := by
      rw [List.getD_eq_getElem?_getD, List.getD_eq_getElem?_getD, List.getElem?_append_left (by unfold Knot at kn; omega)]
    obtain ⟨h1, h2, h3, _, _, k1, k2⟩ := o.low (row_at kn (by omega))
    rw [eg]
    cases s with
    | nil => exact ih _ _ k1
    | cons x xs =>
      show (if _ then _ else if _ then ledF (rows ++ more) f _ _ else ledF (rows ++ more) f _ _) = _
      rw [ih _ _ k1, ih _ _ k2]
theorem led_app (o : Ok n rows) {k : Nat} (s : List Nat) (kn : Knot rows k) : led (rows ++ more) k s = led rows k s := ledF_app o _ _ _ kn
def RowLt (a b : Row) : Prop := b.1 < a.1 ∨ (a.1 = b.1 ∧ (a.2.1 < b.2.1 ∨ (a.2.1 = b.2.1 ∧ a.2.2 < b.2.2)))
structure Kept2 (n t : Nat) (rows : List Row) (rc : List Nat) (nums : List Row) (pl : Nat → Option Nat) : Prop where
  base : Kept n t rows rc nums pl
  sem : ∀ k ∈ rc, t ≤ tieOf rows k → ∀ p, pl k = some p → ∀ s, led nums p s = led rows k s
  img : ∀ k ∈ rc, t ≤ tieOf rows k → ∀ p, pl k = some p → (2 ≤ p ∧ nums[p - 2]? = some (rowIn rows pl k)) ∨ ((rowIn rows pl k).2.2 = 0 ∧ p = (rowIn rows pl k).2.1)
  sur : ∀ (i : Nat) (r : Row), nums[i]? = some r → ∃ k ∈ rc, t ≤ tieOf rows k ∧ pl k = some (i + 2)
  srt : nums.Pairwise RowLt
theorem kept2_none (hn : ∀ k ∈ rc, tieOf rows k < n) : Kept2 n n rows rc [] (fun k => if k = 0 then some 0 else if k = 1 then some 1 else none) :=
  ⟨kept_none hn, fun k hk h => absurd (hn k hk) (by omega), fun k hk h => absurd (hn k hk) (by omega), fun i r h => by simp at h, .nil⟩
theorem rowIn_same (c : Closed rows rc) (o : Ok n rows) (h1 : ∀ k, k ∉ rc ∨ tieOf rows k ≠ t → pl' k = pl k) {k : Nat} (hk : k ∈ rc) (ht : t ≤ tieOf rows k) : rowIn rows pl' k = rowIn rows pl k := by
  have two : ∀ k, k ≤ 1 → k ∉ rc := fun k h z => by have := c.two k z; omega
  obtain ⟨_, z1, z2⟩ := c.low o hk
  have e1 : pl' (outOf rows k) = pl (outOf rows k) := by
    rcases z1 with z | z
    · exact h1 _ (.inl (two _ z))
    · exact h1 _ (.inr (by omega))
  have e2 : pl' (intoOf rows k) = pl (intoOf rows k) := by
    rcases z2 with z | z
    · exact h1 _ (.inl (two _ z))
    · exact h1 _ (.inr (by omega))
  unfold rowIn
  rw [e1, e2]
theorem Kept2.low (I : Kept2 n (t + 1) rows rc nums pl) {l p : Nat} (h : l ≤ 1 ∨ l ∈ rc) (z : l ≤ 1 ∨ t < tieOf rows l) (hp : pl l = some p) (s : List Nat) : led nums p s = led rows l s := by
  rcases Nat.lt_or_ge l 2 with c | c
  · have e : l = 0 ∨ l = 1 := by omega
    rcases e with rfl | rfl
    · rw [I.base.z] at hp
      cases hp
      rw [led_zero, led_zero]
    · rw [I.base.o] at hp
      cases hp
      rw [led_one, led_one]
  · exact I.sem l (h.resolve_left (by omega)) (z.resolve_left (by omega)) p hp s
theorem Kept2.step (I : Kept2 n (t + 1) rows rc nums pl) (c : Closed rows rc) (o : Ok n rows) (hn : t < n) (hw : ∀ r, r ∈ new → ∃ k, k ∈ rc ∧ tieOf rows k = t ∧ r = rowIn rows pl k ∧ r.2.2 ≠ 0) (nd : new.Nodup)
    (hw2 : ∀ k ∈ rc, tieOf rows k = t → (rowIn rows pl k).2.2 ≠ 0 → rowIn rows pl k ∈ new) (so : new.Pairwise RowLt)
    (h1 : ∀ k, k ∉ rc ∨ tieOf rows k ≠ t → pl' k = pl k)
    (h2 : ∀ k ∈ rc, tieOf rows k = t → ∃ p, pl' k = some p ∧ ((∃ i, (nums ++ new)[i]? = some (rowIn rows pl k) ∧ p = i + 2) ∨ (rowIn rows pl k ∉ nums ++ new ∧ p = (rowIn rows pl k).2.1))) :
    Kept2 n t rows rc (nums ++ new) pl' := by
  have B := I.base.step c o hn hw nd h1 h2
  have okN := I.base.least.ok
  have at_ : ∀ k ∈ rc, tieOf rows k = t → ∀ p, pl' k = some p → (∃ i, (nums ++ new)[i]? = some (rowIn rows pl k) ∧ p = i + 2) ∨ ((rowIn rows pl k).2.2 = 0 ∧ p = (rowIn rows pl k).2.1) := fun k hk ht p hp => by
    obtain ⟨p', e, h⟩ := h2 k hk ht
    rw [hp] at e
    cases e
    rcases h with h | ⟨nm, e⟩
    · exact .inl h
    · refine .inr ⟨?_, e⟩
      rcases Nat.eq_zero_or_pos (rowIn rows pl k).2.2 with z | z
      · exact z
      · exact absurd (List.mem_append_right _ (hw2 k hk ht (by omega))) nm
  have old : ∀ k ∈ rc, t + 1 ≤ tieOf rows k → ∀ p, pl' k = some p → pl k = some p := fun k hk ht p hp => by rw [h1 k (.inr (by omega))] at hp; exact hp
  refine ⟨B, fun k hk ht p hp s => ?_, fun k hk ht p hp => ?_, fun i r e => ?_, ?_⟩
  · by_cases e : tieOf rows k = t
    · obtain ⟨a, b, ea, eb, re, x1, x2, x3, x4⟩ := I.base.row c o hn hk e
      obtain ⟨_, z1, z2⟩ := c.low o hk
      have la : ∀ s, led nums a s = led rows (outOf rows k) s := I.low (c.out k hk) (by rw [← e]; exact z1) ea
      have lb : ∀ s, led nums b s = led rows (intoOf rows k) s := I.low (c.into k hk) (by rw [← e]; exact z2) eb
      have kk := c.knot k hk
      have k2 := c.two k hk
      have et : (rows.getD (k - 2) (0, 0, 0)).1 = t := e
      rcases at_ k hk e p hp with ⟨i, hi, rfl⟩ | ⟨w0, rfl⟩
      · have il := (List.getElem?_eq_some_iff.mp hi).1
        have kp : Knot (nums ++ new) (i + 2) := by unfold Knot; omega
        have eg : (nums ++ new).getD (i + 2 - 2) (0, 0, 0) = (t, a, b) := by rw [Nat.add_sub_cancel, List.getD_eq_getElem?_getD, hi, re]; rfl
        cases s with
        | nil =>
          rw [led_nil B.least.ok kp (by omega), eg, led_nil o kk k2]
          show led (nums ++ new) a [] = _
          rw [led_app okN [] x1]
          exact la []
        | cons x xs =>
          rw [led_cons B.least.ok kp (by omega), eg, led_cons o kk k2, et]
          show (if x < t then false else if x = t then led (nums ++ new) b xs else led (nums ++ new) a (x :: xs)) = _
          rw [led_app okN _ x1, led_app okN _ x2, la, lb]
          rfl
      · rw [re] at w0
        have b0 : b = 0 := w0
        rw [re]
        show led (nums ++ new) a s = _
        rw [led_app okN _ x1, la]
        have into0 : ∀ s, led rows (intoOf rows k) s = false := fun s => by rw [← lb, b0, led_zero]
        have offA : ∀ x xs, x ≤ t → led rows (outOf rows k) (x :: xs) = false := fun x xs h => by rw [← la]; exact off okN x1 (by omega)
        cases s with
        | nil => rw [led_nil o kk k2]; rfl
        | cons x xs =>
          rw [led_cons o kk k2, et]
          by_cases c1 : x < t
          · rw [if_pos c1]; exact offA x xs (by omega)
          · rw [if_neg c1]
            by_cases c2 : x = t
            · rw [if_pos c2]
              show _ = led rows (intoOf rows k) xs
              rw [into0]
              exact offA x xs (by omega)
            · rw [if_neg c2]; rfl
    · have hp' := old k hk (by omega) p hp
      obtain ⟨p', e1, e2, _⟩ := I.base.has k hk (by omega)
      rw [hp'] at e1
      cases e1
      rw [led_app okN s e2]
      exact I.sem k hk (by omega) p hp' s
  · rw [rowIn_same c o h1 hk ht]
    by_cases e : tieOf rows k = t
    · rcases at_ k hk e p hp with ⟨i, hi, rfl⟩ | h
      · exact .inl ⟨by omega, hi⟩
      · exact .inr h
    · rcases I.img k hk (by omega) p (old k hk (by omega) p hp) with ⟨h2, h3⟩ | h
      · refine .inl ⟨h2, ?_⟩
        rw [List.getElem?_append_left (List.getElem?_eq_some_iff.mp h3).1]
        exact h3
      · exact .inr h
  · rcases Nat.lt_or_ge i nums.length with hi | hi
    · rw [List.getElem?_append_left hi] at e
      obtain ⟨k, hk, ht, hp⟩ := I.sur i r e
      exact ⟨k, hk, by omega, by rw [h1 k (.inr (by omega))]; exact hp⟩
    · have e' := e
      rw [List.getElem?_append_right hi] at e'
      obtain ⟨k, hk, ht, rfl, w0⟩ := hw r (List.mem_of_getElem? e')
      obtain ⟨p, hp, h⟩ := h2 k hk ht
      refine ⟨k, hk, by omega, ?_⟩
      rcases h with ⟨j, hj, rfl⟩ | ⟨nm, _⟩
      · rw [B.least.one i j _ e hj]
        exact hp
      · exact absurd (List.mem_of_getElem? e) nm
  · refine List.pairwise_append.mpr ⟨I.srt, so, fun a ha b hb => .inl ?_⟩
    have := I.base.ge a ha
    obtain ⟨k, _, hk, rfl, _⟩ := hw b hb
    show tieOf rows k < a.1
    omega
structure Canon (n : Nat) (nums : List Row) (top : Nat) : Prop where
  least : Least n nums
  srt : nums.Pairwise RowLt
  knot : Knot nums top
  led : ∀ p, 2 ≤ p → Knot nums p → p = top ∨ ∃ r ∈ nums, r.2.1 = p ∨ r.2.2 = p
theorem Kept2.canon (I : Kept2 n 0 rows rc nums pl) (c : Closed rows rc) (o : Ok n rows) {top hd : Nat} (ht : top ≤ 1 ∨ top ∈ rc) (hp : pl top = some hd) (par : ∀ k ∈ rc, k = top ∨ ∃ k' ∈ rc, k < k' ∧ (outOf rows k' = k ∨ intoOf rows k' = k)) :
    Canon n nums hd ∧ ∀ s, led nums hd s = led rows top s := by
  have key : ∀ d k p, k ∈ rc → rows.length + 2 - k ≤ d → pl k = some p → 2 ≤ p → p = hd ∨ ∃ r ∈ nums, r.2.1 = p ∨ r.2.2 = p := by
    intro d
    induction d with
    | zero =>
      intro k p hk hd' _ _
      have := c.knot k hk
      unfold Knot at this
      omega
    | succ d ih =>
      intro k p hk hd' hkp p2
      rcases par k hk with rfl | ⟨k', hk', lt, ch⟩
      · rw [hp] at hkp
        exact .inl (Option.some.inj hkp).symm
      · obtain ⟨p', hp', _⟩ := I.base.has k' hk' (Nat.zero_le _)
        have im := I.img k' hk' (Nat.zero_le _) p' hp'
        rcases ch with e | e
        · have ep : (rowIn rows pl k').2.1 = p := by
            show (pl (outOf rows k')).getD 0 = p
            rw [e, hkp]
            rfl
          rcases im with ⟨_, h3⟩ | ⟨_, h4⟩
          · exact .inr ⟨_, List.mem_of_getElem? h3, .inl ep⟩
          · rw [ep] at h4
            subst h4
            have := c.knot k' hk'
            unfold Knot at this
            exact ih k' p' hk' (by omega) hp' p2
        · have ep : (rowIn rows pl k').2.2 = p := by
            show (pl (intoOf rows k')).getD 0 = p
            rw [e, hkp]
            rfl
          rcases im with ⟨_, h3⟩ | ⟨h4, _⟩
          · exact .inr ⟨_, List.mem_of_getElem? h3, .inr ep⟩
          · omega
  refine ⟨⟨I.base.least, I.srt, ?_, fun p p2 kp => ?_⟩, fun s => ?_⟩
  · rcases ht with h | h
    · have : top = 0 ∨ top = 1 := by omega
      rcases this with rfl | rfl
      · rw [I.base.z] at hp; cases hp; unfold Knot; omega
      · rw [I.base.o] at hp; cases hp; unfold Knot; omega
    · obtain ⟨p, e, kn, _⟩ := I.base.has top h (Nat.zero_le _)
      rw [hp] at e
      cases e
      exact kn
  · obtain ⟨k, hk, _, hkp⟩ := I.sur (p - 2) _ (row_at kp p2)
    rw [show p - 2 + 2 = p by omega] at hkp
    exact key _ k p hk (Nat.le_refl _) hkp p2
  · rcases ht with h | h
    · have : top = 0 ∨ top = 1 := by omega
      rcases this with rfl | rfl
      · rw [I.base.z] at hp; cases hp; rw [led_zero, led_zero]
      · rw [I.base.o] at hp; cases hp; rw [led_one, led_one]
    · exact I.sem top h (Nat.zero_le _) hd hp s
end
end G
end
section
namespace G
section
variable {n : Nat} {A B : List Row} {a b k k' : Nat}
theorem some_way (L : Least n A) : ∀ (f k : Nat), k < f → Knot A k → k ≠ 0 → ∃ s, Way n A k s ∧ (2 ≤ k → ∃ xs, s = rank n A k :: xs) ∧ (k = 1 → s = [])
  | 0, k, h, _, _ => by omega
  | f + 1, k, h, kn, k0 => by
    rcases Nat.lt_or_ge k 2 with c | c
    · have e : k = 1 := by omega
      subst e
      exact ⟨[], way_end, fun z => by omega, fun _ => rfl⟩
    · obtain ⟨_, _, h3, _, _, _, k2⟩ := L.ok.low (row_at kn c)
      have w0 := L.pos _ _ (row_at kn c)
      obtain ⟨s, hs, _⟩ := some_way L f _ (by omega) k2 w0
      refine ⟨_, way_step L kn c hs, fun _ => ⟨s, ?_⟩, fun z => by omega⟩
      unfold rank
      rw [if_neg (by omega)]
structure Sim (A B : List Row) (k k' : Nat) : Prop where
  ka : Knot A k
  kb : Knot B k'
  eq : ∀ s, led A k s = led B k' s
theorem Sim.symm (S : Sim A B k k') : Sim B A k' k := ⟨S.kb, S.ka, fun s => (S.eq s).symm⟩
theorem Sim.no (LA : Least n A) (LB : Least n B) (S : Sim A B k k') : ¬ rank n A k < rank n B k' := fun h => by
  have k0 : k ≠ 0 := fun e => by
    subst e
    have : rank n B k' ≤ n + 1 := by
      unfold rank
      by_cases c : k' < 2
      · rw [if_pos c]; omega
      · rw [if_neg c]
        have := (LB.ok.low (row_at S.kb (by omega))).1
        omega
    have e : rank n A 0 = n + 1 := by unfold rank; rw [if_pos (by decide)]; rfl
    omega
  obtain ⟨s, ⟨w1, _, _⟩, s2, s1⟩ := some_way LA _ k (Nat.lt_succ_self _) S.ka k0
  rcases Nat.lt_or_ge k 2 with c | c
  · have e : k = 1 := by omega
    subst e
    rw [s1 rfl, S.eq] at w1
    have e1 : rank n A 1 = n := by unfold rank; rw [if_pos (by decide)]; rfl
    have k1 : k' = 0 := by
      unfold rank at h e1
      rw [e1] at h
      by_cases c' : k' < 2
      · rw [if_pos c'] at h; omega
      · rw [if_neg c'] at h
        have := (LB.ok.low (row_at S.kb (by omega))).1
        omega
    rw [k1, led_zero] at w1
    cases w1
  · obtain ⟨xs, rfl⟩ := s2 c
    rw [S.eq, off LB.ok S.kb h] at w1
    cases w1
theorem Sim.rank_eq (LA : Least n A) (LB : Least n B) (S : Sim A B k k') : rank n A k = rank n B k' := by
  have h1 := S.no LA LB
  have h2 := S.symm.no LB LA
  omega
theorem rank_two (L : Least n A) (kn : Knot A k) : 2 ≤ k ↔ rank n A k < n := by
  unfold rank
  constructor
  · intro h
    rw [if_neg (by omega)]
    exact (L.ok.low (row_at kn h)).1
  · intro h
    rcases Nat.lt_or_ge k 2 with c | c
    · rw [if_pos c] at h; omega
    · exact c
theorem Sim.small (LA : Least n A) (LB : Least n B) (S : Sim A B k k') (h : k ≤ 1) : k = k' := by
  have e := S.rank_eq LA LB
  have z := rank_two LA S.ka
  have z' := rank_two LB S.kb
  have : ¬ 2 ≤ k' := fun c => by have := z'.mp c; rw [← e] at this; have := z.mpr this; omega
  unfold rank at e
  rw [if_pos (by omega), if_pos (by omega)] at e
  omega
theorem Sim.child (LA : Least n A) (LB : Least n B) (S : Sim A B k k') (h : 2 ≤ k) : 2 ≤ k' ∧ tieOf A k = tieOf B k' ∧ Sim A B (outOf A k) (outOf B k') ∧ Sim A B (intoOf A k) (intoOf B k') := by
  have e := S.rank_eq LA LB
  have k2 : 2 ≤ k' := (rank_two LB S.kb).mpr (by rw [← e]; exact (rank_two LA S.ka).mp h)
  have et : tieOf A k = tieOf B k' := by
    unfold rank at e
    rw [if_neg (by omega), if_neg (by omega)] at e
    exact e
  obtain ⟨_, _, _, ra, _, ka1, ka2⟩ := LA.ok.low (row_at S.ka h)
  obtain ⟨_, _, _, rb, _, kb1, kb2⟩ := LB.ok.low (row_at S.kb k2)
  refine ⟨k2, et, ⟨ka1, kb1, fun s => ?_⟩, ⟨ka2, kb2, fun s => ?_⟩⟩
  · cases s with
    | nil =>
      have := S.eq []
      rw [led_nil LA.ok S.ka h, led_nil LB.ok S.kb k2] at this
      exact this
    | cons x xs =>
      by_cases c : x ≤ tieOf A k
      · rw [show led A (outOf A k) (x :: xs) = false from off LA.ok ka1 (by show x < rank n A (A.getD (k - 2) (0, 0, 0)).2.1; unfold tieOf at c; omega), show led B (outOf B k') (x :: xs) = false from off LB.ok kb1 (by show x < rank n B (B.getD (k' - 2) (0, 0, 0)).2.1; unfold tieOf at c et; omega)]
      · have := S.eq (x :: xs)
        rw [led_cons LA.ok S.ka h, led_cons LB.ok S.kb k2] at this
        unfold tieOf at c et
        rw [if_neg (by omega), if_neg (by omega), if_neg (by omega), if_neg (by omega)] at this
        exact this
  · have := S.eq (tieOf A k :: s)
    rw [led_cons LA.ok S.ka h, led_cons LB.ok S.kb k2] at this
    unfold tieOf at this et
    rw [if_neg (by omega), if_pos rfl, if_neg (by omega), if_pos et] at this
    exact this
end
end G
end
section
namespace G
def up (s : List Nat) : List Int := s.map fun (x : Nat) => (x : Int)
theorem up_inj : ∀ {s u : List Nat}, up s = up u → s = u
  | [], [], _ => rfl
  | [], _ :: _, h => by cases h
  | _ :: _, [], h => by cases h
  | x :: s, y :: u, h => by
    have h' : (x : Int) :: up s = (y : Int) :: up u := h
    injection h' with h1 h2
    rw [up_inj h2, Int.ofNat.inj h1]
section
variable {n lo d t k1 k2 : Nat} {ss : List (List Int)} {rows more more1 more2 : List Row}
structure Made2 (n lo d : Nat) (rows more : List Row) (k : Nat) (ss : List (List Int)) : Prop where
  base : Made n lo d rows more k ss.length
  sem : ∀ s, led (rows ++ more) k s = decide (up s ∈ ss)
end
end G
end
section
namespace G
theorem kept2_len {n : Nat} {rows nums : List Row} {rc : List Nat} {pl : Nat → Option Nat} (I : Kept2 n 0 rows rc nums pl) (c : Closed rows rc) : nums.length ≤ rows.length := by
  have ex : ∀ i, i < nums.length → ∃ k, k ∈ rc ∧ pl k = some (i + 2) := fun i hi => by
    obtain ⟨k, hk, _, e⟩ := I.sur i _ (List.getElem?_eq_getElem hi)
    exact ⟨k, hk, e⟩
  let g : Nat → Nat := fun i => if h : i < nums.length then Classical.choose (ex i h) else 0
  have hg : ∀ i, i < nums.length → g i ∈ rc ∧ pl (g i) = some (i + 2) := fun i hi => by
    have z := Classical.choose_spec (ex i hi)
    show (if h : i < nums.length then Classical.choose (ex i h) else 0) ∈ rc ∧ pl (if h : i < nums.length then Classical.choose (ex i h) else 0) = some (i + 2)
    rw [dif_pos hi]
    exact z
  have nd : ((List.range nums.length).map g).Nodup := by
    unfold List.Nodup
    rw [List.pairwise_map]
    refine List.Pairwise.imp_of_mem (fun {a b} ha hb h e => ?_) (List.nodup_range (n := nums.length))
    have h1 := (hg a (List.mem_range.mp ha)).2
    have h2 := (hg b (List.mem_range.mp hb)).2
    rw [e, h2] at h1
    injection h1 with h1
    omega
  have z := ST.len_of_sub nd (l₂ := (List.range rows.length).map (· + 2)) fun x hx => by
    obtain ⟨i, hi, rfl⟩ := List.mem_map.mp hx
    have hk := (hg i (List.mem_range.mp hi)).1
    have a := c.two _ hk
    have b : g i < rows.length + 2 := c.knot _ hk
    exact List.mem_map.mpr ⟨g i - 2, List.mem_range.mpr (by omega), by omega⟩
  rw [List.length_map, List.length_map, List.length_range, List.length_range] at z
  exact z
end G
end
section
namespace G
section
variable {n t : Nat} {A rows nums : List Row} {rc : List Nat} {pl : Nat → Option Nat}
theorem Sim.inj (L : Least n A) : ∀ (f k k' : Nat), k < f → Sim A A k k' → k = k' := by
  intro f
  induction f with
  | zero => intro k k' h; omega
  | succ f ih =>
    intro k k' hk S
    rcases Nat.lt_or_ge k 2 with c | c
    · exact S.small L L (by omega)
    · obtain ⟨c', et, so, si⟩ := S.child L L c
      have ra := row_at S.ka c
      have rb := row_at S.kb c'
      obtain ⟨_, a1, a2, _⟩ := L.ok.low ra
      have e1 : outOf A k = outOf A k' := ih _ _ (by show (A.getD (k - 2) (0, 0, 0)).2.1 < f; omega) so
      have e2 : intoOf A k = intoOf A k' := ih _ _ (by show (A.getD (k - 2) (0, 0, 0)).2.2 < f; omega) si
      have er : A.getD (k - 2) (0, 0, 0) = A.getD (k' - 2) (0, 0, 0) := Prod.ext et (Prod.ext e1 e2)
      rw [er] at ra
      have := L.one _ _ _ ra rb
      omega
theorem led_inj (L : Least n A) {a b : Nat} (ka : Knot A a) (kb : Knot A b) (h : ∀ s, led A a s = led A b s) : a = b := Sim.inj L (a + 1) a b (Nat.lt_succ_self _) ⟨ka, kb, h⟩
def Few (rows : List Row) (top : Nat) : Prop := ∃ P : Nat → Prop, P top ∧ (∀ k, P k → 2 ≤ k → Knot rows k → P (outOf rows k) ∧ P (intoOf rows k)) ∧
  ∀ (t : Nat) (ks : List Nat), (∀ k ∈ ks, P k ∧ 2 ≤ k ∧ Knot rows k ∧ tieOf rows k = t ∧ ∃ s, led rows (intoOf rows k) s = true) → ks.Pairwise (fun a b => ∃ s, led rows a s ≠ led rows b s) → ks.length ≤ 60
theorem reach_all {P : Nat → Prop} {top : Nat} (pt : P top) (ps : ∀ k, P k → 2 ≤ k → Knot rows k → P (outOf rows k) ∧ P (intoOf rows k)) (c : Closed rows rc) (par : ∀ k ∈ rc, k = top ∨ ∃ k' ∈ rc, k < k' ∧ (outOf rows k' = k ∨ intoOf rows k' = k)) : ∀ (d k : Nat), rows.length + 2 - k ≤ d → k ∈ rc → P k := by
  intro d
  induction d with
  | zero => intro k h hk; have : k < rows.length + 2 := c.knot k hk; omega
  | succ d ih =>
    intro k h hk
    rcases par k hk with rfl | ⟨k', hk', lt, e⟩
    · exact pt
    · have : k < rows.length + 2 := c.knot k hk
      have z := ps k' (ih k' (by omega) hk') (c.two k' hk') (c.knot k' hk')
      rcases e with rfl | rfl
      · exact z.1
      · exact z.2
def lowH (t : Nat) : List Nat → Bool
  | [] => false
  | x :: _ => decide (x ≤ t)
theorem Few.sel {top : Nat} (F : Few rows top) (I : Kept2 n (t + 1) rows rc nums pl) (c : Closed rows rc) (o : Ok n rows) (hn : t < n) (par : ∀ k ∈ rc, k = top ∨ ∃ k' ∈ rc, k < k' ∧ (outOf rows k' = k ∨ intoOf rows k' = k)) :
    ∀ new : List Row, new.Nodup → (∀ r ∈ new, ∃ k, k ∈ rc ∧ tieOf rows k = t ∧ r = rowIn rows pl k ∧ r.2.2 ≠ 0) → new.length ≤ 60 := by
  intro new nd hw
  obtain ⟨P, pt, ps, few⟩ := F
  have hP : ∀ k ∈ rc, P k := fun k hk => reach_all pt ps c par _ k (Nat.le_refl _) hk
  obtain ⟨g, hg⟩ : ∃ g : Row → Nat, ∀ r ∈ new, g r ∈ rc ∧ tieOf rows (g r) = t ∧ r = rowIn rows pl (g r) ∧ r.2.2 ≠ 0 :=
    ⟨fun r => if h : r ∈ new then Classical.choose (hw r h) else 0, fun r h => by
      dsimp only
      rw [dif_pos h]
      exact Classical.choose_spec (hw r h)⟩
  have okN := I.base.least.ok
  have key : ∀ r ∈ new, ∃ a b, r = (t, a, b) ∧ Knot nums a ∧ Knot nums b ∧ b ≠ 0 ∧ (∀ s, led nums a s = led rows (outOf rows (g r)) s) ∧ (∀ s, led nums b s = led rows (intoOf rows (g r)) s) ∧ (∀ xs, led rows (g r) (t :: xs) = led nums b xs) ∧ ∀ s, led nums a s = if lowH t s = true then false else led rows (g r) s := fun r hr => by
    obtain ⟨hk, ht, e, w0⟩ := hg r hr
    obtain ⟨a, b, ea, eb, re, x1, x2, x3, x4⟩ := I.base.row c o hn hk ht
    obtain ⟨_, z1, z2⟩ := c.low o hk
    have la : ∀ s, led nums a s = led rows (outOf rows (g r)) s := I.low (c.out _ hk) (by rw [← ht]; exact z1) ea
    have lb : ∀ s, led nums b s = led rows (intoOf rows (g r)) s := I.low (c.into _ hk) (by rw [← ht]; exact z2) eb
    have kk := c.knot _ hk
    have k2 := c.two _ hk
    have et : (rows.getD (g r - 2) (0, 0, 0)).1 = t := ht
    refine ⟨a, b, e.trans re, x1, x2, ?_, la, lb, fun xs => ?_, fun s => ?_⟩
    · rw [e, re] at w0
      exact w0
    · rw [led_cons o kk k2, et, if_neg (Nat.lt_irrefl _), if_pos rfl, lb]
      rfl
    · cases s with
      | nil => rw [la, led_nil o kk k2, if_neg (by intro z; cases z)]; rfl
      | cons x xs =>
        by_cases cs : x ≤ t
        · rw [if_pos (show lowH t (x :: xs) = true from decide_eq_true cs)]
          exact off okN x1 (by omega)
        · rw [if_neg (show ¬ lowH t (x :: xs) = true from fun z => cs (of_decide_eq_true z)), la, led_cons o kk k2, et, if_neg (by omega), if_neg (by omega)]
          rfl
  have := few t (new.map g) (fun k hk => by
    obtain ⟨r, hr, rfl⟩ := List.mem_map.mp hk
    obtain ⟨h1, h2, h3, h4⟩ := hg r hr
    obtain ⟨a, b, _, _, kb, b0, _, lb, _⟩ := key r hr
    refine ⟨hP _ h1, c.two _ h1, c.knot _ h1, h2, ?_⟩
    obtain ⟨s, w, _⟩ := some_way I.base.least (b + 1) b (Nat.lt_succ_self _) kb b0
    exact ⟨s, by rw [← lb]; exact w.1⟩) (by
    rw [List.pairwise_map]
    refine List.Pairwise.imp_of_mem (fun {r r'} hr hr' ne => ?_) nd
    refine Classical.byContradiction fun h => ne ?_
    have same : ∀ s, led rows (g r) s = led rows (g r') s := fun s => Classical.byContradiction fun z => h ⟨s, z⟩
    obtain ⟨a, b, er, ka, kb, _, _, _, lb, la⟩ := key r hr
    obtain ⟨a', b', er', ka', kb', _, _, _, lb', la'⟩ := key r' hr'
    have e1 : a = a' := led_inj I.base.least ka ka' fun s => by rw [la, la', same]
    have e2 : b = b' := led_inj I.base.least kb kb' fun s => by rw [← lb, ← lb', same]
    rw [er, er', e1, e2])
  rwa [List.length_map] at this
end
end G
end
section
namespace G
section
variable {n : Nat} {A rows more : List Row} {m k : Nat}
def Like (A rows : List Row) (m k : Nat) : Prop := Knot rows k ∧ ∀ s, led rows k s = led A m s
theorem new_row (rows : List Row) (r : Row) : (rows ++ [r]).getD (rows.length + 2 - 2) (0, 0, 0) = r := by
  rw [Nat.add_sub_cancel, List.getD_eq_getElem?_getD, List.getElem?_append_right (by omega), Nat.sub_self]
  rfl
theorem new_knot (rows : List Row) (r : Row) : Knot (rows ++ [r]) (rows.length + 2) := by
  unfold Knot
  rw [List.length_append, List.length_singleton]
  omega
theorem knots_few {t : Nat} (ks : List Nat) (hk : ∀ k ∈ ks, 2 ≤ k ∧ Knot A k ∧ tieOf A k = t) (nd : ks.Nodup) : ks.length ≤ (A.filter fun r => decide (r.1 = t)).length := by
  have hsub : ∀ i ∈ (ks.map (· - 2)), i < A.length ∧ (A.getD i (0, 0, 0)).1 = t := fun i hi => by
    obtain ⟨k, hk', rfl⟩ := List.mem_map.mp hi
    obtain ⟨k2, kn, ht⟩ := hk k hk'
    exact ⟨by unfold Knot at kn; omega, ht⟩
  have nd2 : (ks.map (· - 2)).Nodup := by
    unfold List.Nodup
    rw [List.pairwise_map]
    refine List.Pairwise.imp_of_mem (fun {a b} ha hb h e => h ?_) nd
    have := (hk a ha).1
    have := (hk b hb).1
    omega
  have z := ST.len_of_sub nd2 (l₂ := (List.range A.length).filter fun i => decide ((A.getD i (0, 0, 0)).1 = t)) fun i hi => by
    obtain ⟨h1, h2⟩ := hsub i hi
    exact List.mem_filter.mpr ⟨List.mem_range.mpr h1, decide_eq_true h2⟩
  rw [List.length_map] at z
  refine Nat.le_trans z (Nat.le_of_eq ?_)
  have e : A = (List.range A.length).map fun i => A.getD i (0, 0, 0) := by
    apply List.ext_getElem?
    intro i
    rw [List.getElem?_map]
    by_cases c : i < A.length
    · rw [List.getElem?_range c, List.getElem?_eq_getElem c]
      simp [List.getD_eq_getElem?_getD, c]
    · rw [List.getElem?_eq_none (by omega), List.getElem?_eq_none (by rw [List.length_range]; omega)]
      rfl
  conv => rhs; rw [e, List.filter_map, List.length_map]
  rfl
structure Stand (A rows : List Row) (m : Nat) (ks : List Nat) : Prop where
  kn : Knot A m
  all : ∀ k ∈ ks, Like A rows m k
  some : ∃ k ∈ ks, k ≤ 1 ∨ (2 ≤ m ∧ tieOf A m ≤ tieOf rows k)
  len : ks.length ≤ 6
end
end G
end
section
namespace G
def addRow (S : List (List (List Nat))) (r : Row) : List (List (List Nat)) := S ++ [S.getD r.2.1 [] ++ (S.getD r.2.2 []).map (r.1 :: ·)]
def setsUp (rows : List Row) : List (List (List Nat)) := rows.foldl addRow [[], [[]]]
def setsOf (rows : List Row) (k : Nat) : List (List Nat) := (setsUp rows).getD k []
theorem setsUp_snoc (rows : List Row) (r : Row) : setsUp (rows ++ [r]) = addRow (setsUp rows) r := by unfold setsUp; rw [List.foldl_append]; rfl
theorem setsUp_len : ∀ (rows : List Row), (setsUp rows).length = rows.length + 2 := by
  intro rows
  suffices h : ∀ (l : List Row) (S : List (List (List Nat))), (l.foldl addRow S).length = S.length + l.length by
    unfold setsUp
    rw [h]
    show 2 + _ = _
    omega
  intro l
  induction l with
  | nil => intro S; simp
  | cons a l ih =>
    intro S
    rw [List.foldl_cons, ih]
    unfold addRow
    rw [List.length_append]
    simp
    omega
def num (n : Nat) : List Nat → Nat
  | [] => 0
  | x :: xs => 2 ^ (n - 1 - x) + num n xs
theorem num_lt {n : Nat} : ∀ {s : List Nat} {t : Nat}, s.Pairwise (· < ·) → (∀ x ∈ s, t ≤ x ∧ x < n) → num n s < 2 ^ (n - t)
  | [], t, _, _ => Nat.two_pow_pos _
  | x :: xs, t, h, hr => by
    obtain ⟨h1, h2⟩ := List.pairwise_cons.mp h
    obtain ⟨x1, x2⟩ := hr x List.mem_cons_self
    have ih := num_lt (t := x + 1) h2 fun y hy => ⟨h1 y hy, (hr y (List.mem_cons_of_mem _ hy)).2⟩
    have e : 2 ^ (n - x) = 2 ^ (n - 1 - x) + 2 ^ (n - 1 - x) := by
      rw [show n - x = (n - 1 - x) + 1 by omega, Nat.pow_succ]
      omega
    have le : 2 ^ (n - x) ≤ 2 ^ (n - t) := Nat.pow_le_pow_right (by decide) (by omega)
    have e2 : n - (x + 1) = n - 1 - x := by omega
    rw [e2] at ih
    show 2 ^ (n - 1 - x) + num n xs < _
    omega
section
variable {n : Nat} {rows : List Row}
structure InOrder (n : Nat) (rows : List Row) (k : Nat) (L : List (List Nat)) : Prop where
  mem : ∀ s, s ∈ L ↔ led rows k s = true
  ord : L.Pairwise fun s u => num n s < num n u
  way : ∀ s ∈ L, s.Pairwise (· < ·) ∧ ∀ x ∈ s, rank n rows k ≤ x ∧ x < n
theorem getD_app {α : Type} {l m : List α} {k : Nat} {d : α} (h : k < l.length) : (l ++ m).getD k d = l.getD k d := by
  rw [List.getD_eq_getElem?_getD, List.getD_eq_getElem?_getD, List.getElem?_append_left h]
theorem setsOf_app (o : Ok n rows) (r : Row) {k : Nat} (kn : Knot rows k) : setsOf (rows ++ [r]) k = setsOf rows k := by
  unfold setsOf
  rw [setsUp_snoc]
  unfold addRow
  exact getD_app (by rw [setsUp_len]; exact kn)
theorem setsOf_new (rows : List Row) (r : Row) : setsOf (rows ++ [r]) (rows.length + 2) = setsOf rows r.2.1 ++ (setsOf rows r.2.2).map (r.1 :: ·) := by
  unfold setsOf
  rw [setsUp_snoc]
  unfold addRow
  rw [List.getD_eq_getElem?_getD, List.getElem?_append_right (by rw [setsUp_len]; exact Nat.le_refl _), setsUp_len, Nat.sub_self]
  rfl
theorem InOrder.app (o : Ok n rows) {r : Row} {k : Nat} {L : List (List Nat)} (kn : Knot rows k) (I : InOrder n rows k L) : InOrder n (rows ++ [r]) k L :=
  ⟨fun s => by rw [led_app o s kn]; exact I.mem s, I.ord, fun s hs => by rw [rank_app kn]; exact I.way s hs⟩
theorem ok_init {r : Row} (o : Ok n (rows ++ [r])) : Ok n rows := fun i q e => by
  have il := (List.getElem?_eq_some_iff.mp e).1
  obtain ⟨h1, h2, h3⟩ := o i q (by rw [List.getElem?_append_left il]; exact e)
  have low : ∀ l, Low (rows ++ [r]) q.1 (i + 2) l → Low rows q.1 (i + 2) l := fun l ⟨a, b⟩ => ⟨a, b.imp id fun ⟨u, e, z⟩ => ⟨u, by rw [List.getElem?_append_left (by omega)] at e; exact e, z⟩⟩
  exact ⟨h1, low _ h2, low _ h3⟩
theorem in_order : ∀ (m : Nat) (rows : List Row), rows.length = m → Ok n rows → ∀ k, Knot rows k → InOrder n rows k (setsOf rows k) := by
  intro m
  induction m with
  | zero =>
    intro rows h o k kn
    have e : rows = [] := List.length_eq_zero_iff.mp h
    subst e
    have : k = 0 ∨ k = 1 := by unfold Knot at kn; simp at kn; omega
    rcases this with rfl | rfl
    · refine ⟨fun s => ?_, .nil, fun s hs => by cases hs⟩
      rw [led_zero]
      exact ⟨fun h => (by cases h), fun h => (by cases h)⟩
    · refine ⟨fun s => ?_, List.pairwise_singleton _ _, fun s hs => ?_⟩
      · rw [led_one, decide_eq_true_iff]
        exact List.mem_singleton
      · rw [List.mem_singleton.mp hs]
        exact ⟨.nil, fun x hx => by cases hx⟩
  | succ m ih =>
    intro rows h o k kn
    have ne : rows ≠ [] := fun e => by rw [e] at h; cases h
    obtain ⟨init, r, rfl⟩ : ∃ init r, rows = init ++ [r] := ⟨rows.dropLast, rows.getLast ne, (List.dropLast_concat_getLast ne).symm⟩
    have hl : init.length = m := by simpa using h
    have oi := ok_init o
    have I := ih init hl oi
    by_cases c : k < init.length + 2
    · rw [setsOf_app oi r c]
      exact (I k c).app oi c
    · have ek : k = init.length + 2 := by unfold Knot at kn; simp at kn; omega
      subst ek
      have hi : (init ++ [r])[init.length]? = some r := by simp
      obtain ⟨t1, l1, l2, r1, r2, _, _⟩ := o.low hi
      have kn1 : Knot init r.2.1 := l1
      have kn2 : Knot init r.2.2 := l2
      have I1 := (I _ kn1).app (r := r) oi kn1
      have I2 := (I _ kn2).app (r := r) oi kn2
      have eg : (init ++ [r]).getD (init.length + 2 - 2) (0, 0, 0) = r := by rw [Nat.add_sub_cancel, List.getD_eq_getElem?_getD, hi]; rfl
      have rk : rank n (init ++ [r]) (init.length + 2) = r.1 := by unfold rank; rw [if_neg (by omega), eg]
      rw [setsOf_new]
      refine ⟨fun s => ?_, ?_, fun s hs => ?_⟩
      · rw [List.mem_append, List.mem_map]
        cases s with
        | nil =>
          rw [led_nil o kn (by omega), eg, I1.mem]
          exact ⟨fun h => h.elim id fun ⟨u, _, e⟩ => (by cases e), .inl⟩
        | cons x xs =>
          rw [led_cons o kn (by omega), eg, I1.mem]
          by_cases c1 : x < r.1
          · rw [if_pos c1]
            refine ⟨fun h => ?_, fun h => by cases h⟩
            rcases h with h | ⟨u, _, e⟩
            · rw [off o (knot_app kn1) (by omega)] at h; exact h
            · injection e with e _; omega
          · rw [if_neg c1]
            by_cases c2 : x = r.1
            · rw [if_pos c2]
              subst c2
              refine ⟨fun h => ?_, fun h => .inr ⟨xs, (I2.mem xs).mpr h, rfl⟩⟩
              rcases h with h | ⟨u, hu, e⟩
              · rw [off o (knot_app kn1) (by omega)] at h; cases h
              · injection e with _ e
                rw [← e]
                exact (I2.mem u).mp hu
            · rw [if_neg c2]
              refine ⟨fun h => h.elim id fun ⟨u, _, e⟩ => (by injection e with e _; omega), .inl⟩
      · refine List.pairwise_append.mpr ⟨I1.ord, ?_, fun s hs u hu => ?_⟩
        · rw [List.pairwise_map]
          exact I2.ord.imp fun {a b} h => by show 2 ^ _ + _ < 2 ^ _ + _; omega
        · obtain ⟨v, hv, rfl⟩ := List.mem_map.mp hu
          obtain ⟨w1, w2⟩ := I1.way s hs
          have := num_lt (n := n) (t := r.1 + 1) w1 fun x hx => ⟨by have := (w2 x hx).1; omega, (w2 x hx).2⟩
          rw [show n - (r.1 + 1) = n - 1 - r.1 by omega] at this
          show _ < 2 ^ (n - 1 - r.1) + _
          omega
      · rw [rk]
        rcases List.mem_append.mp hs with hs | hs
        · obtain ⟨w1, w2⟩ := I1.way s hs
          exact ⟨w1, fun x hx => ⟨by have := (w2 x hx).1; omega, (w2 x hx).2⟩⟩
        · obtain ⟨v, hv, rfl⟩ := List.mem_map.mp hs
          obtain ⟨w1, w2⟩ := I2.way v hv
          refine ⟨.cons (fun x hx => by have := (w2 x hx).1; omega) w1, fun x hx => ?_⟩
          rcases List.mem_cons.mp hx with rfl | hx
          · exact ⟨Nat.le_refl _, t1⟩
          · exact ⟨by have := (w2 x hx).1; omega, (w2 x hx).2⟩
end
end G
end
section
namespace G
abbrev Sta := List Int
section
variable (lef tak pas : Nat → Sta → Option Sta) (ful : Sta → Bool)
def stepS (t : Nat) (g : Option Sta → List Nat → Bool) (st : Sta) : List Nat → Bool
  | [] => g (lef t st) []
  | x :: xs => if x < t then false else if x = t then g (tak t st) xs else g (lef t st) (x :: xs)
def semG : Nat → Nat → Option Sta → List Nat → Bool
  | _, _, none, _ => false
  | 0, t, some r, s => match pas t r with
    | none => false
    | some st => ful st && decide (s = [])
  | d + 1, t, some r, s => match pas t r with
    | none => false
    | some st => stepS lef tak t (semG d (t + 1)) st s
end
section
variable {n t k kl kr : Nat} {rows more : List Row} {f : List Nat → Bool}
structure Lead (rows : List Row) (t k : Nat) (f : List Nat → Bool) : Prop where
  kn : Knot rows k
  up : k ≤ 1 ∨ t ≤ tieOf rows k
  eq : ∀ s, led rows k s = f s
theorem Lead.app (o : Ok n rows) (h : Lead rows t k f) : Lead (rows ++ more) t k f := by
  refine ⟨knot_app h.kn, ?_, fun s => by rw [led_app o s h.kn, h.eq]⟩
  rcases Nat.lt_or_ge 1 k with c | c
  · rw [tie_app h.kn c]; exact h.up
  · exact .inl c
theorem lead_zero (h : ∀ s, f s = false) : Lead rows t 0 f := ⟨by unfold Knot; omega, .inl (by omega), fun s => by rw [led_zero, h]⟩
theorem lead_one (h : ∀ s, f s = decide (s = [])) : Lead rows t 1 f := ⟨by unfold Knot; omega, .inl (by omega), fun s => by rw [led_one, h]⟩
theorem lead_row {lef tak : Nat → Sta → Option Sta} {g : Option Sta → List Nat → Bool} {st : Sta} (o : Ok n rows) (tn : t < n) (hl : Lead rows (t + 1) kl (g (lef t st))) (hr : Lead rows (t + 1) kr (g (tak t st))) :
    Ok n (rows ++ [(t, kl, kr)]) ∧ Lead (rows ++ [(t, kl, kr)]) t (rows.length + 2) (stepS lef tak t g st) := by
  have o2 : Ok n (rows ++ [(t, kl, kr)]) := ok_app o tn (low_knot hl.kn hl.up) (low_knot hr.kn hr.up)
  have e := new_row rows (t, kl, kr)
  have kn := new_knot rows (t, kl, kr)
  refine ⟨o2, kn, .inr ?_, fun s => ?_⟩
  · unfold tieOf
    rw [e]
    exact Nat.le_refl _
  · cases s with
    | nil =>
      rw [led_nil o2 kn (by omega), e, led_app o _ hl.kn, hl.eq]
      rfl
    | cons x xs =>
      rw [led_cons o2 kn (by omega), e, led_app o _ hl.kn, led_app o _ hr.kn, hl.eq, hr.eq]
      rfl
def Cnt (t : Nat) (more : List Row) : Prop := ∀ j, (more.filter fun r => decide (r.1 = j)).length ≤ if j < t then 0 else 2 ^ (j - t)
theorem cnt_nil : Cnt t [] := fun j => Nat.zero_le _
theorem cnt_step {m1 m2 : List Row} (h1 : Cnt (t + 1) m1) (h2 : Cnt (t + 1) m2) : Cnt t (m1 ++ m2 ++ [(t, kl, kr)]) := fun j => by
  have a := h1 j
  have b := h2 j
  rw [List.filter_append, List.filter_append, List.length_append, List.length_append]
  rcases Nat.lt_trichotomy j t with c | c | c
  · rw [if_pos (by omega)] at a b
    rw [if_pos c, List.filter_cons_of_neg (by simp; omega)]
    show _ + _ + 0 ≤ 0
    omega
  · subst c
    rw [if_pos (by omega)] at a b
    rw [if_neg (by omega), Nat.sub_self, List.filter_cons_of_pos (by simp)]
    show _ + _ + 1 ≤ 1
    omega
  · rw [if_neg (by omega)] at a b
    rw [if_neg (by omega), List.filter_cons_of_neg (by simp; omega)]
    have e : 2 ^ (j - t) = 2 ^ (j - (t + 1)) + 2 ^ (j - (t + 1)) := by
      rw [show j - t = (j - (t + 1)) + 1 by omega, Nat.pow_succ]
      omega
    show _ + _ + 0 ≤ _
    omega
theorem codes (o : Ok n rows) (n8 : n ≤ 8) (t6 : 6 ≤ t) {a b : Nat} (ka : Knot rows a) (kb : Knot rows b) (ta : tieOf rows a = t) (tb : tieOf rows b = t) (a2 : 2 ≤ a) (b2 : 2 ≤ b)
    (h0 : led rows a [] = led rows b []) (h1 : led rows a [6] = led rows b [6]) (h2 : led rows a [7] = led rows b [7]) (h3 : led rows a [6, 7] = led rows b [6, 7]) : ∀ s, led rows a s = led rows b s := by
  have lim : ∀ {k : Nat} {s : List Nat}, Knot rows k → 2 ≤ k → tieOf rows k = t → led rows k s = true → s = [] ∨ s = [6] ∨ s = [7] ∨ s = [6, 7] := fun {k s} kn k2 tk ld => by
    have I0 := in_order _ _ rfl o _ kn
    obtain ⟨w1, w2⟩ := I0.way s ((I0.mem s).mpr ld)
    have bd : ∀ x ∈ s, 6 ≤ x ∧ x < 8 := fun x hx => by
      have z := w2 x hx
      unfold rank at z
      rw [if_neg (by omega)] at z
      have e : (rows.getD (k - 2) (0, 0, 0)).1 = t := tk
      omega
    match s, w1, bd with
    | [], _, _ => exact .inl rfl
    | [x], _, bd =>
      have := bd x (List.mem_cons_self ..)
      have : x = 6 ∨ x = 7 := by omega
      rcases this with rfl | rfl
      · exact .inr (.inl rfl)
      · exact .inr (.inr (.inl rfl))
    | x :: y :: r, w1, bd =>
      have hx := bd x (List.mem_cons_self ..)
      have hy := bd y (List.mem_cons_of_mem _ (List.mem_cons_self ..))
      have lt : x < y := (List.pairwise_cons.mp w1).1 y (List.mem_cons_self ..)
      obtain rfl : x = 6 := by omega
      obtain rfl : y = 7 := by omega
      cases r with
      | nil => exact .inr (.inr (.inr rfl))
      | cons u r =>
        have hu := bd u (List.mem_cons_of_mem _ (List.mem_cons_of_mem _ (List.mem_cons_self ..)))
        have lt2 : 7 < u := (List.pairwise_cons.mp (List.pairwise_cons.mp w1).2).1 u (List.mem_cons_self ..)
        omega
  have all : ∀ s, (s = [] ∨ s = [6] ∨ s = [7] ∨ s = [6, 7]) → led rows a s = led rows b s := fun s h => by
    rcases h with rfl | rfl | rfl | rfl
    · exact h0
    · exact h1
    · exact h2
    · exact h3
  intro s
  cases ea : led rows a s with
  | true => rw [← all s (lim ka a2 ta ea), ea]
  | false =>
    cases eb : led rows b s with
    | true => rw [← all s (lim kb b2 tb eb), ea] at eb; exact eb
    | false => rfl
theorem grown_few (o : Ok n rows) (n8 : n ≤ 8) (c : Cnt 0 rows) (top : Nat) : Few rows top := by
  refine ⟨fun _ => True, trivial, fun _ _ _ _ => ⟨trivial, trivial⟩, fun t ks hk un => ?_⟩
  have nd : ks.Nodup := un.imp fun {a b} ⟨s, h⟩ e => h (by rw [e])
  rcases Nat.lt_or_ge t 6 with c6 | c6
  · have z := knots_few (A := rows) (t := t) ks (fun k h => ⟨(hk k h).2.1, (hk k h).2.2.1, (hk k h).2.2.2.1⟩) nd
    have y := c t
    rw [if_neg (by omega), Nat.sub_zero] at y
    have : 2 ^ t ≤ 2 ^ 5 := Nat.pow_le_pow_right (by decide) (by omega)
    omega
  · let code : Nat → Nat := fun k => (if led rows k [] = true then 1 else 0) + (if led rows k [6] = true then 2 else 0) + (if led rows k [7] = true then 4 else 0) + (if led rows k [6, 7] = true then 8 else 0)
    have lt : ∀ k, code k < 16 := fun k => by
      show (if led rows k [] = true then 1 else 0) + (if led rows k [6] = true then 2 else 0) + (if led rows k [7] = true then 4 else 0) + (if led rows k [6, 7] = true then 8 else 0) < 16
      split <;> split <;> split <;> split <;> omega
    have inj : ∀ a b, code a = code b → led rows a [] = led rows b [] ∧ led rows a [6] = led rows b [6] ∧ led rows a [7] = led rows b [7] ∧ led rows a [6, 7] = led rows b [6, 7] := fun a b e => by
      have e' : (if led rows a [] = true then 1 else 0) + (if led rows a [6] = true then 2 else 0) + (if led rows a [7] = true then 4 else 0) + (if led rows a [6, 7] = true then 8 else 0) = (if led rows b [] = true then 1 else 0) + (if led rows b [6] = true then 2 else 0) + (if led rows b [7] = true then 4 else 0) + (if led rows b [6, 7] = true then 8 else 0) := e
      cases h1 : led rows a [] <;> cases h2 : led rows a [6] <;> cases h3 : led rows a [7] <;> cases h4 : led rows a [6, 7] <;> cases g1 : led rows b [] <;> cases g2 : led rows b [6] <;> cases g3 : led rows b [7] <;> cases g4 : led rows b [6, 7] <;> simp [h1, h2, h3, h4, g1, g2, g3, g4] at e' ⊢
    have z := ST.len_of_sub (l₁ := ks.map code) (l₂ := List.range 16) (by
      unfold List.Nodup
      rw [List.pairwise_map]
      refine List.Pairwise.imp_of_mem (fun {a b} ha hb ⟨s, ne⟩ e => ne ?_) un
      obtain ⟨i0, i1, i2, i3⟩ := inj a b e
      obtain ⟨_, a2, ka, ta, _⟩ := hk a ha
      obtain ⟨_, b2, kb, tb, _⟩ := hk b hb
      exact codes o n8 c6 ka kb ta tb a2 b2 i0 i1 i2 i3 s) fun x hx => by
      obtain ⟨k, _, rfl⟩ := List.mem_map.mp hx
      exact List.mem_range.mpr (lt k)
    rw [List.length_map, List.length_range] at z
    omega
end
end G
end
section
namespace G
section
variable (on : Nat → Nat → Bool) (L : Nat → Nat) (z n : Nat)
def passC : Sta → List Nat → Option Sta
  | st, [] => some st
  | st, p :: ps => if 1 ≤ st.getD p 0 then passC (st.set p 0) ps else none
def pasC (t : Nat) (st : Sta) : Option Sta := passC st ((List.range z).filter fun p => decide (L p = t))
def tkC (t : Nat) (st : Sta) : Sta := (List.range st.length).map fun p => if on p t = true then min (st.getD p 0 + 1) 2 else st.getD p 0
def takC (t : Nat) (st : Sta) : Option Sta := some (tkC on t st)
def lefC (_ : Nat) (st : Sta) : Option Sta := some st
def Cov (t : Nat) (r : Sta) (s : List Nat) : Prop := s.Pairwise (· < ·) ∧ (∀ x ∈ s, t ≤ x ∧ x < n) ∧ ∀ p, p < z → t ≤ L p → 1 ≤ r.getD p 0 ∨ ∃ x ∈ s, on p x = true
end
theorem getD_set (l : Sta) (p q : Nat) (h : q ≠ p) : (l.set p 0).getD q 0 = l.getD q 0 := by
  rw [List.getD_eq_getElem?_getD, List.getD_eq_getElem?_getD, List.getElem?_set_ne (Ne.symm h)]
theorem passC_some : ∀ (ps : List Nat) (st st' : Sta), ps.Nodup → passC st ps = some st' → (∀ p ∈ ps, 1 ≤ st.getD p 0) ∧ st'.length = st.length ∧ (∀ q, q ∉ ps → st'.getD q 0 = st.getD q 0) ∧ ∀ q, (st'.getD q 0 = st.getD q 0 ∨ st'.getD q 0 = 0)
  | [], st, st', _, h => by cases h; exact ⟨fun p hp => (nomatch hp), rfl, fun q _ => rfl, fun q => .inl rfl⟩
  | p :: ps, st, st', nd, h => by
    unfold passC at h
    by_cases c : 1 ≤ st.getD p 0
    · rw [if_pos c] at h
      obtain ⟨np, nd'⟩ := List.nodup_cons.mp nd
      obtain ⟨h1, h2, h3, h4⟩ := passC_some ps _ _ nd' h
      refine ⟨fun q hq => ?_, by rw [h2, List.length_set], fun q hq => ?_, fun q => ?_⟩
      · rcases List.mem_cons.mp hq with rfl | hq
        · exact c
        · have := h1 q hq
          rwa [getD_set _ _ _ (fun e => np (by rw [← e]; exact hq))] at this
      · rw [h3 q (fun e => hq (List.mem_cons_of_mem _ e)), getD_set _ _ _ (fun e => hq (by rw [e]; exact List.mem_cons_self ..))]
      · rcases h4 q with e | e
        · by_cases cq : q = p
          · subst cq
            by_cases l : q < st.length
            · right
              rw [e, List.getD_eq_getElem?_getD, List.getElem?_set_self l]
              rfl
            · left
              rw [e, List.getD_eq_getElem?_getD, List.getD_eq_getElem?_getD, List.getElem?_eq_none (by rw [List.length_set]; omega), List.getElem?_eq_none (by omega)]
          · left
            rw [e, getD_set _ _ _ cq]
        · exact .inr e
    · rw [if_neg c] at h
      cases h
theorem passC_none : ∀ (ps : List Nat) (st : Sta), ps.Nodup → passC st ps = none → ∃ p ∈ ps, ¬ 1 ≤ st.getD p 0
  | [], st, _, h => by cases h
  | p :: ps, st, nd, h => by
    unfold passC at h
    by_cases c : 1 ≤ st.getD p 0
    · rw [if_pos c] at h
      obtain ⟨np, nd'⟩ := List.nodup_cons.mp nd
      obtain ⟨q, hq, hn⟩ := passC_none ps _ nd' h
      rw [getD_set _ _ _ (fun e => np (by rw [← e]; exact hq))] at hn
      exact ⟨q, List.mem_cons_of_mem _ hq, hn⟩
    · exact ⟨p, List.mem_cons_self .., c⟩
section
variable {on : Nat → Nat → Bool} {L : Nat → Nat} {z n : Nat}
theorem tkC_get {t p : Nat} {st : Sta} (h : p < st.length) : (tkC on t st).getD p 0 = if on p t = true then min (st.getD p 0 + 1) 2 else st.getD p 0 := by
  unfold tkC
  rw [List.getD_eq_getElem?_getD, List.getElem?_map, List.getElem?_range h]
  rfl
theorem tkC_len {t : Nat} {st : Sta} : (tkC on t st).length = st.length := by unfold tkC; rw [List.length_map, List.length_range]
theorem sem_cov (hL : ∀ p x, p < z → x < n → on p x = true → x < L p) (hn : ∀ p, p < z → L p ≤ n) : ∀ (d t : Nat) (r : Sta) (s : List Nat), t + d = n → r.length = z → (∀ p, 0 ≤ r.getD p 0) →
    (semG lefC (takC on) (pasC L z) (fun _ => true) d t (some r) s = true ↔ Cov on L z n t r s) := by
  intro d
  induction d with
  | zero =>
    intro t r s tn rl r0
    obtain rfl : t = n := by omega
    have nil : ∀ {s : List Nat}, (∀ x ∈ s, t ≤ x ∧ x < t) → s = [] := fun {s} h => by
      cases s with
      | nil => rfl
      | cons x xs => have := h x (List.mem_cons_self ..); omega
    have nd : ((List.range z).filter fun p => decide (L p = t)).Nodup := List.nodup_range.filter _
    show (match pasC L z t r with | none => false | some st => true && decide (s = [])) = true ↔ _
    cases e : pasC L z t r with
    | none =>
      obtain ⟨p, hp, hb⟩ := passC_none _ _ nd e
      obtain ⟨h1, h2⟩ := List.mem_filter.mp hp
      refine ⟨fun h => (by cases h), fun ⟨_, h, c⟩ => ?_⟩
      have := nil h
      subst this
      rcases c p (List.mem_range.mp h1) (Nat.le_of_eq (of_decide_eq_true h2).symm) with c | ⟨x, hx, _⟩
      · exact absurd c hb
      · cases hx
    | some st =>
      obtain ⟨h1, _⟩ := passC_some _ _ _ nd e
      dsimp only
      rw [Bool.true_and, decide_eq_true_iff]
      constructor
      · rintro rfl
        refine ⟨.nil, fun x hx => (nomatch hx), fun p hp hl => .inl (h1 p (List.mem_filter.mpr ⟨List.mem_range.mpr hp, decide_eq_true ?_⟩))⟩
        have := hn p hp
        omega
      · exact fun ⟨_, h, _⟩ => nil h
  | succ d ih =>
    intro t r s tn rl r0
    have nd : ((List.range z).filter fun p => decide (L p = t)).Nodup := List.nodup_range.filter _
    show (match pasC L z t r with | none => false | some st => stepS lefC (takC on) t (semG lefC (takC on) (pasC L z) (fun _ => true) d (t + 1)) st s) = true ↔ _
    cases e : pasC L z t r with
    | none =>
      obtain ⟨p, hp, hb⟩ := passC_none _ _ nd e
      obtain ⟨h1, h2⟩ := List.mem_filter.mp hp
      refine ⟨fun h => (by cases h), fun ⟨_, h, c⟩ => ?_⟩
      have e2 : L p = t := of_decide_eq_true h2
      rcases c p (List.mem_range.mp h1) (Nat.le_of_eq e2.symm) with c | ⟨x, hx, ho⟩
      · exact absurd c hb
      · have := hL p x (List.mem_range.mp h1) (h x hx).2 ho
        have := (h x hx).1
        omega
    | some st =>
      obtain ⟨h1, h2, h3, h4⟩ := passC_some _ _ _ nd e
      have sl : st.length = z := by rw [h2, rl]
      have s0 : ∀ p, 0 ≤ st.getD p 0 := fun p => by
        rcases h4 p with e | e
        · rw [e]; exact r0 p
        · rw [e]; exact Int.le_refl _
      dsimp only
      have key : Cov on L z n t r s ↔ (s.Pairwise (· < ·) ∧ (∀ x ∈ s, t ≤ x ∧ x < n) ∧ ∀ p, p < z → t + 1 ≤ L p → 1 ≤ st.getD p 0 ∨ ∃ x ∈ s, on p x = true) := by
        constructor
        · rintro ⟨a, b, c⟩
          refine ⟨a, b, fun p hp hl => ?_⟩
          rw [h3 p (fun hm => by have := of_decide_eq_true (List.mem_filter.mp hm).2; omega)]
          exact c p hp (by omega)
        · rintro ⟨a, b, c⟩
          refine ⟨a, b, fun p hp hl => ?_⟩
          by_cases e2 : L p = t
          · exact .inl (h1 p (List.mem_filter.mpr ⟨List.mem_range.mpr hp, decide_eq_true e2⟩))
          · have := c p hp (by omega)
            rwa [h3 p (fun hm => e2 (of_decide_eq_true (List.mem_filter.mp hm).2))] at this
      rw [key]
      cases s with
      | nil =>
        show semG lefC (takC on) (pasC L z) (fun _ => true) d (t + 1) (some st) [] = true ↔ _
        rw [ih (t + 1) st [] (by omega) sl s0]
        exact ⟨fun ⟨a, b, c⟩ => ⟨a, fun x hx => (nomatch hx), c⟩, fun ⟨a, b, c⟩ => ⟨a, fun x hx => (nomatch hx), c⟩⟩
      | cons x xs =>
        show (if x < t then false else if x = t then semG lefC (takC on) (pasC L z) (fun _ => true) d (t + 1) (some (tkC on t st)) xs else semG lefC (takC on) (pasC L z) (fun _ => true) d (t + 1) (some st) (x :: xs)) = true ↔ _
        by_cases c1 : x < t
        · rw [if_pos c1]
          exact ⟨fun h => (by cases h), fun ⟨_, b, _⟩ => by have := (b x (List.mem_cons_self ..)).1; omega⟩
        · rw [if_neg c1]
          by_cases c2 : x = t
          · subst c2
            rw [if_pos rfl, ih (x + 1) _ xs (by omega) (by rw [tkC_len]; exact sl) (fun p => ?_)]
            · have pt : ∀ p, p < z → (1 ≤ (tkC on x st).getD p 0 ↔ 1 ≤ st.getD p 0 ∨ on p x = true) := fun p hp => by
                rw [tkC_get (by omega)]
                have := s0 p
                by_cases o : on p x = true
                · rw [if_pos o]
                  exact ⟨fun _ => .inr o, fun _ => by omega⟩
                · rw [if_neg o]
                  exact ⟨.inl, fun h => h.resolve_right o⟩
              constructor
              · rintro ⟨a, b, c⟩
                refine ⟨List.pairwise_cons.mpr ⟨fun y hy => (b y hy).1, a⟩, fun y hy => ?_, fun p hp hl => ?_⟩
                · rcases List.mem_cons.mp hy with rfl | hy
                  · omega
                  · have := b y hy; omega
                · rcases c p hp hl with h | ⟨y, hy, ho⟩
                  · rcases (pt p hp).mp h with h | h
                    · exact .inl h
                    · exact .inr ⟨x, List.mem_cons_self .., h⟩
                  · exact .inr ⟨y, List.mem_cons_of_mem _ hy, ho⟩
              · rintro ⟨a, b, c⟩
                obtain ⟨a1, a2⟩ := List.pairwise_cons.mp a
                refine ⟨a2, fun y hy => ⟨a1 y hy, (b y (List.mem_cons_of_mem _ hy)).2⟩, fun p hp hl => ?_⟩
                rcases c p hp hl with h | ⟨y, hy, ho⟩
                · exact .inl ((pt p hp).mpr (.inl h))
                · rcases List.mem_cons.mp hy with rfl | hy
                  · exact .inl ((pt p hp).mpr (.inr ho))
                  · exact .inr ⟨y, hy, ho⟩
            · by_cases l : p < st.length
              · rw [tkC_get l]
                have := s0 p
                split <;> omega
              · rw [List.getD_eq_getElem?_getD, List.getElem?_eq_none (by rw [tkC_len]; omega)]
                exact Int.le_refl _
          · rw [if_neg c2, ih (t + 1) st (x :: xs) (by omega) sl s0]
            constructor
            · rintro ⟨a, b, c⟩
              exact ⟨a, fun y hy => ⟨by have := (b y hy).1; omega, (b y hy).2⟩, c⟩
            · rintro ⟨a, b, c⟩
              obtain ⟨a1, a2⟩ := List.pairwise_cons.mp a
              refine ⟨a, fun y hy => ⟨?_, (b y hy).2⟩, c⟩
              rcases List.mem_cons.mp hy with rfl | hy
              · omega
              · have := a1 y hy; omega
end
def allS : Nat → List (List Nat)
  | 0 => [[]]
  | n + 1 => allS n ++ (allS n).map (· ++ [n])
theorem mem_allS : ∀ {n : Nat} {s : List Nat}, s ∈ allS n ↔ s.Pairwise (· < ·) ∧ ∀ x ∈ s, x < n
  | 0, s => by
    show s ∈ [[]] ↔ _
    rw [List.mem_singleton]
    constructor
    · rintro rfl; exact ⟨.nil, fun x hx => nomatch hx⟩
    · rintro ⟨_, h⟩
      cases s with
      | nil => rfl
      | cons x xs => have := h x (List.mem_cons_self ..); omega
  | n + 1, s => by
    show s ∈ allS n ++ (allS n).map (· ++ [n]) ↔ _
    rw [List.mem_append, List.mem_map, mem_allS]
    constructor
    · rintro (⟨a, b⟩ | ⟨u, hu, rfl⟩)
      · exact ⟨a, fun x hx => by have := b x hx; omega⟩
      · obtain ⟨a, b⟩ := mem_allS.mp hu
        refine ⟨List.pairwise_append.mpr ⟨a, .cons (fun y hy => (nomatch hy)) .nil, fun x hx y hy => by rw [List.mem_singleton.mp hy]; exact b x hx⟩, fun x hx => ?_⟩
        rcases List.mem_append.mp hx with h | h
        · have := b x h; omega
        · rw [List.mem_singleton.mp h]; omega
    · rintro ⟨a, b⟩
      rcases List.eq_nil_or_concat s with rfl | ⟨u, y, rfl⟩
      · exact .inl ⟨.nil, fun x hx => nomatch hx⟩
      · rw [List.concat_eq_append] at a b ⊢
        obtain ⟨a1, _, a3⟩ := List.pairwise_append.mp a
        have yl := b y (by simp)
        by_cases c : y = n
        · subst c
          exact .inr ⟨u, mem_allS.mpr ⟨a1, fun x hx => a3 x hx y (by simp)⟩, rfl⟩
        · refine .inl ⟨a, fun x hx => ?_⟩
          rcases List.mem_append.mp hx with h | h
          · have := a3 x h y (by simp); omega
          · rw [List.mem_singleton.mp h]; omega
theorem nodup_allS : ∀ n, (allS n).Nodup
  | 0 => by show [[]].Nodup; simp
  | n + 1 => by
    show (allS n ++ (allS n).map (· ++ [n])).Nodup
    rw [List.nodup_append]
    refine ⟨nodup_allS n, ?_, fun s hs u hu e => ?_⟩
    · unfold List.Nodup
      rw [List.pairwise_map]
      exact (nodup_allS n).imp fun {a b} h e => h (List.append_cancel_right e)
    · obtain ⟨v, _, rfl⟩ := List.mem_map.mp hu
      have := (mem_allS.mp hs).2 n (by rw [e]; simp)
      omega
section
variable (on : Nat → Nat → Bool)
def touch (p : Nat) (s : List Nat) : Bool := s.any (on p)
def cntN (n : Nat) (ps gs : List Nat) : Nat := ((allS n).filter fun s => gs.all (fun g => !touch on g s) && ps.all (fun p => touch on p s)).length
theorem split2 {α : Type} (a b : α → Bool) : ∀ l : List α, (l.filter a).length = (l.filter fun x => a x && b x).length + (l.filter fun x => a x && !b x).length
  | [] => rfl
  | x :: l => by
    have ih := split2 a b l
    cases h1 : a x <;> cases h2 : b x <;> simp [List.filter_cons, h1, h2] <;> omega
theorem cnt_split (n : Nat) (ps gs : List Nat) (p : Nat) : cntN on n ps gs = cntN on n (p :: ps) gs + cntN on n ps (gs ++ [p]) := by
  unfold cntN
  rw [split2 _ (fun s => touch on p s)]
  congr 1
  · congr 1
    refine List.filter_congr fun s _ => ?_
    rw [List.all_cons]
    cases touch on p s <;> cases (gs.all fun g => !touch on g s) <;> cases (ps.all fun p => touch on p s) <;> rfl
  · congr 1
    refine List.filter_congr fun s _ => ?_
    rw [List.all_append, List.all_cons, List.all_nil, Bool.and_true]
    cases touch on p s <;> cases (gs.all fun g => !touch on g s) <;> cases (ps.all fun p => touch on p s) <;> rfl
def freeN (n : Nat) (gs : List Nat) : Nat := ((List.range n).filter fun x => gs.all fun g => !on g x).length
theorem cnt_free : ∀ (n : Nat) (gs : List Nat), cntN on n [] gs = 2 ^ freeN on n gs
  | 0, gs => by
    show (([[]] : List (List Nat)).filter _).length = 2 ^ 0
    have h : (gs.all fun g => !touch on g []) = true := List.all_eq_true.mpr fun g _ => rfl
    simp [h, List.filter_cons]
  | n + 1, gs => by
    have ih := cnt_free n gs
    unfold cntN at ih ⊢
    show ((allS n ++ (allS n).map (· ++ [n])).filter _).length = _
    rw [List.filter_append, List.length_append, ih, List.filter_map, List.length_map]
    unfold freeN
    rw [List.range_succ, List.filter_append, List.length_append]
    by_cases c : (gs.all fun g => !on g n) = true
    · have e : ((allS n).filter ((fun s => (gs.all fun g => !touch on g s) && ([] : List Nat).all fun p => touch on p s) ∘ fun x => x ++ [n])) = (allS n).filter fun s => (gs.all fun g => !touch on g s) && ([] : List Nat).all fun p => touch on p s := by
        refine List.filter_congr fun s _ => ?_
        show ((gs.all fun g => !touch on g (s ++ [n])) && _) = _
        congr 1
        rw [Bool.eq_iff_iff, List.all_eq_true, List.all_eq_true]
        have h : ∀ g ∈ gs, on g n = false := fun g hg => by have := List.all_eq_true.mp c g hg; simpa using this
        constructor
        · intro k g hg
          have := k g hg
          unfold touch at this ⊢
          rw [List.any_append] at this
          simp at this ⊢
          exact this.1
        · intro k g hg
          have := k g hg
          unfold touch at this ⊢
          rw [List.any_append]
          simp at this ⊢
          exact ⟨this, h g hg⟩
      rw [e, ih]
      unfold freeN
      rw [List.filter_cons_of_pos (by exact c)]
      show _ = 2 ^ (_ + 1)
      rw [Nat.pow_succ]
      omega
    · have e : ((allS n).filter ((fun s => (gs.all fun g => !touch on g s) && ([] : List Nat).all fun p => touch on p s) ∘ fun x => x ++ [n])) = [] := by
        refine List.filter_eq_nil_iff.mpr fun s _ h => c ?_
        have h' : ((gs.all fun g => !touch on g (s ++ [n])) && true) = true := h
        rw [Bool.and_true, List.all_eq_true] at h'
        refine List.all_eq_true.mpr fun g hg => ?_
        have := h' g hg
        unfold touch at this
        rw [List.any_append] at this
        simp at this ⊢
        exact this.2
      rw [e, List.filter_cons_of_neg (by exact c)]
      rfl
def grp : Nat → List (List Nat)
  | 0 => [[]]
  | k + 1 => grp k ++ (grp k).map (· ++ [k])
def sgn (g : List Nat) : Int := if g.length % 2 = 0 then 1 else -1
theorem sgn_snoc (g : List Nat) (k : Nat) : sgn (g ++ [k]) = - sgn g := by
  unfold sgn
  rw [List.length_append, List.length_singleton]
  by_cases c : g.length % 2 = 0
  · rw [if_pos c, if_neg (by omega)]
  · rw [if_neg c, if_pos (by omega)]; rfl
theorem sum_sub {α : Type} (f g : α → Int) : ∀ l : List α, (l.map fun x => f x - g x).sum = (l.map f).sum - (l.map g).sum
  | [] => rfl
  | x :: l => by
    have ih := sum_sub f g l
    simp only [List.map_cons, List.sum_cons]
    omega
theorem incl (n : Nat) : ∀ (k : Nat) (ps : List Nat), ((grp k).map fun g => (cntN on n ps g : Int) * sgn g).sum = cntN on n (List.range k ++ ps) []
  | 0, ps => by
    show ([[]].map fun g => (cntN on n ps g : Int) * sgn g).sum = _
    simp [sgn]
  | k + 1, ps => by
    show ((grp k ++ (grp k).map (· ++ [k])).map fun g => (cntN on n ps g : Int) * sgn g).sum = _
    rw [List.map_append, List.sum_append, List.map_map]
    have e : ((grp k).map ((fun g => (cntN on n ps g : Int) * sgn g) ∘ fun x => x ++ [k])).sum = - ((grp k).map fun g => (cntN on n ps (g ++ [k]) : Int) * sgn g).sum := by
      have : ∀ l : List (List Nat), (l.map ((fun g => (cntN on n ps g : Int) * sgn g) ∘ fun x => x ++ [k])).sum = - (l.map fun g => (cntN on n ps (g ++ [k]) : Int) * sgn g).sum := fun l => by
        induction l with
        | nil => rfl
        | cons x l ih =>
          simp only [List.map_cons, List.sum_cons, Function.comp_apply, sgn_snoc, Int.mul_neg] at ih ⊢
          omega
      exact this _
    rw [e, ← Int.sub_eq_add_neg, ← sum_sub, show List.range (k + 1) ++ ps = List.range k ++ (k :: ps) by rw [List.range_succ]; simp, ← incl n k (k :: ps)]
    congr 1
    refine List.map_congr_left fun g _ => ?_
    have := cnt_split on n ps g k
    rw [this, Int.natCast_add, ← Int.sub_mul]
    congr 1
    omega
end
theorem sub_len : ∀ (l m : List (List Nat)), l.Nodup → (∀ s ∈ l, s ∈ m) → l.length ≤ m.length
  | [], _, _, _ => Nat.zero_le _
  | a :: l, m, nd, h => by
    have am : a ∈ m := h a (List.mem_cons_self ..)
    obtain ⟨na, nl⟩ := List.nodup_cons.mp nd
    have z := sub_len l (m.erase a) nl fun s hs => (List.mem_erase_of_ne (fun (e : s = a) => na (by rw [← e]; exact hs))).mpr (h s (List.mem_cons_of_mem _ hs))
    rw [List.length_erase_of_mem am] at z
    have := List.length_pos_of_mem am
    rw [List.length_cons]
    omega
theorem count_is {on : Nat → Nat → Bool} {L : Nat → Nat} {z n hd : Nat} {rows : List Row} (o : Ok n rows) (kn : Knot rows hd) (r : Sta) (r0 : ∀ p, ¬ 1 ≤ r.getD p 0) (h : ∀ s, led rows hd s = true ↔ Cov on L z n 0 r s) : (setsOf rows hd).length = cntN on n (List.range z) [] := by
  have I := in_order _ _ rfl o _ kn
  have nd : (setsOf rows hd).Nodup := I.ord.imp fun {a b} h e => by rw [e] at h; exact Nat.lt_irrefl _ h
  have mem : ∀ s, s ∈ setsOf rows hd ↔ s ∈ (allS n).filter fun s => ([] : List Nat).all (fun g => !touch on g s) && (List.range z).all (fun p => touch on p s) := fun s => by
    rw [I.mem, h, List.mem_filter, mem_allS]
    show _ ↔ _ ∧ (true && (List.range z).all fun p => touch on p s) = true
    rw [Bool.true_and, List.all_eq_true]
    constructor
    · rintro ⟨a, b, c⟩
      refine ⟨⟨a, fun x hx => (b x hx).2⟩, fun p hp => ?_⟩
      rcases c p (List.mem_range.mp hp) (Nat.zero_le _) with d | ⟨x, hx, ho⟩
      · exact absurd d (r0 p)
      · exact List.any_eq_true.mpr ⟨x, hx, ho⟩
    · rintro ⟨⟨a, b⟩, c⟩
      refine ⟨a, fun x hx => ⟨Nat.zero_le _, b x hx⟩, fun p hp _ => .inr ?_⟩
      obtain ⟨x, hx, ho⟩ := List.any_eq_true.mp (c p (List.mem_range.mpr hp))
      exact ⟨x, hx, ho⟩
  unfold cntN
  have a := sub_len _ _ nd fun s hs => (mem s).mp hs
  have b := sub_len _ _ ((nodup_allS n).filter _) fun s hs => (mem s).mpr hs
  omega
end G
end
section
namespace K55
open PySem L2 G
def onB (bs : List (List Int)) (p x : Nat) : Bool := decide ((p : Int) ∈ bs.getD x [])
def StAt (H : Hp) (b : Addr) (st : Sta) : Prop := H b = some (.tup (st.map V.int))
def spBegun (K : PySem.W.Frag) (C D : Addr) : Sp := fun vs H Q _ => ∃ (r p : Addr) (z : Nat) (bs : List (List Int)), vs = [.ref r, .ref p] ∧ WebAt K C H p z bs ∧ 1 ≤ z ∧ z ≤ 10 ∧ ∀ (b : Addr) (H' : Hp), Same H H' → StAt H' b (List.replicate z 0) → Q (.ref b) H'
def spLeft : Sp := fun vs H Q _ => ∃ (r p b x : V), vs = [r, p, b, x] ∧ Q b H
def spFul : Sp := fun vs H Q _ => ∃ (r p b : V), vs = [r, p, b] ∧ Q (.bl true) H
def spPassed (D : Addr) : Sp := fun vs H Q _ => ∃ (r p : V) (b dx : Addr) (a : Addr) (q : Nat) (st : Sta), vs = [.ref a, p, .ref b, .int q] ∧ H a = some (.ins D dx []) ∧ StAt H b st ∧ q < st.length ∧ st.length ≤ 10 ∧
  (1 ≤ st.getD q 0 → ∀ (b' : Addr) (H' : Hp), Same H H' → StAt H' b' (st.set q 0) → Q (.ref b') H') ∧ (¬ 1 ≤ st.getD q 0 → ∀ H', Same H H' → Q .non H')
def spTaken (K : PySem.W.Frag) (C D : Addr) : Sp := fun vs H Q _ => ∃ (a p b dx : Addr) (t z : Nat) (bs : List (List Int)) (st : Sta), vs = [.ref a, .ref p, .ref b, .int t] ∧ H a = some (.ins D dx []) ∧ WebAt K C H p z bs ∧ StAt H b st ∧ t < bs.length ∧ st.length ≤ 10 ∧
  ∀ (b' : Addr) (H' : Hp), Same H H' → StAt H' b' (tkC (onB bs) t st) → Q (.ref b') H'
section
variable {P : Program} {w : World} {K : PySem.W.Frag} {mg : Str → Option Value} {base : Heap} {f C D : Addr} {fd : FuncData}
theorem scBegun : FnScope ["self", "web"] ["self", "web"] (defScope sBegun) := ⟨rfl, rfl, rfl, by decide +kernel, rfl, by decide +kernel, by decide +kernel⟩
theorem ok_begun {fS : Addr} {fdS : FuncData} (F : Fun K "begun" "TiedPoints.begun" sBegun f fd) (T : Txt K mg C) (GS : FnOk P w K mg base CX0 1 fS fdS ["self"] (spSize K C)) (bS : Binds K fdS ["self"] []) (mS : Meth K C "size" fS) :
    FnOk P w K mg base CX0 2 f fd ["self", "web"] (spBegun K C D) := by
  refine F.ok scBegun (fun vs H Q E h => ?_) (fun cdv A outer s H vs Q E hr h => ?_)
  · obtain ⟨r, p, z, bs, rfl, _⟩ := h
    rfl
  obtain ⟨r, p, z, bs, rfl, hW, z1, z10, q⟩ := h
  obtain ⟨dx, j, hp, _⟩ := id hW
  refine ⟨_, pss_one (ps_ret (pe_op op_repT (pe_tup (pa_cons pe_int pa_nil)) (pe_meth0 (pv 1) T.cl mS GS hr bS .nil pass0))), ?_⟩
  refine ⟨(by show 1 ≤ sizeLine; decide), fun t ht => ?_⟩
  have s1 := Same.new ht (.tup [.int 0])
  refine ⟨_, rfl, p, dx, _, rfl, s1 _ _ hp, flds_no _ _ (by decide +kernel) (by decide +kernel), p, z, bs, rfl, hW.same s1, t, z, [.int 0], rfl, rfl, upd_same, by omega, by omega, by simp, by decide, fun e => ?_, fun e b hb => ?_⟩
  · have : z = 1 := by omega
    subst this
    exact q t _ s1 upd_same
  · have eq : (List.replicate (z : Int).toNat [V.int 0]).flatten = (List.replicate z (0 : Int)).map V.int := by
      rw [Int.toNat_natCast, List.map_replicate]
      generalize z = m
      induction m with
      | zero => rfl
      | succ m ih => rw [List.replicate_succ, List.replicate_succ, List.flatten_cons, ih]; rfl
    rw [eq]
    exact q b _ (s1.trans (Same.new hb _)) upd_same
theorem scLeft : FnScope ["self", "web", "state", "number"] ["self", "web", "state", "number"] (defScope sLeft) := ⟨rfl, rfl, rfl, by decide +kernel, rfl, by decide +kernel, by decide +kernel⟩
theorem ok_left (F : Fun K "left" "Rule.left" sLeft f fd) : FnOk P w K mg base CX0 1 f fd ["self", "web", "state", "number"] spLeft := by
  refine F.ok scLeft (fun vs H Q E h => ?_) (fun cdv A outer s H vs Q E hr h => ?_)
  · obtain ⟨r, p, b, x, rfl, _⟩ := h
    rfl
  obtain ⟨r, p, b, x, rfl, q⟩ := h
  exact ⟨_, pss_one (ps_ret (pv 2)), ⟨_, rfl, q⟩⟩
theorem scFul : FnScope ["self", "web", "state"] ["self", "web", "state"] (defScope sFul) := ⟨rfl, rfl, rfl, by decide +kernel, rfl, by decide +kernel, by decide +kernel⟩
theorem ok_ful (F : Fun K "fulfilled" "TiedPoints.fulfilled" sFul f fd) : FnOk P w K mg base CX0 1 f fd ["self", "web", "state"] spFul := by
  refine F.ok scFul (fun vs H Q E h => ?_) (fun cdv A outer s H vs Q E hr h => ?_)
  · obtain ⟨r, p, b, rfl, _⟩ := h
    rfl
  obtain ⟨r, p, b, rfl, q⟩ := h
  exact ⟨_, pss_one (ps_ret pe_bl), q⟩
theorem scPassed : FnScope ["self", "web", "state", "point"] ["self", "web", "state", "point"] (defScope sPassed) := ⟨rfl, rfl, rfl, by decide +kernel, rfl, by decide +kernel, by decide +kernel⟩
theorem ok_passed {fA : Addr} {fdA : FuncData} (F : Fun K "passed" "TiedPoints.passed" sPassed f fd) (T : Txt K mg C) (U : Rul K mg D) (GA : FnOk P w K mg base CX0 1 fA fdA ["self", "count"] (spAllows D)) (bA : Binds K fdA ["self", "count"] []) (mA : Meth K D "allows" fA) :
    FnOk P w K mg base CX0 2 f fd ["self", "web", "state", "point"] (spPassed D) := by
  refine F.ok scPassed (fun vs H Q E h => ?_) (fun cdv A outer s H vs Q E hr h => ?_)
  · obtain ⟨r, p, b, dx, a, q, st, rfl, _⟩ := h
    rfl
  obtain ⟨r, p, b, dx, a, q, st, rfl, ha, hb, ql, s10, q1, q2⟩ := h
  refine ⟨_, pss_cons (ps_if (pt_val (pe_meth (pv 0) U.cl mA GA hr bA .nil pass0 (pa_cons (pe_ix ix_tup (pv 2) (pv 3) (fun _ _ => rfl)) pa_nil)))
      (pss_one (ps_ret (pe_callTy call_tuple_of rfl T.tuple PyProof.Rows.boot_tuple (pa_cons (pe_comp (defScope sPassed) ["other", "count"] ["point"] [3] rfl rfl (by decide +kernel) ⟨⟨rfl, by decide +kernel⟩, trivial⟩ (pi_enumT rfl T.enum (pa_cons (pv 2) pa_nil))
        (fun _ _ _ => pg_tupK (K := K) (n := 2) rfl rfl (pgs_cons (pg_name (i := 0) (show ((["other", "count"] : List Str) ++ (["point"] : List Str)).Nodup by decide +kernel) rfl (Or.inl rfl)) (pgs_cons (pg_name (i := 1) (show ((["other", "count"] : List Str) ++ (["point"] : List Str)).Nodup by decide +kernel) rfl (Or.inl rfl)) pgs_nil)))
        (fun _ _ _ => pifs_nil)
        (fun _ _ _ => pe_ifExp (pt_cmpR op_eq (pv 0) (pv 2) (nomark _)) pe_int (pv 1))) pa_nil)))) pss_nil)
    (pss_one (ps_ret pe_non)), ?_⟩
  have hc : atI (st.map V.int) (q : Int) = some (.int (st.getD q 0)) := atI_nat (by rw [List.getElem?_map, List.getD_eq_getElem?_getD, List.getElem?_eq_getElem ql]; rfl)
  refine ⟨_, rfl, a, dx, _, rfl, ha, rfl, _, rfl, _, rfl, b, _, _, _, rfl, rfl, SqT.of hb, hc, a, _, rfl, _, rfl, ?_⟩
  refine ite2 (fun c => ?_) (fun c => ?_)
  · have c' : 1 ≤ st.getD q 0 := of_decide_eq_true c
    refine ⟨_, rfl, b, rfl, ⟨_, SqT.of hb⟩, fun Z hZ => ?_⟩
    refine turns_enum (xs := st.map V.int) (fun i τ H2 => ∃ n t : Option V, τ = [n, t, some (.int q)] ∧ Same H H2 ∧ H2 Z = some (.lst (((st.set q 0).take i).map V.int))) ⟨none, none, rfl, Same.new hZ _, upd_same⟩ (fun i τ H2 _ ⟨_, _, _, sm, _⟩ => sm.ts.seq (SqT.of hb)) ?_ ?_
    · rintro i y τ H2 T1 hy hT1 ⟨n, t, rfl, sm, eZ⟩
      obtain ⟨v, hv, rfl⟩ : ∃ v, st[i]? = some v ∧ y = .int v := by
        rw [List.getElem?_map] at hy
        cases g : st[i]? with
        | none => rw [g] at hy; cases hy
        | some v => rw [g] at hy; cases hy; exact ⟨v, rfl, rfl⟩
      have il := (List.getElem?_eq_some_iff.mp hv).1
      have s1 : Same H2 (upd H2 T1 (.tup [.int i, .int v])) := Same.new hT1 _
      refine ⟨T1, _, rfl, SqT.of upd_same, rfl, _, _, rfl, _, _, rfl, rfl, yesD ?_⟩
      have fin : ∀ u : Int, (st.set q 0)[i]? = some u → ∃ n t : Option V, [some (.int (i : Int)), some (.int v), some (.int (q : Int))] = [n, t, some (V.int q)] ∧ Same H (upd (upd H2 T1 (.tup [.int i, .int v])) Z (.lst (((st.set q 0).take i).map V.int ++ [.int u]))) ∧ (upd (upd H2 T1 (.tup [.int i, .int v])) Z (.lst (((st.set q 0).take i).map V.int ++ [.int u]))) Z = some (.lst (((st.set q 0).take (i + 1)).map V.int)) := fun u hu => by
        refine ⟨_, _, rfl, fun b o e => ?_, ?_⟩
        · rw [upd_ne (ne_of_none e hZ)]
          exact s1 _ _ (sm b o e)
        · rw [upd_same, List.take_add_one, hu, List.map_append]
          rfl
      have sl : (((st.set q 0).take i).map V.int).length < sizeLine := small1000 (by rw [List.length_map, List.length_take]; omega)
      refine ⟨_, rfl, _, rfl, rfl, _, rfl, ?_⟩
      refine ite2 (fun e => ?_) (fun e => ?_)
      · have e' : i = q := by have := of_decide_eq_true e; injection this with this; omega
        subst e'
        exact ⟨_, s1 _ _ eZ, sl, fin 0 (List.getElem?_set_self il)⟩
      · have e' : i ≠ q := fun z => e (decide_eq_true (by rw [z]))
        exact ⟨_, rfl, _, s1 _ _ eZ, sl, fin v (by rw [List.getElem?_set_ne (Ne.symm e')]; exact hv)⟩
    · rintro τ H2 ⟨n, t, rfl, sm, eZ⟩
      rw [List.length_map, show st.length = (st.set q 0).length by rw [List.length_set], List.take_length] at eZ
      refine ⟨Z, _, rfl, .inl ⟨SqL.of eZ, fun t ht => ?_⟩⟩
      exact q1 c' t _ (sm.trans (Same.new ht _)) upd_same
  · exact q2 (fun z => c (decide_eq_true z)) _ (Same.refl _)
end
end K55
end
section
namespace K55
open PySem L2 G
section
variable {P : Program} {w : World} {K : PySem.W.Frag} {mg : Str → Option Value} {base : Heap} {f C D : Addr} {fd : FuncData}
theorem scTaken : FnScope ["self", "web", "state", "number", "tie", "counts"] ["self", "web", "state", "number"] (defScope sTaken) := ⟨rfl, rfl, rfl, by decide +kernel, rfl, by decide +kernel, by decide +kernel⟩
theorem ok_taken {fA fT : Addr} {fdA fdT : FuncData} (F : Fun K "taken" "TiedPoints.taken" sTaken f fd) (T : Txt K mg C) (U : Rul K mg D) (GA : FnOk P w K mg base CX0 1 fA fdA ["self", "count"] (spAllows D)) (bA : Binds K fdA ["self", "count"] []) (mA : Meth K D "allows" fA)
    (GT : FnOk P w K mg base CX0 1 fT fdT ["self"] (spTies K C)) (bT : Binds K fdT ["self"] []) (mT : Meth K C "ties" fT) :
    FnOk P w K mg base CX0 2 f fd ["self", "web", "state", "number"] (spTaken K C D) := by
  refine F.ok scTaken (fun vs H Q E h => ?_) (fun cdv A outer s H vs Q E hr h => ?_)
  · obtain ⟨a, p, b, dx, t, z, bs, st, rfl, _⟩ := h
    rfl
  obtain ⟨a, p, b, dx, t, z, bs, st, rfl, ha, hW, hb, tl, s10, q⟩ := h
  obtain ⟨t2, e2⟩ := U.sev
  refine ⟨_, pss_cons (ps_set (i := 4) scTaken.nd rfl (Or.inr rfl) (pe_ix ix_list (pe_meth0 (pv 1) T.cl mT GT hr bT .nil pass0) (pv 3) (fun _ _ => rfl)))
    (pss_cons (ps_comp (i := 5) (defScope sTaken) ["point", "count"] ["tie"] [4] scTaken.nd rfl (Or.inl rfl) rfl rfl (by decide +kernel) ⟨⟨rfl, by decide +kernel⟩, trivial⟩ (pi_enumT rfl T.enum (pa_cons (pv 2) pa_nil))
        (fun _ _ _ => pg_tupK (K := K) (n := 2) rfl rfl (pgs_cons (pg_name (i := 0) (show ((["point", "count"] : List Str) ++ (["tie"] : List Str)).Nodup by decide +kernel) rfl (Or.inl rfl)) (pgs_cons (pg_name (i := 1) (show ((["point", "count"] : List Str) ++ (["tie"] : List Str)).Nodup by decide +kernel) rfl (Or.inl rfl)) pgs_nil)))
        (fun _ _ _ => pifs_nil)
        (fun _ _ _ => pe_ifExp (pt_cmpR (op_in_seqK (K := K) rfl) (pv 0) (pv 2) rfl) (pe_callB (call_min2 rfl) rfl T.min PyProof.Rows.boot_min (pa_cons (pe_op op_add (pv 1) pe_int) (pa_cons (pe_glob (v := .int 2) rfl e2 ⟨t2, rfl⟩) pa_nil))) (pv 1)))
    (pss_cons (ps_if (PW.pt (pw_and (pt_cmpR op_in_seq (pe_glob (v := .int 2) rfl e2 ⟨t2, rfl⟩) (pv 5) rfl) (pw_and1 (pt_not (pt_val (pe_meth (pv 0) U.cl mA GA hr bA .nil pass0 (pa_cons (pe_glob (v := .int 2) rfl e2 ⟨t2, rfl⟩) pa_nil)))))))
      (pss_one (ps_ret pe_non)) pss_nil)
    (pss_one (ps_ret (pe_callTy call_tuple_of rfl T.tuple PyProof.Rows.boot_tuple (pa_cons (pv 5) pa_nil)))))), ?_⟩
  obtain ⟨dw, jw, hp, _⟩ := id hW
  refine ⟨_, rfl, p, dw, _, rfl, hp, flds_no _ _ (by decide +kernel) (by decide +kernel), p, z, bs, rfl, hW, fun l H1 s1 hl hL => ?_⟩
  obtain ⟨l', xs, el, hX, px⟩ := hL
  cases el
  have lx := Paired.length px
  have xl : t < xs.length := by omega
  obtain ⟨tie, ht, rt⟩ := Paired.get px (List.getElem?_eq_getElem xl)
  obtain ⟨tq, et, htq⟩ := rPair_seq rt
  have hat : atI xs (t : Int) = some (.ref tq) := by
    rw [← et]
    exact atI_nat (List.getElem?_eq_getElem xl)
  refine ⟨_, rfl, l, xs, _, _, rfl, rfl, hX, hat, ?_⟩
  have ont : ∀ i : Nat, onB bs i t = decide ((i : Int) ∈ tie) := fun i => by
    unfold onB
    rw [List.getD_eq_getElem?_getD, ht]
    rfl
  have hb1 : StAt H1 b st := s1 _ _ hb
  refine ⟨_, rfl, b, rfl, ⟨_, SqT.of hb1⟩, fun Z hZ => ?_⟩
  have kl : (tkC (onB bs) t st).length = st.length := tkC_len
  refine turns_enum (xs := st.map V.int) (fun i τ H2 => ∃ n c : Option V, τ = [n, c, some (.ref tq)] ∧ Same H1 H2 ∧ H2 Z = some (.lst (((tkC (onB bs) t st).take i).map V.int))) ⟨none, none, rfl, Same.new hZ _, upd_same⟩ (fun i τ H2 _ ⟨_, _, _, sm, _⟩ => sm.ts.seq (SqT.of hb1)) ?_ ?_
  · rintro i y τ H2 T1 hy hT1 ⟨n, c, rfl, sm, eZ⟩
    obtain ⟨v, hv, rfl⟩ : ∃ v, st[i]? = some v ∧ y = .int v := by
      rw [List.getElem?_map] at hy
      cases g : st[i]? with
      | none => rw [g] at hy; cases hy
      | some v => rw [g] at hy; cases hy; exact ⟨v, rfl, rfl⟩
    have il := (List.getElem?_eq_some_iff.mp hv).1
    have gi : st.getD i 0 = v := by rw [List.getD_eq_getElem?_getD, hv]; rfl
    have s2 : Same H2 (upd H2 T1 (.tup [.int i, .int v])) := Same.new hT1 _
    refine ⟨T1, _, rfl, SqT.of upd_same, rfl, _, _, rfl, _, _, rfl, rfl, yesD ?_⟩
    have fin : ∀ u : Int, (tkC (onB bs) t st).getD i 0 = u → ∃ n c : Option V, [some (.int (i : Int)), some (.int v), some (.ref tq)] = [n, c, some (V.ref tq)] ∧ Same H1 (upd (upd H2 T1 (.tup [.int i, .int v])) Z (.lst (((tkC (onB bs) t st).take i).map V.int ++ [.int u]))) ∧ (upd (upd H2 T1 (.tup [.int i, .int v])) Z (.lst (((tkC (onB bs) t st).take i).map V.int ++ [.int u]))) Z = some (.lst (((tkC (onB bs) t st).take (i + 1)).map V.int)) := fun u hu => by
      refine ⟨_, _, rfl, fun b o e => ?_, ?_⟩
      · rw [upd_ne (ne_of_none e hZ)]
        exact s2 _ _ (sm b o e)
      · have hk : i < (tkC (onB bs) t st).length := by omega
        rw [List.getD_eq_getElem?_getD, List.getElem?_eq_getElem hk] at hu
        rw [upd_same, List.take_add_one, List.getElem?_eq_getElem hk, List.map_append, ← hu]
        rfl
    have sl : (((tkC (onB bs) t st).take i).map V.int).length < sizeLine := small1000 (by rw [List.length_map, List.length_take]; omega)
    have tk := tkC_get (on := onB bs) (t := t) (p := i) il
    rw [ont, gi] at tk
    refine ⟨_, rfl, _, rfl, tq, _, rfl, .inr (s2.ts.seq (sm.ts.seq htq)), rfl, by simp [flatV], _, rfl, ?_⟩
    rw [if_neg (by decide), inV_ints]
    refine ite2 (fun e => ?_) (fun e => ?_)
    · rw [if_pos e] at tk
      refine ⟨_, rfl, _, _, rfl, rfl, _, _, rfl, _, s2 _ _ eZ, sl, ?_⟩
      refine fin _ (tk.trans ?_)
      show min (v + 1) 2 = if (2 : Int) < v + 1 then 2 else v + 1
      by_cases d : (2 : Int) < v + 1
      · rw [if_pos d]; omega
      · rw [if_neg d]; omega
    · rw [if_neg e] at tk
      exact ⟨_, rfl, _, s2 _ _ eZ, sl, fin v tk⟩
  · rintro τ H2 ⟨n, c, rfl, sm, eZ⟩
    rw [List.length_map, ← kl, List.take_length] at eZ
    have s12 := s1.trans sm
    have done : ∀ c : Prop, (c → ∀ (b' : Addr) (H' : Hp), Same H H' → StAt H' b' (tkC (onB bs) t st) → Q (.ref b') H') → True := fun _ _ => trivial
    have ret : ∃ v, [some (V.ref a), some (V.ref p), some (V.ref b), some (V.int t), some (V.ref tq), some (V.ref Z)][5]? = some (some v) ∧ ∃ pp ys, [v] = [V.ref pp] ∧ ((SqL K H2 pp ys ∧ ∀ l, H2 l = none → Q (.ref l) (upd H2 l (.tup ys))) ∨ (SqT K H2 pp ys ∧ Q (.ref pp) H2)) :=
      ⟨_, rfl, Z, _, rfl, .inl ⟨SqL.of eZ, fun l hl => q l _ (s12.trans (Same.new hl _)) upd_same⟩⟩
    refine ⟨_, rfl, Z, _, rfl, .inl (SqL.of eZ), rfl, by simp [flatV], _, rfl, ?_⟩
    rw [if_neg (by decide), inV_ints]
    refine ite2 (fun _ => ?_) (fun _ => ?_)
    · refine ⟨_, rfl, a, dx, _, rfl, s12 _ _ ha, rfl, a, _, rfl, _, rfl, ?_⟩
      exact iteF ret
    · exact iteF ret
end
end K55
end
section
namespace K55
open PySem L2 G
theorem max_listK {X : Cx} {K : PySem.W.Frag} (hK : X.K = K) (hc : X.calm = true) : CallR X (.builtin "max") (fun xs H Q => ∃ (p : Addr) (ns : List Int), xs = [.ref p] ∧ SqL K H p (ns.map V.int) ∧ 0 < ns.length ∧ ∀ m, m ∈ ns → (∀ a ∈ ns, a ≤ m) → Q (.int m) H) := by subst hK; exact max_list hc
theorem op_addLK {X : Cx} {K : PySem.W.Frag} (hK : X.K = K) : OpR X (binaryOp .Add) (rAddL K) := by subst hK; exact op_addL
def Lp (bs : List (List Int)) (p : Nat) : Nat := match (hits (p : Int) bs).getLast? with
  | none => 0
  | some x => (x + 1).toNat
theorem hit_nat {bs : List (List Int)} {p : Nat} {x : Int} (h : x ∈ hits (p : Int) bs) : 0 ≤ x ∧ x < bs.length := by
  obtain ⟨i, t, e, _, rfl⟩ := L2.mem_hits.mp h
  have := (List.getElem?_eq_some_iff.mp e).1
  omega
theorem lp_max {bs : List (List Int)} {p : Nat} {m : Int} (h1 : m ∈ (-1 : Int) :: hits (p : Int) bs) (h2 : ∀ a ∈ (-1 : Int) :: hits (p : Int) bs, a ≤ m) : m = (Lp bs p : Int) - 1 := by
  unfold Lp
  cases e : (hits (p : Int) bs).getLast? with
  | none =>
    have e' := List.getLast?_eq_none_iff.mp e
    rw [e'] at h1
    have : m = -1 := by simpa using h1
    rw [this]
    rfl
  | some x =>
    obtain ⟨ne, ex⟩ := List.getLast?_eq_some_iff.mp e |> fun ⟨ys, h⟩ => (⟨by rw [h]; simp, by simp [h]⟩ : ∃ ne : hits (p : Int) bs ≠ [], (hits (p : Int) bs).getLast ne = x)
    have xm : x ∈ hits (p : Int) bs := by rw [← ex]; exact List.getLast_mem ne
    have x0 := (hit_nat xm).1
    have := h2 x (List.mem_cons_of_mem _ xm)
    have mx : m = x := by
      rcases List.mem_cons.mp h1 with rfl | h1
      · omega
      · have := last_ge ne (hits_rise _ 0 bs) m h1
        omega
    dsimp only
    omega
theorem lp_on {bs : List (List Int)} {p x : Nat} (xl : x < bs.length) (h : onB bs p x = true) : x < Lp bs p := by
  have hm : (p : Int) ∈ bs.getD x [] := of_decide_eq_true h
  rw [List.getD_eq_getElem?_getD, List.getElem?_eq_getElem xl] at hm
  have xm : (x : Int) ∈ hits (p : Int) bs := L2.mem_hits.mpr ⟨x, _, List.getElem?_eq_getElem xl, hm, by omega⟩
  unfold Lp
  cases e : (hits (p : Int) bs).getLast? with
  | none => rw [List.getLast?_eq_none_iff.mp e] at xm; cases xm
  | some y =>
    obtain ⟨ne, ey⟩ := List.getLast?_eq_some_iff.mp e |> fun ⟨ys, h⟩ => (⟨by rw [h]; simp, by simp [h]⟩ : ∃ ne : hits (p : Int) bs ≠ [], (hits (p : Int) bs).getLast ne = y)
    have := last_ge ne (hits_rise _ 0 bs) x xm
    dsimp only
    omega
theorem lp_le {bs : List (List Int)} {p : Nat} : Lp bs p ≤ bs.length := by
  unfold Lp
  cases e : (hits (p : Int) bs).getLast? with
  | none => exact Nat.zero_le _
  | some y =>
    have := hit_nat (List.mem_of_getLast? e)
    dsimp only
    omega
def nI (ks : List Nat) : List V := ks.map fun (k : Nat) => V.int (k : Int)
theorem nI_len (ks : List Nat) : (nI ks).length = ks.length := by unfold nI; rw [List.length_map]
theorem nI_get {ks : List Nat} {j : Nat} {x : V} (h : (nI ks)[j]? = some x) : ∃ k : Nat, ks[j]? = some k ∧ x = .int (k : Int) := by
  unfold nI at h
  rw [List.getElem?_map] at h
  cases g : ks[j]? with
  | none => rw [g] at h; cases h
  | some k => rw [g] at h; cases h; exact ⟨k, rfl, rfl⟩
def behP (bs : List (List Int)) (z t : Nat) : List Nat := (List.range z).filter fun p => decide (Lp bs p = t)
def spBehP (K : PySem.W.Frag) (C : Addr) : Sp := fun vs H Q _ => ∃ (p : Addr) (t z : Nat) (bs : List (List Int)), vs = [.ref p, .int t] ∧ WebAt K C H p z bs ∧ z ≤ 10 ∧ bs.length ≤ 12 ∧ ∀ (l : Addr) (H' : Hp), Same H H' → H l = none → H' l = some (.lst (nI (behP bs z t))) → Q (.ref l) H'
section
variable {P : Program} {w : World} {K : PySem.W.Frag} {mg : Str → Option Value} {base : Heap} {f C D : Addr} {fd : FuncData}
theorem scBehP : FnScope ["web", "number"] ["web", "number"] (defScope sBehind) := ⟨rfl, rfl, rfl, by decide +kernel, rfl, by decide +kernel, by decide +kernel⟩
theorem ok_behP {fS fA : Addr} {fdS fdA : FuncData} (F : Fun K "points_behind" "points_behind" sBehind f fd) (T : Txt K mg C) (GS : FnOk P w K mg base CX0 1 fS fdS ["self"] (spSize K C)) (bS : Binds K fdS ["self"] []) (mS : Meth K C "size" fS)
    (GA : FnOk P w K mg base CX0 1 fA fdA ["self", "point"] (spAt K C)) (bA : Binds K fdA ["self", "point"] []) (mA : Meth K C "at" fA) : FnOk P w K mg base CX0 2 f fd ["web", "number"] (spBehP K C) := by
  refine F.ok scBehP (fun vs H Q E h => ?_) (fun cdv A outer s H vs Q E hr h => ?_)
  · obtain ⟨p, t, z, bs, rfl, _⟩ := h
    rfl
  obtain ⟨p, t, z, bs, rfl, hW, z10, b12, q⟩ := h
  obtain ⟨dx, j, hp, _⟩ := id hW
  refine ⟨_, pss_one (ps_ret (pe_comp (defScope sBehind) ["point"] ["number", "web"] [1, 0] rfl rfl (by decide +kernel) ⟨⟨rfl, by decide +kernel⟩, ⟨rfl, by decide +kernel⟩, trivial⟩ (pi_range1 rfl T.range (pa_cons (pe_meth0 (pv 0) T.cl mS GS hr bS .nil pass0) pa_nil))
      (fun _ _ _ => pg_name (i := 0) (show ((["point"] : List Str) ++ (["number", "web"] : List Str)).Nodup by decide +kernel) rfl (Or.inl rfl))
      (fun _ _ _ => pifs_one (pt_cmpR op_eq (pe_callB (max_listK (K := K) rfl rfl) rfl T.max PyProof.Rows.boot_max (pa_cons (pe_op (op_addLK (K := K) rfl) (pe_lst (pa_cons (pe_un un_neg pe_int) pa_nil)) (pe_meth (pv 2) T.cl mA GA hr bA .nil pass0 (pa_cons (pv 0) pa_nil))) pa_nil)) (pe_op op_sub (pv 1) pe_int) (nomark _)))
      (fun _ _ _ => pv 0))), ?_⟩
  refine ⟨_, rfl, p, dx, _, rfl, hp, flds_no _ _ (by decide +kernel) (by decide +kernel), p, z, bs, rfl, hW, _, rfl, by omega, by omega, fun Z hZ => ?_⟩
  refine turns_range (lo := 0) (n := (z : Int).toNat) (fun j τ H2 => ∃ o : Option V, τ = [o, some (.int t), some (.ref p)] ∧ Same H H2 ∧ H2 Z = some (.lst (nI ((List.range j).filter fun p => decide (Lp bs p = t))))) ⟨none, rfl, Same.new hZ _, upd_same⟩ ?_ ?_
  · rintro j τ H2 hj ⟨o, rfl, s2, eZ⟩
    have ej : (0 : Int) + j = (j : Int) := by omega
    rw [ej]
    refine ⟨1, rfl, (by show 1 ≤ sizeLine; decide), fun M hM => ?_⟩
    have s3 := s2.trans (Same.new hM (.lst [.int (-1)]))
    refine ⟨_, rfl, p, dx, _, rfl, s3 _ _ hp, flds_no _ _ (by decide +kernel) (by decide +kernel), _, rfl, p, z, j, bs, rfl, hW.same s3, b12, fun l H4 s4 hl el => ?_⟩
    have hlen : (hits (j : Int) bs).length ≤ bs.length := hits_len _ 0 bs
    have eM4 := s4 _ _ (show (upd H2 M (.lst [.int (-1)])) M = some (.lst [.int (-1)]) from upd_same)
    refine ⟨M, l, _, _, rfl, rfl, SqL.of eM4, SqL.of el, Nat.le_of_lt (small1000 (by rw [List.length_map]; show 1 + _ ≤ 1000; omega)), fun N hN => ?_⟩
    have s5 := Same.new hN (.lst (V.int (-1) :: (hits (j : Int) bs).map V.int))
    refine ⟨N, (-1 : Int) :: hits (j : Int) bs, rfl, SqL.of upd_same, by simp, fun m hm hx => ?_⟩
    have e := lp_max hm hx
    have s6 := (s3.trans s4).trans s5
    have eZ6 := s5 _ _ (s4 _ _ (Same.new hM _ _ _ eZ))
    refine ⟨_, rfl, _, _, rfl, rfl, rfl, _, rfl, ?_⟩
    have lz : ((List.range j).filter fun p => decide (Lp bs p = t)).length ≤ j := Nat.le_trans (List.length_filter_le ..) (by rw [List.length_range]; exact Nat.le_refl _)
    refine ite2 (fun c => ?_) (fun c => ?_)
    · have c' : Lp bs j = t := by
        have := of_decide_eq_true c
        injection this with this
        omega
      refine ⟨_, rfl, _, eZ6, small1000 (by rw [nI_len]; omega), _, rfl, fun b o e => ?_, ?_⟩
      · rw [upd_ne (ne_of_none e hZ)]
        exact s6 b o e
      · rw [upd_same, List.range_succ, List.filter_append, List.filter_cons_of_pos (by simpa using c')]
        unfold nI
        rw [List.map_append]
        rfl
    · have c' : ¬ Lp bs j = t := fun z => c (decide_eq_true (by rw [e, z]))
      refine ⟨_, rfl, s6, ?_⟩
      rw [List.range_succ, List.filter_append, List.filter_cons_of_neg (by simpa using c'), List.filter_nil, List.append_nil]
      exact eZ6
  · rintro τ H2 ⟨o, rfl, s2, eZ⟩
    rw [Int.toNat_natCast] at eZ
    exact q Z H2 s2 hZ eZ
end
end K55
end
section
namespace L2
open PySem PySem.Spec PyProof.Rows
open AutoSeq1 (wpAny_loadPart')
section
variable {prog : Program} {w : World} {A : Around} {E : Value → Shared → Prop} {s : Shared}
end
section
variable {X : Cx} {e : Expr} {te : TE} {p1 p2 pos pos2 : Pos}
end
end L2
end
section
namespace K55s
open PySem L2 G
def top (i : Nat) : Stmt := PySem.Challenge.pw_frontways_k55_whole_covers_counted.main.body.getD i (.Pass ⟨0, 0, 0, 0⟩)
abbrev sSets : Stmt := top 8
abbrev sGraph : Stmt := top 10
abbrev sReach : Stmt := top 11
abbrev sIn : Stmt := top 12
abbrev sInit : Stmt := inClass (top 7) 0
abbrev sKnots : Stmt := inClass (top 7) 2
abbrev sTop : Stmt := inClass (top 7) 3
theorem ra : ¬ (("amount" : Str) = "rows") := by decide +kernel
theorem ha : ¬ (("amount" : Str) = "head") := by decide +kernel
theorem hr' : ¬ (("rows" : Str) = "head") := by decide +kernel
def flds (z : Int) (j : Addr) (h : Int) : List (Str × V) := putF "head" (.int h) (putF "rows" (.ref j) (putF "amount" (.int z) []))
theorem flds_amount (z : Int) (j : Addr) (h : Int) : (flds z j h).lookup ("amount" : Str) = some (.int z) := by
  unfold flds
  rw [lookup_putF, if_neg ha, lookup_putF, if_neg ra, lookup_putF, if_pos rfl]
theorem flds_rows (z : Int) (j : Addr) (h : Int) : (flds z j h).lookup ("rows" : Str) = some (.ref j) := by
  unfold flds
  rw [lookup_putF, if_neg hr', lookup_putF, if_pos rfl]
structure Txt (K : PySem.W.Frag) (mg : Str → Option Value) (C : Addr) : Prop where
  cl : Cls K C
  nA : NoAttr K C "amount"
  nR : NoAttr K C "rows"
  nH : NoAttr K C "head"
  mgC : mg "Sieve" = some (.ref C)
  mt : ∃ t, mg "MOST_TIES" = some (.int 12 t)
  len : mg "len" = none
  range : mg "range" = none
  int : mg "int" = none
  sorted : mg "sorted" = none
  set : mg "set" = none
  tuple : mg "tuple" = none
  list : mg "list" = none
  bool : mg "bool" = none
  enum : mg "enumerate" = none
  all : mg "all" = none
  isi : mg "isinstance" = none
  min : mg "min" = none
  rev : mg "reversed" = none
def rRow (K : PySem.W.Frag) : Rep Row := fun H r v => ∃ p, v = .ref p ∧ SqT K H p [.int r.1, .int r.2.1, .int r.2.2]
theorem trep_row {K : PySem.W.Frag} : TRep (rRow K) := fun H H' r v t ⟨p, a, b⟩ => ⟨p, a, t.seq b⟩
def SvAt (K : PySem.W.Frag) (C : Addr) (H : Hp) (p : Addr) (z : Int) (rows : List Row) (h : Int) : Prop := ∃ dx j, H p = some (.ins C dx (flds z j h)) ∧ rTup K (rRow K) H rows (.ref j)
theorem SvAt.same {K : PySem.W.Frag} {C : Addr} {H H' : Hp} {p : Addr} {z hd : Int} {rows : List Row} (h : SvAt K C H p z rows hd) (e : Same H H') : SvAt K C H' p z rows hd := by
  obtain ⟨dx, j, h1, h2⟩ := h
  exact ⟨dx, j, e _ _ h1, trep_tup trep_row _ _ _ _ e.ts h2⟩
def spInit (K : PySem.W.Frag) (C : Addr) : Sp := fun vs H Q _ => ∃ (p dx l : Addr) (z h : Int) (xs : List V) (rows : List Row), vs = [.ref p, .int z, .ref l, .int h] ∧ H p = some (.ins C dx []) ∧ SqL K H l xs ∧ Paired (rRow K H) rows xs ∧
  ∀ (H' : Hp), (∀ b o, H b = some o → b ≠ p → H' b = some o) → SvAt K C H' p z rows h → Q .non H'
def spTop (K : PySem.W.Frag) (C : Addr) : Sp := fun vs H Q _ => ∃ (p : Addr) (z h : Int) (rows : List Row), vs = [.ref p] ∧ SvAt K C H p z rows h ∧ Q (.int h) H
def spKnots (K : PySem.W.Frag) (C : Addr) : Sp := fun vs H Q _ => ∃ (p : Addr) (z h : Int) (rows : List Row), vs = [.ref p] ∧ SvAt K C H p z rows h ∧ ∀ (l : Addr) (ys : List V) (H' : Hp), Same H H' → H l = none → H' l = some (.lst ys) → Paired (rRow K H') rows ys → Q (.ref l) H'
section
variable {P : Program} {w : World} {K : PySem.W.Frag} {mg : Str → Option Value} {base : Heap} {f C : Addr} {fd : FuncData}
theorem scKnots : FnScope ["self"] ["self"] (defScope sKnots) := ⟨rfl, rfl, rfl, by decide +kernel, rfl, by decide +kernel, by decide +kernel⟩
theorem ok_knots (F : Fun K "knots" "Sieve.knots" sKnots f fd) (T : Txt K mg C) : FnOk P w K mg base CX0 1 f fd ["self"] (spKnots K C) := by
  refine F.ok scKnots (fun vs H Q E h => ?_) (fun cdv A outer s H vs Q E hr h => ?_)
  · obtain ⟨p, z, hd, rows, rfl, _⟩ := h
    rfl
  obtain ⟨p, z, hd, rows, rfl, ⟨dx, j, hP, j', xs, ej, hj, pj⟩, q⟩ := h
  cases ej
  refine ⟨_, pss_one (ps_ret (pe_callTy call_list_of rfl T.list PyProof.Rows.boot_list (pa_cons (pe_fld (pv 0) rfl) pa_nil))), ?_⟩
  refine ⟨_, rfl, p, C, dx, _, _, rfl, hP, T.cl, T.nR, flds_rows _ _ _, j, xs, rfl, .inr hj, fun l hl => ?_⟩
  refine q l xs _ (Same.new hl _) hl upd_same ?_
  exact Paired.imp (fun a b => trep_row H _ a b (TSm.new hl)) pj
theorem flds_head (z : Int) (j : Addr) (h : Int) : (flds z j h).lookup ("head" : Str) = some (.int h) := by
  unfold flds
  rw [lookup_putF, if_pos rfl]
theorem scTop : FnScope ["self"] ["self"] (defScope sTop) := ⟨rfl, rfl, rfl, by decide +kernel, rfl, by decide +kernel, by decide +kernel⟩
theorem ok_top (F : Fun K "top" "Sieve.top" sTop f fd) (T : Txt K mg C) : FnOk P w K mg base CX0 1 f fd ["self"] (spTop K C) := by
  refine F.ok scTop (fun vs H Q E h => ?_) (fun cdv A outer s H vs Q E hr h => ?_)
  · obtain ⟨p, z, hd, rows, rfl, _⟩ := h
    rfl
  obtain ⟨p, z, hd, rows, rfl, ⟨dx, j, hP, hj⟩, q⟩ := h
  refine ⟨_, pss_one (ps_ret (pe_fld (pv 0) rfl)), ?_⟩
  exact ⟨_, rfl, p, C, dx, _, _, rfl, hP, T.cl, T.nH, flds_head _ _ _, q⟩
theorem scInit : FnScope ["self", "n", "rows", "head"] ["self", "n", "rows", "head"] (defScope sInit) := ⟨rfl, rfl, rfl, by decide +kernel, rfl, by decide +kernel, by decide +kernel⟩
theorem ok_init (F : Fun K "__init__" "Sieve.__init__" sInit f fd) (T : Txt K mg C) : FnOk P w K mg base CX0 1 f fd ["self", "n", "rows", "head"] (spInit K C) := by
  refine F.ok scInit (fun vs H Q E h => ?_) (fun cdv A outer s H vs Q E hr h => ?_)
  · obtain ⟨p, dx, l, z, h, xs, rows, rfl, _⟩ := h
    rfl
  obtain ⟨p, dx, l, z, h, xs, rows, rfl, hP, hS, pa, q⟩ := h
  refine ⟨_, pss_cons (ps_fld (pv 0) (pv 1) rfl)
    (pss_cons (ps_fld (pv 0) (pe_callTy call_tuple_of rfl T.tuple PyProof.Rows.boot_tuple (pa_cons (pv 2) pa_nil)) rfl)
    (pss_one (ps_fld (pv 0) (pv 3) rfl))), ?_⟩
  have sl : ∀ {H : Hp} {fs gs : List (Str × V)} {a : Addr} {zs : List V}, H p = some (.ins C dx fs) → SqL K H a zs → SqL K (upd H p (.ins C dx gs)) a zs := fun {H fs gs a zs} hP h => by
    rcases h with (h | ⟨o, h⟩) | h
    · exact .inl (.inl (by rw [upd_ne (ne_of h hP (by intro z; cases z))]; exact h))
    · exact .inl (.inr ⟨o, by rw [upd_ne (ne_of h hP (by intro z; cases z))]; exact h⟩)
    · exact .inr h
  have ts : ∀ {H : Hp} {fs gs : List (Str × V)}, H p = some (.ins C dx fs) → TSm H (upd H p (.ins C dx gs)) := fun {H fs gs} hP b u hb t => by
    rw [upd_ne ?_]
    · exact hb
    · rintro rfl
      rw [hP] at hb
      cases hb
      obtain ⟨ys, e | ⟨o, e⟩⟩ := t
      · cases e
      · cases e
  refine ⟨_, rfl, _, rfl, p, C, dx, [], rfl, hP, T.cl, T.nA, (by show 0 < 1000; decide), ?_⟩
  refine ⟨_, rfl, l, xs, rfl, .inl ⟨sl hP hS, fun j hj => ?_⟩⟩
  have jp : p ≠ j := fun e => by rw [← e, upd_same] at hj; cases hj
  have hP2 : (upd (upd H p (.ins C dx (putF "amount" (.int z) []))) j (.tup xs)) p = some (.ins C dx (putF "amount" (.int z) [])) := by rw [upd_ne jp, upd_same]
  have t2 := ts (gs := putF "rows" (.ref j) (putF "amount" (.int z) [])) hP2
  refine ⟨_, rfl, p, C, dx, _, rfl, hP2, T.cl, T.nR, (by show 1 < 1000; decide), ?_⟩
  have t3 := ts (H := upd (upd (upd H p (.ins C dx (putF "amount" (.int z) []))) j (.tup xs)) p (.ins C dx (putF "rows" (.ref j) (putF "amount" (.int z) [])))) (gs := flds z j h) upd_same
  refine ⟨_, rfl, _, rfl, p, C, dx, _, rfl, upd_same, T.cl, T.nH, (by show 2 < 1000; decide), ?_⟩
  refine q _ (fun b o e hb => ?_) ⟨dx, j, upd_same, j, xs, rfl, t3.seq (t2.seq (SqT.of upd_same)), ?_⟩
  · rw [upd_ne hb, upd_ne hb, upd_ne ?_, upd_ne hb]
    · exact e
    · rintro rfl
      rw [upd_ne hb, e] at hj
      cases hj
  · exact Paired.imp (fun a b r => trep_row _ _ _ _ t3 (trep_row _ _ _ _ t2 (trep_row _ _ _ _ (TSm.new hj) (trep_row _ _ _ _ (ts hP) r)))) pa
end
abbrev Sq (K : PySem.W.Frag) (H : Hp) (l : Addr) (xs : List V) : Prop := SqL K H l xs ∨ SqT K H l xs
theorem Sq.same {K : PySem.W.Frag} {H H' : Hp} {l : Addr} {xs : List V} (h : Sq K H l xs) (e : Same H H') : Sq K H' l xs := h.elim (fun z => .inl (e.seq z)) fun z => .inr (e.ts.seq z)
def rIxA (K : PySem.W.Frag) : R2 := fun x y H Q => rIxL K x y H Q ∨ rIxT K x y H Q
theorem ix_any {X : Cx} : IxR X (rIxA X.K) := by
  intro value slice pins s σ H x y v u Q I rx ry h hs
  rcases h with h | h
  · exact ix_list value slice pins s σ H x y v u Q I rx ry h hs
  · exact ix_tup value slice pins s σ H x y v u Q I rx ry h hs
theorem ix_anyK {X : Cx} {K : PySem.W.Frag} (hK : X.K = K) : IxR X (rIxA K) := by subst hK; exact ix_any
theorem ixA {K : PySem.W.Frag} {H : Hp} {p : Addr} {xs : List V} {i : Int} {v : V} {Q : VK} (h : Sq K H p xs) (e : atI xs i = some v) (q : Q v H) : rIxA K (.ref p) (.int i) H Q :=
  h.elim (fun z => .inl ⟨p, _, i, _, rfl, rfl, z, e, q⟩) fun z => .inr ⟨p, _, i, _, rfl, rfl, z, e, q⟩
def rRowA (K : PySem.W.Frag) (H : Hp) (r : Row) (v : V) : Prop := ∃ p, v = .ref p ∧ Sq K H p [.int r.1, .int r.2.1, .int r.2.2]
theorem rowA_same {K : PySem.W.Frag} {H H' : Hp} {r : Row} {v : V} (e : Same H H') (h : rRowA K H r v) : rRowA K H' r v := let ⟨p, a, b⟩ := h; ⟨p, a, b.same e⟩
def RowsAt (K : PySem.W.Frag) (H : Hp) (l : Addr) (rows : List Row) : Prop := ∃ xs, Sq K H l xs ∧ Paired (rRowA K H) rows xs
theorem RowsAt.same {K : PySem.W.Frag} {H H' : Hp} {l : Addr} {rows : List Row} (h : RowsAt K H l rows) (e : Same H H') : RowsAt K H' l rows := let ⟨xs, a, b⟩ := h; ⟨xs, a.same e, Paired.imp (fun _ _ r => rowA_same e r) b⟩
theorem RowsAt.of {K : PySem.W.Frag} {H : Hp} {l : Addr} {rows : List Row} (h : rLst K (rRow K) H rows (.ref l)) : RowsAt K H l rows := by
  obtain ⟨l', xs, e, hS, pa⟩ := h
  cases e
  exact ⟨xs, .inl hS, Paired.imp (fun _ _ ⟨p, a, b⟩ => ⟨p, a, .inr b⟩) pa⟩
end K55s
end
section
namespace K55s
open PySem L2 G
abbrev iN (s : List Nat) : List V := s.map fun (x : Nat) => V.int (x : Int)
theorem row_get {K : PySem.W.Frag} {H : Hp} {rows : List Row} {l : Addr} {k : Nat} (h : RowsAt K H l rows) (kn : Knot rows k) (h2 : 2 ≤ k) :
    ∃ xs p, Sq K H l xs ∧ atI xs ((k : Int) - 2) = some (.ref p) ∧ Sq K H p [.int (rows.getD (k - 2) (0, 0, 0)).1, .int (rows.getD (k - 2) (0, 0, 0)).2.1, .int (rows.getD (k - 2) (0, 0, 0)).2.2] := by
  obtain ⟨xs, hS, pa⟩ := h
  obtain ⟨v, hv, p, rfl, hp⟩ := Paired.getL pa (row_at kn h2)
  exact ⟨xs, p, hS, by rw [show (k : Int) - 2 = ((k - 2 : Nat) : Int) by omega]; exact atI_nat hv, hp⟩
theorem at0 {a b c : V} : atI [a, b, c] 0 = some a := rfl
theorem at1 {a b c : V} : atI [a, b, c] 1 = some b := rfl
theorem at2 {a b c : V} : atI [a, b, c] 2 = some c := rfl
structure Ex (K : PySem.W.Frag) (mg : Str → Option Value) (x : Str) (c : Addr) : Prop where
  m : mg x = some (.ref c)
  ex : PySem.W.excIn K c [.type "ValueError", .type "Exception", .type "BaseException", .type "object"] "ValueError.__new__" = true
def lay (rows : List Row) (t : Nat) (rc : List Nat) (j : Nat) : List Nat := (rc.take j).filter fun k => decide (tieOf rows k = t)
theorem lay_succ {rows : List Row} {t : Nat} {rc : List Nat} {j k : Nat} (h : rc[j]? = some k) : lay rows t rc (j + 1) = lay rows t rc j ++ if tieOf rows k = t then [k] else [] := by
  unfold lay
  rw [List.take_add_one, h, List.filter_append]
  by_cases c : tieOf rows k = t
  · simp [c]
  · simp [c]
theorem mem_lay {rows : List Row} {t : Nat} {rc : List Nat} {k : Nat} : k ∈ lay rows t rc rc.length ↔ k ∈ rc ∧ tieOf rows k = t := by
  unfold lay
  rw [List.take_length, List.mem_filter]
  simp
theorem small2000 {n : Nat} (h : n ≤ 2000) : n < sizeLine := Nat.lt_of_le_of_lt h (by decide)
def has (kvs : List (Key × V)) (k : Nat) : Prop := (valV kvs (.inl (k : Int))).isSome = true
theorem has_put {kvs : List (Key × V)} {a k : Nat} {v : V} : has (putK kvs (.inl (a : Int)) v) k ↔ k = a ∨ has kvs k := by
  unfold has
  rw [valV_put]
  by_cases e : k = a
  · subst e; simp
  · rw [if_neg (fun z => e (by injection z with z; omega))]
    exact ⟨.inr, fun h => h.resolve_left e⟩
def rcOf (kvs : List (Key × V)) (i : Nat) : List Nat := ((List.range i).map (· + 2)).filter fun k => (valV kvs (.inl (k : Int))).isSome
theorem rcOf_succ (kvs : List (Key × V)) (i : Nat) : rcOf kvs (i + 1) = rcOf kvs i ++ if (valV kvs (.inl ((i + 2 : Nat) : Int))).isSome = true then [i + 2] else [] := by
  unfold rcOf
  rw [List.range_succ, List.map_append, List.filter_append, List.map_singleton, List.filter_cons, List.filter_nil]
theorem mem_rcOf {kvs : List (Key × V)} {i k : Nat} : k ∈ rcOf kvs i ↔ 2 ≤ k ∧ k < i + 2 ∧ has kvs k := by
  unfold rcOf has
  rw [List.mem_filter, List.mem_map]
  constructor
  · rintro ⟨⟨a, ha, rfl⟩, h⟩
    rw [List.mem_range] at ha
    exact ⟨by omega, by omega, h⟩
  · rintro ⟨h1, h2, h3⟩
    exact ⟨⟨k - 2, List.mem_range.mpr (by omega), by omega⟩, h3⟩
theorem len_rcOf (kvs : List (Key × V)) (i : Nat) : (rcOf kvs i).length ≤ i := by
  unfold rcOf
  refine Nat.le_trans (List.length_filter_le _ _) ?_
  rw [List.length_map, List.length_range]
  exact Nat.le_refl _
theorem getD_map : ∀ (rows : List Row), (List.range rows.length).map (fun i => rows.getD i (0, 0, 0)) = rows := fun rows => by
  apply List.ext_getElem?
  intro i
  by_cases c : i < rows.length
  · simp [c]
  · simp [c]
theorem lay_rows {rows : List Row} {rc : List Nat} {t j m : Nat} (h : rc.Sublist ((List.range m).map (· + 2))) (hm : m ≤ rows.length) : (lay rows t rc j).length ≤ (rows.filter fun r => decide (r.1 = t)).length := by
  have h1 : (lay rows t rc j).Sublist (((List.range rows.length).map (· + 2)).filter fun k => decide (tieOf rows k = t)) := by
    unfold lay
    exact (((List.take_sublist _ _).trans h).trans ((List.range_sublist.mpr hm).map _)).filter _
  refine Nat.le_trans h1.length_le ?_
  have e : (rows.filter fun r => decide (r.1 = t)) = (((List.range rows.length).filter fun i => decide ((rows.getD i (0, 0, 0)).1 = t)).map fun i => rows.getD i (0, 0, 0)) := by
    conv => lhs; rw [← getD_map rows]
    rw [List.filter_map]
    rfl
  rw [e, List.length_map, List.filter_map, List.length_map]
  exact Nat.le_refl _
theorem rc_sub (kvs : List (Key × V)) (i : Nat) : (rcOf kvs i).Sublist ((List.range i).map (· + 2)) := List.filter_sublist
def spIn (K : PySem.W.Frag) : Sp := fun vs H Q _ => ∃ (d p : Addr) (r : Row) (x y : Nat) (kvs : List (Key × V)), vs = [.ref d, .ref p] ∧ H d = some (.dK kvs) ∧ rRowA K H r (.ref p) ∧ valV kvs (.inl (r.2.1 : Int)) = some (.int x) ∧ valV kvs (.inl (r.2.2 : Int)) = some (.int y) ∧
  ∀ t, H t = none → Q (.ref t) (upd H t (.tup [.int r.1, .int x, .int y]))
def spReach (K : PySem.W.Frag) : Sp := fun vs H Q _ => ∃ (l : Addr) (n top : Nat) (rows : List Row), vs = [.ref l, .int top] ∧ RowsAt K H l rows ∧ Ok n rows ∧ rows.length ≤ 720 ∧ Knot rows top ∧
  ∀ (D : Addr) (rc : List Nat) (H' : Hp), Same H H' → H D = none → H' D = some (.lst (iN rc)) → Closed rows rc → (top ≤ 1 ∨ top ∈ rc) → (∀ t j, (lay rows t rc j).length ≤ (rows.filter fun r => decide (r.1 = t)).length) → (∀ k ∈ rc, k = top ∨ ∃ k' ∈ rc, k < k' ∧ (outOf rows k' = k ∨ intoOf rows k' = k)) → Q (.ref D) H'
section
variable {P : Program} {w : World} {K : PySem.W.Frag} {mg : Str → Option Value} {base : Heap} {f C : Addr} {fd : FuncData}
theorem scIn : FnScope ["places", "row"] ["places", "row"] (defScope sIn) := ⟨rfl, rfl, rfl, by decide +kernel, rfl, by decide +kernel, by decide +kernel⟩
theorem ok_in (F : Fun K "row_in_places" "row_in_places" sIn f fd) : FnOk P w K mg base CX0 1 f fd ["places", "row"] (spIn K) := by
  refine F.ok scIn (fun vs H Q E h => ?_) (fun cdv A outer s H vs Q E hr h => ?_)
  · obtain ⟨d, p, r, x, y, kvs, rfl, _⟩ := h
    rfl
  obtain ⟨d, p, r, x, y, kvs, rfl, hd, ⟨p', e, hp⟩, hx, hy, q⟩ := h
  cases e
  refine ⟨_, pss_one (ps_ret (pe_tup (pa_cons (pe_ix ix_any (pv 1) pe_int (fun _ _ => rfl)) (pa_cons (pe_dget (un_of hr) (pv 0) (pe_ix ix_any (pv 1) pe_int (fun _ _ => rfl)) (fun _ _ => rfl)) (pa_cons (pe_dget (un_of hr) (pv 0) (pe_ix ix_any (pv 1) pe_int (fun _ _ => rfl)) (fun _ _ => rfl)) pa_nil))))), ?_⟩
  refine ⟨_, rfl, ixA hp at0 ⟨_, rfl, _, rfl, ixA hp at1 ⟨d, .int x, rfl, ?_, _, rfl, _, rfl, ixA hp at2 ⟨d, .int y, rfl, ?_, (by show 3 ≤ sizeLine; decide), q⟩⟩⟩⟩
  · have := DGet.k (k := .inl (r.2.1 : Int)) hd
    rw [hx] at this
    exact this
  · have := DGet.k (k := .inl (r.2.2 : Int)) hd
    rw [hy] at this
    exact this
theorem scReach : FnScope ["rows", "top", "reached", "knot"] ["rows", "top"] (defScope sReach) := ⟨rfl, rfl, rfl, by decide +kernel, rfl, by decide +kernel, by decide +kernel⟩
theorem ok_reach (F : Fun K "reached_knots" "reached_knots" sReach f fd) (T : Txt K mg C) : FnOk P w K mg base CX0 1 f fd ["rows", "top"] (spReach K) := by
  refine F.ok scReach (fun vs H Q E h => ?_) (fun cdv A outer s H vs Q E hr h => ?_)
  · obtain ⟨l, n, top, rows, rfl, _⟩ := h
    rfl
  obtain ⟨l, n, top, rows, rfl, hL, ok, r60, kt, q⟩ := h
  refine ⟨_, pss_cons (ps_set (i := 2) scReach.nd rfl (Or.inr rfl) (pe_disp (pps_cons (pv 1) pe_bl pps_nil) rfl rfl (by intro z; cases z) (by decide)))
    (pss_cons (ps_for PassesOwn.never rfl (pi_rangeD rfl T.range (pa_cons (pv 1) (pa_cons pe_int (pa_cons (pe_un un_neg pe_int) pa_nil)))) (pg_name (i := 3) scReach.nd rfl (Or.inl rfl))
      (pss_one (ps_if (pt_cmp (pc_din (un_of hr) (pv 3) (pv 2)))
        (pss_cons (ps_dput (un_of hr) (pv 2) (pe_ix ix_any (pe_ix ix_any (pv 0) (pe_op op_sub (pv 3) pe_int) (fun _ _ => rfl)) pe_int (fun _ _ => rfl)) pe_bl rfl)
        (pss_one (ps_dput (un_of hr) (pv 2) (pe_ix ix_any (pe_ix ix_any (pv 0) (pe_op op_sub (pv 3) pe_int) (fun _ _ => rfl)) pe_int (fun _ _ => rfl)) pe_bl rfl))) pss_nil)))
    (pss_one (ps_ret (pe_comp (defScope sReach) ["knot"] ["reached"] [2] rfl rfl (by decide +kernel) ⟨⟨rfl, by decide +kernel⟩, trivial⟩ (pi_range2 rfl T.range (pa_cons pe_int (pa_cons (pe_op op_add (pv 1) pe_int) pa_nil)))
      (fun _ _ _ => pg_name (i := 0) (show ((["knot"] : List Str) ++ (["reached"] : List Str)).Nodup by decide +kernel) rfl (Or.inl rfl))
      (fun _ _ _ => pifs_one (pt_cmp (pc_din (un_of hr) (pv 0) (pv 1)) rfl))
      (fun _ _ _ => pv 0))))), ?_⟩
  refine fun D hD => ⟨_, rfl, upd_same, [(.inl (top : Int), .bl true)], rfl, (by show 1 ≤ 15; decide), ?_⟩
  have s0 : Same H (upd (upd H D (.dK [])) D (.dK (mergeK [] [(.inl (top : Int), .bl true)]))) := fun b o e => by rw [upd_ne (ne_of_none e hD), upd_ne (ne_of_none e hD)]; exact e
  refine ⟨_, rfl, _, rfl, (top : Int), 1, rfl, ⟨by omega, by have : top < rows.length + 2 := kt; omega, by omega, by omega⟩, ?_⟩
  refine for_down (lo := (top : Int)) (n := ((top : Int) - 1).toNat) (fun i σ H2 => ∃ (kvs : List (Key × V)) (kv : Option V), σ = [some (.ref l), some (.int top), some (.ref D), kv] ∧ Same H H2 ∧ H2 D = some (.dK kvs) ∧ kvs.length ≤ 1 + 2 * i ∧ has kvs top ∧
      (∀ k : Nat, top < k + i → k ≤ top → has kvs k → has kvs (outOf rows k) ∧ has kvs (intoOf rows k)) ∧ (∀ k : Nat, has kvs k → k ≤ top) ∧ ∀ k : Nat, 2 ≤ k → has kvs k → k = top ∨ ∃ k', 2 ≤ k' ∧ has kvs k' ∧ k < k' ∧ (outOf rows k' = k ∨ intoOf rows k' = k))
    ⟨_, none, rfl, s0, upd_same, by show 1 ≤ 1; decide, ?_, fun k h1 h2 => by omega, ?_, ?_⟩ ?_ ?_
  · show has (putK [] (.inl (top : Int)) (.bl true)) top
    exact has_put.mpr (.inl rfl)
  · intro k hk
    rcases has_put.mp (show has (putK [] (.inl (top : Int)) (.bl true)) k from hk) with e | e
    · omega
    · exact absurd e (by intro z; cases z)
  · intro k _ hk
    rcases has_put.mp (show has (putK [] (.inl (top : Int)) (.bl true)) k from hk) with e | e
    · exact .inl e
    · exact absurd e (by intro z; cases z)
  · rintro i σ H2 hi ⟨kvs, kv, rfl, sm, eD, hl, ht, hc, hb, hpar⟩
    obtain ⟨k, ek, k2⟩ : ∃ k : Nat, (top : Int) - i = k ∧ 2 ≤ k := ⟨((top : Int) - i).toNat, by omega, by omega⟩
    have kk : Knot rows k := by unfold Knot at *; omega
    rw [ek]
    refine ⟨_, rfl, _, rfl, D, _, rfl, DGet.k (k := .inl (k : Int)) eD, _, rfl, ?_⟩
    refine ite2 (fun c => ?_) (fun c => ?_)
    · have hL2 := hL.same sm
      obtain ⟨xs, p, hS, ha, hp⟩ := row_get hL2 kk k2
      obtain ⟨_, lo, li, _⟩ := ok.low (row_at kk k2)
      have z1 : kvs.length < sizeLine := small2000 (by unfold Knot at kt; omega)
      refine ⟨_, rfl, _, rfl, _, rfl, _, _, rfl, rfl, ixA hS ha (ixA hp at1 ⟨D, _, rfl, .inl ⟨kvs, .inl ((rows.getD (k - 2) (0, 0, 0)).2.1 : Int), eD, rfl, z1, rfl⟩, ?_⟩)⟩
      have l1 := length_putK kvs (.inl ((rows.getD (k - 2) (0, 0, 0)).2.1 : Int)) (.bl true)
      have z2 : (putK kvs (.inl ((rows.getD (k - 2) (0, 0, 0)).2.1 : Int)) (.bl true)).length < sizeLine := small2000 (by unfold Knot at kt; omega)
      have sm2 : Same H (upd H2 D (.dK (putK kvs (.inl ((rows.getD (k - 2) (0, 0, 0)).2.1 : Int)) (.bl true)))) := fun b o e => by rw [upd_ne (ne_of_none e hD)]; exact sm b o e
      obtain ⟨xs2, p2, hS2, ha2, hp2⟩ := row_get (hL.same sm2) kk k2
      refine ⟨_, rfl, _, rfl, _, rfl, _, _, rfl, rfl, ixA hS2 ha2 (ixA hp2 at2 ⟨D, _, rfl, .inl ⟨_, .inl ((rows.getD (k - 2) (0, 0, 0)).2.2 : Int), upd_same, rfl, z2, rfl⟩, ?_⟩)⟩
      have l2 := length_putK (putK kvs (.inl ((rows.getD (k - 2) (0, 0, 0)).2.1 : Int)) (.bl true)) (.inl ((rows.getD (k - 2) (0, 0, 0)).2.2 : Int)) (.bl true)
      have hup : ∀ k', has (putK (putK kvs (.inl ((rows.getD (k - 2) (0, 0, 0)).2.1 : Int)) (.bl true)) (.inl ((rows.getD (k - 2) (0, 0, 0)).2.2 : Int)) (.bl true)) k' → k' = outOf rows k ∨ k' = intoOf rows k ∨ has kvs k' := fun k' h => by
        rcases has_put.mp h with e | h
        · exact .inr (.inl e)
        rcases has_put.mp h with e | h
        · exact .inl e
        exact .inr (.inr h)
      have hkk : has kvs k := c
      have kle : k ≤ top := by omega
      have lo' : outOf rows k < k := by unfold outOf; omega
      have li' : intoOf rows k < k := by unfold intoOf; omega
      refine ⟨_, _, rfl, fun b o e => ?_, upd_same, by omega, has_put.mpr (.inr (has_put.mpr (.inr ht))), fun k' h1 h2 h3 => ?_, fun k' h => ?_, fun k' h2 h => ?_⟩
      · rw [upd_ne (ne_of_none e hD), upd_ne (ne_of_none e hD)]
        exact sm b o e
      · by_cases e : k' = k
        · subst e
          exact ⟨has_put.mpr (.inr (has_put.mpr (.inl rfl))), has_put.mpr (.inl rfl)⟩
        · have h4 : has kvs k' := by
            rcases has_put.mp h3 with e' | h3
            · omega
            rcases has_put.mp h3 with e' | h3
            · omega
            exact h3
          obtain ⟨y1, y2⟩ := hc k' (by omega) h2 h4
          exact ⟨has_put.mpr (.inr (has_put.mpr (.inr y1))), has_put.mpr (.inr (has_put.mpr (.inr y2)))⟩
      · rcases hup k' h with e | e | e
        · omega
        · omega
        · exact hb k' e
      · have keep : has (putK (putK kvs (.inl ((rows.getD (k - 2) (0, 0, 0)).2.1 : Int)) (.bl true)) (.inl ((rows.getD (k - 2) (0, 0, 0)).2.2 : Int)) (.bl true)) k := has_put.mpr (.inr (has_put.mpr (.inr hkk)))
        rcases hup k' h with e | e | e
        · exact .inr ⟨k, k2, keep, by omega, .inl e.symm⟩
        · exact .inr ⟨k, k2, keep, by omega, .inr e.symm⟩
        · rcases hpar k' h2 e with z | ⟨u, z1, z2, z3⟩
          · exact .inl z
          · exact .inr ⟨u, z1, has_put.mpr (.inr (has_put.mpr (.inr z2))), z3⟩
    · refine ⟨kvs, _, rfl, sm, eD, by omega, ht, fun k' h1 h2 h3 => ?_, hb, hpar⟩
      by_cases e : k' = k
      · subst e
        exact absurd h3 c
      · exact hc k' (by omega) h2 h3
  · rintro σ H2 ⟨kvs, kv, rfl, sm, eD, hl, ht, hc, hb, hpar⟩
    refine ⟨_, rfl, _, _, rfl, rfl, 2, (top : Int) + 1, rfl, ⟨by omega, by omega, by omega, by unfold Knot at kt; omega⟩, fun L hL0 => ?_⟩
    have neL : D ≠ L := fun e => by rw [← e, eD] at hL0; cases hL0
    have nL : H L = none := sm.free hL0
    refine turns_range (lo := 2) (n := ((top : Int) + 1 - 2).toNat) (fun i τ H3 => ∃ kv : Option V, τ = [kv, some (.ref D)] ∧ Same H H3 ∧ H3 D = some (.dK kvs) ∧ H3 L = some (.lst (iN (rcOf kvs i)))) ⟨none, rfl, sm.trans (Same.new hL0 _), by rw [upd_ne neL]; exact eD, upd_same⟩ ?_ ?_
    · rintro i τ H3 hi ⟨kv, rfl, sm3, eD3, eL3⟩
      have ei : (2 : Int) + i = ((i + 2 : Nat) : Int) := by omega
      rw [ei]
      refine ⟨_, rfl, _, rfl, D, _, rfl, DGet.k (k := .inl ((i + 2 : Nat) : Int)) eD3, _, rfl, ?_⟩
      have lr := len_rcOf kvs i
      refine ite2 (fun c => ?_) (fun c => ?_)
      · refine ⟨_, rfl, _, eL3, small2000 (by rw [List.length_map]; unfold Knot at kt; omega), _, rfl, fun b o e => ?_, by rw [upd_ne neL]; exact eD3, ?_⟩
        · rw [upd_ne (ne_of_none e nL)]
          exact sm3 b o e
        · rw [upd_same, rcOf_succ, if_pos c]
          unfold iN
          rw [List.map_append]
          rfl
      · refine ⟨_, rfl, sm3, eD3, ?_⟩
        rw [eL3, rcOf_succ, if_neg c, List.append_nil]
    · rintro τ H3 ⟨kv, rfl, sm3, eD3, eL3⟩
      have all : ∀ k, k ∈ rcOf kvs ((top : Int) + 1 - 2).toNat → 2 ≤ k ∧ k ≤ top ∧ has kvs k := fun k hk => by
        obtain ⟨a, b, c⟩ := mem_rcOf.mp hk
        exact ⟨a, by omega, c⟩
      have back : ∀ k, k ≤ top → has kvs k → k ≤ 1 ∨ k ∈ rcOf kvs ((top : Int) + 1 - 2).toNat := fun k h1 h2 => by
        rcases Nat.lt_or_ge k 2 with c | c
        · exact .inl (by omega)
        · exact .inr (mem_rcOf.mpr ⟨c, by omega, h2⟩)
      have kn : ∀ k, k ≤ top → Knot rows k := fun k h => by unfold Knot at *; omega
      refine q L _ H3 sm3 nL eL3 ⟨fun k hk => (all k hk).1, fun k hk => kn k (all k hk).2.1, fun k hk => ?_, fun k hk => ?_⟩ (back top (Nat.le_refl _) ht) (fun t j => lay_rows (rc_sub _ _) (by unfold Knot at kt; omega)) (fun k hk => by
          obtain ⟨a1, b1, c1⟩ := all k hk
          rcases hpar k a1 c1 with z | ⟨u, u2, z1, z2⟩
          · exact .inl z
          · exact .inr ⟨u, mem_rcOf.mpr ⟨u2, by have := hb u z1; omega, z1⟩, z2⟩)
      · obtain ⟨a, b, c⟩ := all k hk
        obtain ⟨_, lo, li, _⟩ := ok.low (row_at (kn k b) a)
        exact back _ (by unfold outOf; omega) (hc k (by omega) b c).1
      · obtain ⟨a, b, c⟩ := all k hk
        obtain ⟨_, lo, li, _⟩ := ok.low (row_at (kn k b) a)
        exact back _ (by unfold intoOf; omega) (hc k (by omega) b c).2
end
end K55s
end
section
namespace K55s
open PySem L2 G
def ik3 (r : Row) : List Key := [.inl (r.1 : Int), .inl (r.2.1 : Int), .inl (r.2.2 : Int)]
abbrev r3 (r : Row) : List V := [.int r.1, .int r.2.1, .int r.2.2]
def r3i (r : Row) : List Int := [(r.1 : Int), (r.2.1 : Int), (r.2.2 : Int)]
theorem ik3_inj {a b : Row} (h : ik3 a = ik3 b) : a = b := by
  obtain ⟨a1, a2, a3⟩ := a
  obtain ⟨b1, b2, b3⟩ := b
  simp [ik3] at h
  obtain ⟨h1, h2, h3⟩ := h
  injection h1 with h1
  injection h2 with h2
  injection h3 with h3
  have e1 : a1 = b1 := by omega
  have e2 : a2 = b2 := by omega
  have e3 : a3 = b3 := by omega
  rw [e1, e2, e3]
theorem r3i_inj {a b : Row} (h : r3i a = r3i b) : a = b := by
  obtain ⟨a1, a2, a3⟩ := a
  obtain ⟨b1, b2, b3⟩ := b
  simp [r3i] at h
  obtain ⟨h1, h2, h3⟩ := h
  have e1 : a1 = b1 := by omega
  have e2 : a2 = b2 := by omega
  have e3 : a3 = b3 := by omega
  rw [e1, e2, e3]
def numKV : Nat → List Row → List (List Key × V)
  | _, [] => []
  | i, r :: rs => (ik3 r, .int (i : Int)) :: numKV (i + 1) rs
def numOf : Nat → List Row → Row → Option Nat
  | _, [], _ => none
  | i, a :: rs, r => if a = r then some i else numOf (i + 1) rs r
theorem numKV_len : ∀ (i : Nat) (nums : List Row), (numKV i nums).length = nums.length
  | _, [] => rfl
  | i, _ :: rs => by show (numKV (i + 1) rs).length + 1 = rs.length + 1; rw [numKV_len]
theorem numKV_val (r : Row) : ∀ (i : Nat) (nums : List Row), valV (numKV i nums) (ik3 r) = (numOf i nums r).map fun (m : Nat) => V.int (m : Int)
  | _, [] => rfl
  | i, a :: rs => by
    by_cases e : a = r
    · rw [numKV, valV_pos (by show ik3 a = ik3 r; rw [e]), numOf, if_pos e]; rfl
    · rw [numKV, valV_neg (fun z => e (ik3_inj z)), numOf, if_neg e]; exact numKV_val r (i + 1) rs
theorem numOf_some (r : Row) : ∀ (i : Nat) (nums : List Row) (m : Nat), numOf i nums r = some m → ∃ j, nums[j]? = some r ∧ m = i + j
  | _, [], _, h => by cases h
  | i, a :: rs, m, h => by
    unfold numOf at h
    by_cases e : a = r
    · rw [if_pos e] at h
      cases h
      exact ⟨0, by rw [e]; rfl, rfl⟩
    · rw [if_neg e] at h
      obtain ⟨j, h1, h2⟩ := numOf_some r (i + 1) rs m h
      exact ⟨j + 1, by simpa using h1, by omega⟩
theorem numOf_none (r : Row) : ∀ (i : Nat) (nums : List Row), numOf i nums r = none → r ∉ nums
  | _, [], _ => fun h => nomatch h
  | i, a :: rs, h => by
    unfold numOf at h
    by_cases e : a = r
    · rw [if_pos e] at h; cases h
    · rw [if_neg e] at h
      intro hm
      rcases List.mem_cons.mp hm with rfl | hm
      · exact e rfl
      · exact numOf_none r (i + 1) rs h hm
theorem numOf_not (r : Row) : ∀ (i : Nat) (nums : List Row), r ∉ nums → numOf i nums r = none
  | _, [], _ => rfl
  | i, a :: rs, h => by
    unfold numOf
    rw [if_neg (fun e => h (by rw [e]; exact List.mem_cons_self ..))]
    exact numOf_not r (i + 1) rs fun z => h (List.mem_cons_of_mem _ z)
theorem numKV_app : ∀ (i : Nat) (nums : List Row) (r : Row), numKV i (nums ++ [r]) = numKV i nums ++ [(ik3 r, .int ((i + nums.length : Nat) : Int))]
  | i, [], r => rfl
  | i, a :: rs, r => by
    show (ik3 a, V.int (i : Int)) :: numKV (i + 1) (rs ++ [r]) = (ik3 a, V.int (i : Int)) :: (numKV (i + 1) rs ++ [(ik3 r, V.int ((i + (rs.length + 1) : Nat) : Int))])
    rw [numKV_app (i + 1) rs r]
    rw [show i + 1 + rs.length = i + (rs.length + 1) by omega]
theorem numKV_put {nums : List Row} {r : Row} (h : r ∉ nums) : putK (numKV 2 nums) (ik3 r) (.int (((numKV 2 nums).length : Int) + 2)) = numKV 2 (nums ++ [r]) := by
  rw [putK_new _ (by rw [numKV_val, numOf_not r 2 nums h]; rfl), numKV_app, numKV_len]
  congr 4
  omega
theorem keys_rows {K : PySem.W.Frag} {H : Hp} : ∀ {i : Nat} {nums : List Row} {ys : List V}, KeyL H (numKV i nums) ys → Paired (rRow K H) nums ys
  | _, [], _, .nil => .nil
  | i, r :: rs, _, .cons ⟨b, e, hb⟩ t => .cons ⟨b, e, SqT.of hb⟩ (keys_rows t)
theorem back_rows : ∀ (ms : List (List Int)), (∀ m ∈ ms, ∃ r, m = r3i r) → ∃ new : List Row, ms = new.map r3i
  | [], _ => ⟨[], rfl⟩
  | m :: ms, h => by
    obtain ⟨r, rfl⟩ := h m (List.mem_cons_self ..)
    obtain ⟨new, rfl⟩ := back_rows ms fun x hx => h x (List.mem_cons_of_mem _ hx)
    exact ⟨r :: new, rfl⟩
theorem nodup_lex : ∀ {new : List Row}, (new.map r3i).Pairwise (fun a b => HT.lexLt a b = true) → new.Nodup := fun {new} h => by
  have h2 : new.Pairwise (fun a b => HT.lexLt (r3i a) (r3i b) = true) := List.pairwise_map.mp h
  exact h2.imp fun {a b} z e => by rw [e, lexLt_same] at z; cases z
def plOf (pl : Nat → Option Nat) (place : Nat → Nat) (ks : List Nat) (k : Nat) : Option Nat := if k ∈ ks then some (place k) else pl k
theorem plOf_put {pl : Nat → Option Nat} {place : Nat → Nat} {ks : List Nat} {a k : Nat} : plOf pl place (ks ++ [a]) k = if k = a then some (place a) else plOf pl place ks k := by
  unfold plOf
  by_cases e : k = a
  · subst e; simp
  · by_cases h : k ∈ ks
    · simp [h, e]
    · simp [h, e]
def PlD (kvs : List (Key × V)) (pl : Nat → Option Nat) : Prop := ∀ k : Nat, valV kvs (.inl (k : Int)) = (pl k).map fun (p : Nat) => V.int (p : Int)
theorem PlD.put {kvs : List (Key × V)} {pl : Nat → Option Nat} {place : Nat → Nat} {ks : List Nat} {a : Nat} (h : PlD kvs (plOf pl place ks)) : PlD (putK kvs (.inl (a : Int)) (.int (place a : Nat))) (plOf pl place (ks ++ [a])) := fun k => by
  rw [valV_put, plOf_put]
  by_cases e : k = a
  · subst e; rw [if_pos rfl, if_pos rfl]; rfl
  · rw [if_neg (fun z => e (by injection z with z; omega)), if_neg e]
    exact h k
end K55s
end
section
namespace K55s
open PySem L2 G
def spGraph (K : PySem.W.Frag) (C : Addr) : Sp := fun vs H Q _ => ∃ (l : Addr) (n top : Nat) (rows : List Row), vs = [.int n, .ref l, .int top] ∧ RowsAt K H l rows ∧ Ok n rows ∧ n ≤ 12 ∧ rows.length ≤ 720 ∧ Few rows top ∧ Knot rows top ∧
  ∀ (p : Addr) (nums : List Row) (hd : Nat) (H' : Hp), Same H H' → SvAt K C H' p n nums hd → Canon n nums hd → (∀ s, led nums hd s = led rows top s) → (nums.length ≤ 900 ∧ nums.length ≤ rows.length ∧ ∀ t, (nums.filter fun r => decide (r.1 = t)).length ≤ 60) → Q (.ref p) H'
theorem smallN {n : Nat} (h : n ≤ 100000) : n < sizeLine := Nat.lt_of_le_of_lt h (by decide)
def pl01 : List (Key × V) := mergeK [] [(Sum.inl (0 : Int), V.int 0), (Sum.inl (1 : Int), V.int 1)]
theorem pl_first : PlD pl01 fun k => if k = 0 then some 0 else if k = 1 then some 1 else none := by
  intro k
  show valV (putK (putK ([] : List (Key × V)) (Sum.inl (0 : Int)) (V.int 0)) (Sum.inl (1 : Int)) (V.int 1)) (Sum.inl (k : Int)) = _
  rw [valV_put, valV_put]
  by_cases k1 : k = 1
  · subst k1; rfl
  by_cases k0 : k = 0
  · subst k0; rfl
  rw [if_neg (fun z => k1 (by injection z with z; omega)), if_neg (fun z => k0 (by injection z with z; omega))]
  dsimp only
  rw [if_neg k0, if_neg k1]
  rfl
theorem pl_len : pl01.length ≤ 2 + 720 * 0 := by
  show (putK (putK ([] : List (Key × V)) (Sum.inl (0 : Int)) (V.int 0)) (Sum.inl (1 : Int)) (V.int 1)).length ≤ 2 + 720 * 0
  exact Nat.le_trans (length_putK _ _ _) (Nat.succ_le_succ (length_putK _ _ _))
def LayR (rows : List Row) (pl : Nat → Option Nat) (H : Hp) (k : Nat) (v : V) : Prop := ∃ q b, v = .ref q ∧ H q = some (.tup [.int k, .ref b]) ∧ H b = some (.tup (r3 (rowIn rows pl k)))
theorem LayR.keeps {rows : List Row} {pl : Nat → Option Nat} {H H' : Hp} {k : Nat} {v : V} (e : ∀ a xs, H a = some (.tup xs) → H' a = some (.tup xs)) (h : LayR rows pl H k v) : LayR rows pl H' k v :=
  let ⟨q, b, h1, h2, h3⟩ := h; ⟨q, b, h1, e _ _ h2, e _ _ h3⟩
def RowR (H : Hp) (r : Row) (v : V) : Prop := ∃ b, v = .ref b ∧ H b = some (.tup (r3 r))
theorem RowR.keeps {H H' : Hp} {r : Row} {v : V} (e : ∀ a xs, H a = some (.tup xs) → H' a = some (.tup xs)) (h : RowR H r v) : RowR H' r v :=
  let ⟨b, h1, h2⟩ := h; ⟨b, h1, e _ _ h2⟩
def sel (rows : List Row) (pl : Nat → Option Nat) (ly : List Nat) (j : Nat) : List Row := ((ly.take j).map (rowIn rows pl)).filter fun r => decide (r.2.2 ≠ 0)
theorem sel_succ {rows : List Row} {pl : Nat → Option Nat} {ly : List Nat} {j k : Nat} (h : ly[j]? = some k) : sel rows pl ly (j + 1) = sel rows pl ly j ++ if (rowIn rows pl k).2.2 ≠ 0 then [rowIn rows pl k] else [] := by
  unfold sel
  rw [List.take_add_one, h, List.map_append, List.filter_append]
  by_cases c : (rowIn rows pl k).2.2 ≠ 0
  · simp [c]
  · simp [c]
theorem sel_len (rows : List Row) (pl : Nat → Option Nat) (ly : List Nat) (j : Nat) : (sel rows pl ly j).length ≤ ly.length := by
  unfold sel
  refine Nat.le_trans (List.length_filter_le _ _) ?_
  rw [List.length_map, List.length_take]
  omega
theorem mem_sel {rows : List Row} {pl : Nat → Option Nat} {ly : List Nat} {r : Row} : r ∈ sel rows pl ly ly.length ↔ ∃ k ∈ ly, r = rowIn rows pl k ∧ r.2.2 ≠ 0 := by
  unfold sel
  rw [List.take_length, List.mem_filter, List.mem_map]
  constructor
  · rintro ⟨⟨k, hk, rfl⟩, h⟩
    exact ⟨k, hk, rfl, of_decide_eq_true h⟩
  · rintro ⟨k, hk, rfl, h⟩
    exact ⟨⟨k, hk, rfl⟩, decide_eq_true h⟩
def placeOf (rows : List Row) (pl : Nat → Option Nat) (nums : List Row) (k : Nat) : Nat := (numOf 2 nums (rowIn rows pl k)).getD (rowIn rows pl k).2.1
theorem paired_map {α β γ : Type} {F : β → γ → Prop} {f : α → β} : ∀ {l : List α} {m : List γ}, Paired (fun a b => F (f a) b) l m → Paired F (l.map f) m
  | _, _, .nil => .nil
  | _, _, .cons h t => .cons h (paired_map t)
theorem rows_lt {rows new : List Row} {rc : List Nat} {pl : Nat → Option Nat} {t : Nat} (h : (new.map r3i).Pairwise (fun a b => HT.lexLt a b = true)) (hw : ∀ r, r ∈ new → ∃ k, k ∈ rc ∧ tieOf rows k = t ∧ r = rowIn rows pl k ∧ r.2.2 ≠ 0) : new.Pairwise RowLt := by
  have h2 : new.Pairwise (fun a b => HT.lexLt (r3i a) (r3i b) = true) := List.pairwise_map.mp h
  have tie : ∀ r ∈ new, r.1 = t := fun r hr => by
    obtain ⟨k, _, h, e, _⟩ := hw r hr
    rw [e]
    exact h
  refine List.Pairwise.imp_of_mem (fun {a b} ha hb z => ?_) h2
  have ea := tie a ha
  have eb := tie b hb
  obtain ⟨a1, a2, a3⟩ := a
  obtain ⟨b1, b2, b3⟩ := b
  dsimp only at ea eb
  subst ea
  subst eb
  unfold r3i at z
  dsimp only at z
  rw [HT.lexLt_cons, if_pos rfl, HT.lexLt_cons] at z
  refine .inr ⟨rfl, ?_⟩
  dsimp only
  by_cases c : (a2 : Int) = b2
  · rw [if_pos c, HT.lexLt_cons] at z
    by_cases d : (a3 : Int) = b3
    · rw [if_pos d] at z
      cases z
    · rw [if_neg d] at z
      have := of_decide_eq_true z
      exact .inr ⟨by omega, by omega⟩
  · rw [if_neg c] at z
    have := of_decide_eq_true z
    exact .inl (by omega)
section
variable {P : Program} {w : World} {K : PySem.W.Frag} {mg : Str → Option Value} {base : Heap} {f C : Addr} {fd : FuncData}
theorem scGraph : FnScope ["n", "rows", "top", "reached", "numbers", "places", "tie", "layer", "row", "knot"] ["n", "rows", "top"] (defScope sGraph) := ⟨rfl, rfl, rfl, by decide +kernel, rfl, by decide +kernel, by decide +kernel⟩
theorem ok_graph {fR fI fS : Addr} {fdR fdI fdS : FuncData} (F : Fun K "least_graph" "least_graph" sGraph f fd) (T : Txt K mg C) (M : Mk K C fS)
    (GR : FnOk P w K mg base CX0 1 fR fdR ["rows", "top"] (spReach K)) (bR : Binds K fdR ["rows", "top"] []) (kR : PySem.W.keepIn K (.ref fR) = true) (mR : mg "reached_knots" = some (.ref fR))
    (GI : FnOk P w K mg base CX0 1 fI fdI ["places", "row"] (spIn K)) (bI : Binds K fdI ["places", "row"] []) (kI : PySem.W.keepIn K (.ref fI) = true) (mI : mg "row_in_places" = some (.ref fI))
    (GS : FnOk P w K mg base CX0 1 fS fdS ["self", "n", "rows", "head"] (spInit K C)) (bS : Binds K fdS ["self", "n", "rows", "head"] []) :
    FnOk P w K mg base CX0 3 f fd ["n", "rows", "top"] (spGraph K C) := by
  refine F.ok scGraph (fun vs H Q E h => ?_) (fun cdv A outer s H vs Q E hr h => ?_)
  · obtain ⟨l, n, top, rows, rfl, _⟩ := h
    rfl
  obtain ⟨l, n, top, rows, rfl, hL, ok, n12, r72, fw, kt, q⟩ := h
  have hr1 : Room 1 _ := hr.mono (by decide)
  refine ⟨_, pss_cons (ps_set (i := 3) scGraph.nd rfl (Or.inl rfl) (pe_call GR hr1 rfl mR kR bR .nil pass0 (pa_cons (pv 1) (pa_cons (pv 2) pa_nil))))
    (pss_cons (ps_set (i := 4) scGraph.nd rfl (Or.inl rfl) pe_dnewT)
    (pss_cons (ps_set (i := 5) scGraph.nd rfl (Or.inr rfl) (pe_disp (pps_cons pe_int pe_int (pps_cons pe_int pe_int pps_nil)) rfl rfl (by intro z; cases z) (by decide)))
    (pss_cons (ps_for PassesOwn.never rfl (pi_rangeD rfl T.range (pa_cons (pe_op op_sub (pv 0) pe_int) (pa_cons (pe_un un_neg pe_int) (pa_cons (pe_un un_neg pe_int) pa_nil)))) (pg_name (i := 6) scGraph.nd rfl (Or.inr rfl))
      (pss_cons (ps_comp (i := 7) (defScope sGraph) ["knot"] ["places", "rows", "tie"] [5, 1, 6] scGraph.nd rfl (Or.inl rfl) rfl rfl (by decide +kernel) ⟨⟨rfl, by decide +kernel⟩, ⟨rfl, by decide +kernel⟩, ⟨rfl, by decide +kernel⟩, trivial⟩ (pi_list (pv 3))
        (fun _ _ _ => pg_name (i := 0) (show ((["knot"] : List Str) ++ (["places", "rows", "tie"] : List Str)).Nodup by decide +kernel) rfl (Or.inl rfl))
        (fun _ _ _ => pifs_one (pt_cmpR op_eq (pe_ix (ix_anyK (K := K) rfl) (pe_ix (ix_anyK (K := K) rfl) (pv 2) (pe_op op_sub (pv 0) pe_int) (fun _ _ => rfl)) pe_int (fun _ _ => rfl)) (pv 3) (nomark _)))
        (fun _ _ _ => pe_tup (pa_cons (pv 0) (pa_cons (pe_call GI hr1 rfl mI kI bI .nil pass0 (pa_cons (pv 1) (pa_cons (pe_ix (ix_anyK (K := K) rfl) (pv 2) (pe_op op_sub (pv 0) pe_int) (fun _ _ => rfl)) pa_nil))) pa_nil))))
      (pss_cons (ps_for PassesOwn.never rfl (pi_list (pe_sortsetU rfl (un_of hr) rfl T.sorted rfl T.set
          (pe_comp (defScope sGraph) ["knot", "row"] [] [] rfl rfl (by decide +kernel) trivial (pi_list (pv 7))
            (fun _ _ _ => pg_tupK (K := K) (n := 2) rfl rfl (pgs_cons (pg_name (i := 0) (show ((["knot", "row"] : List Str) ++ ([] : List Str)).Nodup by decide +kernel) rfl (Or.inl rfl)) (pgs_cons (pg_name (i := 1) (show ((["knot", "row"] : List Str) ++ ([] : List Str)).Nodup by decide +kernel) rfl (Or.inl rfl)) pgs_nil)))
            (fun _ _ _ => pifs_one (pt_cmpR op_ne (pe_ix (ix_tupK (K := K) rfl) (pv 1) pe_int (fun _ _ => rfl)) pe_int (nomark _)))
            (fun _ _ _ => pv 1)))) (pg_name (i := 8) scGraph.nd rfl (Or.inl rfl))
        (pss_one (ps_dput (un_of hr) (pv 4) (pv 8) (pe_op op_add (pe_callB call_len_dT rfl T.len PySem.boot_len (pa_cons (pv 4) pa_nil)) pe_int) rfl)))
      (pss_one (ps_for PassesOwn.never rfl (pi_list (pv 7)) (pg_tupK (K := K) (n := 2) rfl rfl (pgs_cons (pg_name (i := 9) scGraph.nd rfl (Or.inl rfl)) (pgs_cons (pg_name (i := 8) scGraph.nd rfl (Or.inl rfl)) pgs_nil)))
        (pss_one (ps_dput (un_of hr) (pv 5) (pv 9) (pe_dget2 (un_of hr) (pv 4) (pv 8) (pe_ix ix_tup (pv 8) pe_int (fun _ _ => rfl)) ⟨rfl, rfl, rfl, rfl⟩) rfl)))))))
    (pss_one (ps_ret (pe_make M GS hr rfl T.mgC bS .nil pass0 (pa_cons (pv 0) (pa_cons (pe_callTy (call_list_dT rfl) rfl T.list PyProof.Rows.boot_list (pa_cons (pv 4) pa_nil)) (pa_cons (pe_dget (un_of hr) (pv 5) (pv 2) (fun _ _ => rfl)) pa_nil))))))))), ?_⟩
  refine ⟨_, rfl, _, rfl, l, n, top, rows, rfl, hL, ok, r72, kt, fun R rc H1 s1 nR eR cl tr rl0 par => ?_⟩
  have rl : ∀ t j, (lay rows t rc j).length ≤ 720 := fun t j => Nat.le_trans (rl0 t j) (Nat.le_trans (List.length_filter_le ..) r72)
  refine fun N hN => ?_
  have nN : H N = none := s1.free hN
  have s2 := s1.trans (Same.new hN (.dT []))
  refine fun D hD => ⟨upd_same, [(.inl (0 : Int), .int 0), (.inl (1 : Int), .int 1)], rfl, (by show 2 ≤ 15; decide), ?_⟩
  have nD : H D = none := s2.free hD
  have RN : R ≠ N := ne_of_none eR hN
  have RD : R ≠ D := ne_of_none (show (upd H1 N (.dT [])) R = some (.lst (iN rc)) by rw [upd_ne RN]; exact eR) hD
  have ND : N ≠ D := ne_of_none (show (upd H1 N (.dT [])) N = some (.dT []) from upd_same) hD
  refine ⟨_, rfl, _, _, rfl, rfl, 1, rfl, 1, rfl, (n : Int) - 1, -1, rfl, ⟨by omega, by omega, by omega, by omega⟩, ?_⟩
  refine for_down (lo := (n : Int) - 1) (n := ((n : Int) - 1 - -1).toNat) (fun i σ H2 => ∃ (nums : List Row) (kvs : List (Key × V)) (pl : Nat → Option Nat) (o6 o7 o8 o9 : Option V), σ = [some (.int n), some (.ref l), some (.int top), some (.ref R), some (.ref N), some (.ref D), o6, o7, o8, o9] ∧ Same H H2 ∧
      H2 R = some (.lst (iN rc)) ∧ H2 N = some (.dT (numKV 2 nums)) ∧ H2 D = some (.dK kvs) ∧ PlD kvs pl ∧ Kept2 n (n - i) rows rc nums pl ∧ nums.length ≤ 60 * i ∧ kvs.length ≤ 2 + 720 * i ∧ ∀ t, (nums.filter fun r => decide (r.1 = t)).length ≤ 60)
    ⟨[], _, fun k => if k = 0 then some 0 else if k = 1 then some 1 else none, none, none, none, none, rfl, fun b o e => ?_, ?_, ?_, upd_same, ?_, ?_, by simp, ?_, fun t => Nat.zero_le _⟩ ?_ ?_
  · rw [upd_ne (ne_of_none e nD), upd_ne (ne_of_none e nD)]
    exact s2 b o e
  · rw [upd_ne RD, upd_ne RD, upd_ne RN]
    exact eR
  · rw [upd_ne ND, upd_ne ND, upd_same]
    rfl
  · exact pl_first
  · exact kept2_none fun k hk => (cl.low ok hk).1
  · exact pl_len
  · rintro i σ H2 hi ⟨nums, kvs, pl, o6, o7, o8, o9, rfl, sm, eR2, eN2, eD2, pd, kp, nl, kl, cn⟩
    obtain ⟨t, et, tn, tn', tlt⟩ : ∃ t : Nat, (n : Int) - 1 - i = t ∧ n - i = t + 1 ∧ n - (i + 1) = t ∧ t < n := ⟨n - 1 - i, by omega, by omega, by omega, by omega⟩
    rw [et]
    rw [tn] at kp
    have hL2 := hL.same sm
    refine ⟨_, rfl, R, rfl, ⟨_, SqL.of eR2⟩, fun Y hY => ?_⟩
    have nY : H Y = none := sm.free hY
    refine turns_list (K := K) (a := R) (xs := iN rc) (fun j τ H3 => ∃ (kv : Option V) (ys : List V), τ = [kv, some (.ref D), some (.ref l), some (.int t)] ∧ Same H2 H3 ∧ H3 Y = some (.lst ys) ∧ Paired (LayR rows pl H3) (lay rows t rc j) ys)
      ⟨none, [], rfl, Same.new hY _, upd_same, .nil⟩ (fun j τ H3 _ ⟨_, _, _, s3, _⟩ => s3.seq (SqL.of eR2)) ?_ ?_
    · rintro j x τ H3 hx ⟨kv, ys, rfl, s3, eY, py⟩
      obtain ⟨k, hk, rfl⟩ : ∃ k : Nat, rc[j]? = some k ∧ x = .int (k : Int) := by
        unfold iN at hx
        rw [List.getElem?_map] at hx
        cases g : rc[j]? with
        | none => rw [g] at hx; cases hx
        | some k => rw [g] at hx; cases hx; exact ⟨k, rfl, rfl⟩
      have km := List.mem_of_getElem? hk
      obtain ⟨xs, p, hS, ha, hp⟩ := row_get (hL2.same s3) (cl.knot k km) (cl.two k km)
      refine ⟨_, rfl, _, rfl, _, _, rfl, rfl, ixA hS ha (ixA hp at0 ⟨_, rfl, rfl, _, rfl, ?_⟩)⟩
      refine ite2 (fun c => ?_) (fun c => ?_)
      · have c' : tieOf rows k = t := by
          have := of_decide_eq_true c
          injection this with this
          exact Int.ofNat.inj this
        obtain ⟨a, b, pa, pb, re, _⟩ := kp.base.row cl ok tlt km c'
        have hx' : valV kvs (Sum.inl (((rows.getD (k - 2) (0, 0, 0)).2.1 : Nat) : Int)) = some (.int (a : Int)) := by
          have := pd (outOf rows k)
          rw [pa] at this
          exact this
        have hy' : valV kvs (Sum.inl (((rows.getD (k - 2) (0, 0, 0)).2.2 : Nat) : Int)) = some (.int (b : Int)) := by
          have := pd (intoOf rows k)
          rw [pb] at this
          exact this
        refine ⟨_, rfl, _, rfl, _, rfl, _, rfl, _, _, rfl, rfl, ixA hS ha ⟨D, p, rows.getD (k - 2) (0, 0, 0), a, b, kvs, rfl, s3 _ _ eD2, ⟨p, rfl, hp⟩, hx', hy', fun u hu => ?_⟩⟩
        refine ⟨(by show 2 ≤ sizeLine; decide), fun v hv => ?_⟩
        have er : [V.int ((rows.getD (k - 2) (0, 0, 0)).1 : Nat), V.int (a : Int), V.int (b : Int)] = r3 (rowIn rows pl k) := by
          rw [re, ← c']
          rfl
        rw [er]
        rw [er] at hv
        have su := Same.new hu (.tup (r3 (rowIn rows pl k)))
        have sv := Same.new hv (.tup [.int (k : Int), .ref u])
        have eY2 := sv _ _ (su _ _ eY)
        have ll := rl t j
        have ly : ys.length ≤ 720 := by rw [← Paired.length py]; omega
        have kt : ∀ a xs, (upd (upd H3 u (.tup (r3 (rowIn rows pl k)))) v (.tup [.int (k : Int), .ref u])) a = some (.tup xs) → (upd (upd (upd H3 u (.tup (r3 (rowIn rows pl k)))) v (.tup [.int (k : Int), .ref u])) Y (.lst (ys ++ [.ref v]))) a = some (.tup xs) := fun a xs e => by
          rw [upd_ne (ne_of e eY2 (by intro z; cases z))]; exact e
        refine ⟨_, eY2, small1000 (by omega), _, _, rfl, fun b o e => ?_, upd_same, ?_⟩
        · rw [upd_ne (ne_of_none e hY)]
          exact sv _ _ (su _ _ (s3 b o e))
        · rw [lay_succ hk, if_pos c']
          refine Paired.app (Paired.imp (fun a b r => (r.keeps fun a xs e => sv _ _ (su _ _ e)).keeps kt) py) (Paired.one ⟨v, u, rfl, kt _ _ upd_same, kt _ _ (sv _ _ upd_same)⟩)
      · have c' : ¬ tieOf rows k = t := fun e => c (decide_eq_true (by show V.int ((tieOf rows k : Nat) : Int) = V.int (t : Int); rw [e]))
        refine ⟨_, _, rfl, s3, eY, ?_⟩
        rw [lay_succ hk, if_neg c', List.append_nil]
        exact py
    · rintro τ H3 ⟨kv, ys, rfl, s3, eY, py⟩
      have rcl : (iN rc).length = rc.length := List.length_map ..
      rw [rcl] at py
      have ll := rl t rc.length
      have ly : ys.length ≤ 720 := by rw [← Paired.length py]; omega
      refine ⟨_, rfl, Y, rfl, ⟨_, SqL.of eY⟩, fun Z hZ => ?_⟩
      refine turns_list (K := K) (a := Y) (xs := ys) (fun j τ H4 => ∃ (o1 o2 : Option V) (zs : List V), τ = [o1, o2] ∧ Same H3 H4 ∧ H4 Z = some (.lst zs) ∧ Paired (RowR H4) (sel rows pl (lay rows t rc rc.length) j) zs)
        ⟨none, none, [], rfl, Same.new hZ _, upd_same, .nil⟩ (fun j τ H4 _ ⟨_, _, _, _, s4, _⟩ => s4.seq (SqL.of eY)) ?_ ?_
      · rintro j x τ H4 hx ⟨o1, o2, zs, rfl, s4, eZ, pz⟩
        obtain ⟨k, hk, u, b, rfl, hu, hb⟩ := Paired.get py hx
        have hu4 := s4 _ _ hu
        have hb4 := s4 _ _ hb
        refine ⟨u, _, rfl, SqT.of hu4, rfl, _, _, rfl, _, _, rfl, rfl, ?_⟩
        refine ⟨_, rfl, b, _, _, _, rfl, rfl, SqT.of hb4, at2, rfl, _, rfl, ?_⟩
        have zl : zs.length ≤ 720 := by rw [← Paired.length pz]; exact Nat.le_trans (sel_len _ _ _ _) (by omega)
        refine ite2 (fun c => ?_) (fun c => ?_)
        · have c' : (rowIn rows pl k).2.2 ≠ 0 := fun e => by
            rw [e] at c
            exact absurd c (by decide)
          refine ⟨_, rfl, _, eZ, small1000 (by omega), _, _, _, rfl, fun b o e => ?_, upd_same, ?_⟩
          · rw [upd_ne (ne_of_none e hZ)]
            exact s4 b o e
          · rw [sel_succ hk, if_pos c']
            have kz : ∀ a xs, H4 a = some (.tup xs) → (upd H4 Z (.lst (zs ++ [.ref b]))) a = some (.tup xs) := fun a xs e => by rw [upd_ne (ne_of e eZ (by intro z; cases z))]; exact e
            exact Paired.app (Paired.imp (fun a b r => r.keeps kz) pz) (Paired.one ⟨b, rfl, kz _ _ hb4⟩)
        · have c' : (rowIn rows pl k).2.2 = 0 := by
            rcases Nat.eq_zero_or_pos (rowIn rows pl k).2.2 with e | e
            · exact e
            · exact absurd (by rw [decide_eq_false (fun z => by injection z with z; omega)]; rfl) c
          refine ⟨_, _, _, rfl, s4, eZ, ?_⟩
          rw [sel_succ hk, if_neg (fun z => z c'), List.append_nil]
          exact pz
      · rintro τ H4 ⟨o1, o2, zs, rfl, s4, eZ, pz⟩
        rw [← Paired.length py] at pz
        have zl : (sel rows pl (lay rows t rc rc.length) (lay rows t rc rc.length).length).length ≤ 720 := Nat.le_trans (sel_len _ _ _ _) (by omega)
        refine ⟨Z, zs, (sel rows pl (lay rows t rc rc.length) (lay rows t rc rc.length).length).map r3i, rfl, SqL.of eZ, paired_map (Paired.imp (fun r v ⟨b, e, hb⟩ => by rw [e]; exact rPair_of (ns := r3i r) hb) pz), fun ms nd hm => ?_, fun r hr => ?_, fun S ys' ms hS so mem pr pw => ?_⟩
        · obtain ⟨new, rfl⟩ := back_rows ms fun m hm' => by
            obtain ⟨r', _, e⟩ := List.mem_map.mp (hm m hm')
            exact ⟨r', e.symm⟩
          rw [List.length_map]
          refine fw.sel kp cl ok tlt par new ((List.pairwise_map.mp nd).imp fun h e => h (by rw [e])) fun r hr => ?_
          obtain ⟨r', h1, h2⟩ := List.mem_map.mp (hm _ (List.mem_map_of_mem hr))
          rw [r3i_inj h2] at h1
          obtain ⟨k, h1, h2, h3⟩ := mem_sel.mp h1
          obtain ⟨h4, h5⟩ := mem_lay.mp h1
          exact ⟨k, h4, h5, h2, h3⟩
        · obtain ⟨r', _, rfl⟩ := List.mem_map.mp hr
          exact fun z => by cases z
        obtain ⟨new, rfl⟩ := back_rows ms fun m hm => by
          obtain ⟨r', _, e⟩ := List.mem_map.mp ((mem m).mp hm)
          exact ⟨r', e.symm⟩
        have nd := nodup_lex so
        have inNew : ∀ r ∈ new, r ∈ sel rows pl (lay rows t rc rc.length) (lay rows t rc rc.length).length := fun r hr => by
          obtain ⟨r', h1, h2⟩ := List.mem_map.mp ((mem (r3i r)).mp (List.mem_map_of_mem hr))
          rw [← r3i_inj h2]
          exact h1
        have hw : ∀ r, r ∈ new → ∃ k, k ∈ rc ∧ tieOf rows k = t ∧ r = rowIn rows pl k ∧ r.2.2 ≠ 0 := fun r hr => by
          obtain ⟨k, h1, h2, h3⟩ := mem_sel.mp (inNew r hr)
          obtain ⟨h4, h5⟩ := mem_lay.mp h1
          exact ⟨k, h4, h5, h2, h3⟩
        have hw2 : ∀ k ∈ rc, tieOf rows k = t → (rowIn rows pl k).2.2 ≠ 0 → rowIn rows pl k ∈ new := fun k hk hkt w0 => by
          have h0 : r3i (rowIn rows pl k) ∈ new.map r3i := (mem _).mpr (List.mem_map_of_mem (mem_sel.mpr ⟨k, mem_lay.mpr ⟨hk, hkt⟩, rfl, w0⟩))
          obtain ⟨r', h1, h2⟩ := List.mem_map.mp h0
          rw [← r3i_inj h2]
          exact h1
        have newl : new.length ≤ 60 := fw.sel kp cl ok tlt par new nd hw
        have ly' : ys'.length = new.length := by rw [← Paired.length pr, List.length_map]
        have sS := Same.new hS (.lst ys')
        have eN4 := sS _ _ (s4 _ _ (s3 _ _ eN2))
        have eD4 := sS _ _ (s4 _ _ (s3 _ _ eD2))
        have eR4 := sS _ _ (s4 _ _ (s3 _ _ eR2))
        have eY4 := sS _ _ (s4 _ _ eY)
        have SN : S ≠ N := ne_of (show (upd H4 S (.lst ys')) S = some (.lst ys') from upd_same) eN4 (by intro z; cases z)
        refine ⟨S, rfl, ⟨_, SqL.of upd_same⟩, ?_⟩
        refine for_list (K := K) (a := S) (xs := ys') (fun j σ H5 => ∃ o8 : Option V, σ = [some (.int n), some (.ref l), some (.int top), some (.ref R), some (.ref N), some (.ref D), some (.int t), some (.ref Y), o8, o9] ∧ (∀ b o, b ≠ N → (upd H4 S (.lst ys')) b = some o → H5 b = some o) ∧
            H5 N = some (.dT (numKV 2 (nums ++ new.take j)))) ⟨o8, rfl, fun b o _ e => e, by rw [List.take_zero, List.append_nil]; exact eN4⟩ (fun j σ H5 _ ⟨_, _, k5, _⟩ => SqL.of (k5 _ _ SN upd_same)) ?_ ?_
        · rintro j x σ H5 hx ⟨o8, rfl, k5, eN5⟩
          obtain ⟨m, hm, i', hi1, hi2⟩ := Paired.get pw hx
          obtain ⟨r, hr, rfl⟩ : ∃ r, new[j]? = some r ∧ m = r3i r := by
            rw [List.getElem?_map] at hm
            cases g : new[j]? with
            | none => rw [g] at hm; cases hm
            | some r => rw [g] at hm; cases hm; exact ⟨r, rfl, rfl⟩
          obtain ⟨r', hr', b, rfl, hb⟩ := Paired.get pz hi2
          have er : r' = r := by
            rw [List.getElem?_map, hr'] at hi1
            exact r3i_inj (Option.some.inj hi1)
          subst er
          have bN : b ≠ N := ne_of (sS _ _ hb) eN4 (by intro z; cases z)
          have hb5 := k5 _ _ bN (sS _ _ hb)
          have rn : r' ∉ nums ++ new.take j := fun hm => by
            rcases List.mem_append.mp hm with hm | hm
            · have := kp.base.ge r' hm
              obtain ⟨k, _, h5, h2, _⟩ := hw r' (List.mem_of_getElem? hr)
              rw [h2] at this
              have e : (rowIn rows pl k).1 = tieOf rows k := rfl
              omega
            · obtain ⟨j', hj'⟩ := List.mem_iff_getElem?.mp hm
              rw [List.getElem?_take] at hj'
              split at hj'
              · have := (List.getElem?_inj (List.getElem?_eq_some_iff.mp hj').1 nd).mp (hj'.trans hr.symm)
                omega
              · cases hj'
          have nl2 : (nums ++ new.take j).length ≤ 60 * 13 := by
            rw [List.length_append, List.length_take]
            omega
          refine ⟨_, rfl, N, _, rfl, eN5, _, _, rfl, rfl, _, rfl, _, rfl, N, _, rfl, .inr ⟨_, ik3 r', b, eN5, rfl, hb5, by rw [numKV_len]; exact small1000 (by omega), rfl⟩, ?_⟩
          refine ⟨_, rfl, fun b o hb e => by rw [upd_ne hb]; exact k5 b o hb e, ?_⟩
          rw [upd_same, numKV_put rn, List.take_add_one, hr]
          rw [List.append_assoc]
          rfl
        · rintro σ H5 ⟨o8, rfl, k5, eN5⟩
          rw [ly', List.take_length] at eN5
          have DN : D ≠ N := ne_of eD4 eN4 (by intro z; cases z)
          have RN4 : R ≠ N := ne_of eR4 eN4 (by intro z; cases z)
          have YN : Y ≠ N := ne_of eY4 eN4 (by intro z; cases z)
          have eD5 := k5 _ _ DN eD4
          have eR5 := k5 _ _ RN4 eR4
          have eY5 := k5 _ _ YN eY4
          have YD : Y ≠ D := ne_of eY5 eD5 (by intro z; cases z)
          refine ⟨_, rfl, Y, rfl, ⟨_, SqL.of eY5⟩, ?_⟩
          refine for_list (K := K) (a := Y) (xs := ys) (fun j σ H6 => ∃ (o8 o9 : Option V) (kvs' : List (Key × V)), σ = [some (.int n), some (.ref l), some (.int top), some (.ref R), some (.ref N), some (.ref D), some (.int t), some (.ref Y), o8, o9] ∧ (∀ b o, b ≠ D → H5 b = some o → H6 b = some o) ∧
              H6 D = some (.dK kvs') ∧ PlD kvs' (plOf pl (placeOf rows pl (nums ++ new)) ((lay rows t rc rc.length).take j)) ∧ kvs'.length ≤ kvs.length + j) ⟨o8, o9, kvs, rfl, fun b o _ e => e, eD5, ?_, by omega⟩ (fun j σ H6 _ ⟨_, _, _, _, k6, _⟩ => SqL.of (k6 _ _ YD eY5)) ?_ ?_
          · intro k
            rw [pd k]
            unfold plOf
            rw [if_neg (by simp)]
          · rintro j x σ H6 hx ⟨o8, o9, kvs', rfl, k6, eD6, pd6, kl6⟩
            obtain ⟨k, hk, u, b, rfl, hu, hb⟩ := Paired.get py hx
            have up : ∀ a xs, H3 a = some (.tup xs) → H6 a = some (.tup xs) := fun a xs e => by
              have e4 := sS _ _ (s4 _ _ e)
              have e5 := k5 _ _ (ne_of e4 eN4 (by intro z; cases z)) e4
              exact k6 _ _ (ne_of e5 eD5 (by intro z; cases z)) e5
            have eN6 := k6 _ _ (Ne.symm DN) eN5
            have jl : j < ys.length := (List.getElem?_eq_some_iff.mp hx).1
            refine ⟨u, _, rfl, SqT.of (up _ _ hu), rfl, _, _, rfl, _, _, rfl, rfl, ?_⟩
            refine ⟨_, rfl, N, rfl, .inr ⟨_, .inl eN6⟩, _, rfl, _, rfl, b, _, _, _, rfl, rfl, SqT.of (up _ _ hb), at1, _, DGet.t (k := ik3 (rowIn rows pl k)) eN6 (up _ _ hb), ?_⟩
            refine ⟨_, rfl, _, rfl, D, _, rfl, .inl ⟨kvs', Sum.inl (k : Int), eD6, rfl, smallN (by omega), rfl⟩, ?_⟩
            have ev : (valV (numKV 2 (nums ++ new)) (ik3 (rowIn rows pl k))).getD (V.int ((rowIn rows pl k).2.1 : Nat)) = V.int ((placeOf rows pl (nums ++ new) k : Nat) : Int) := by
              rw [numKV_val]
              unfold placeOf
              cases numOf 2 (nums ++ new) (rowIn rows pl k) <;> rfl
            rw [ev]
            refine ⟨_, _, _, rfl, fun b o hb e => by rw [upd_ne hb]; exact k6 b o hb e, upd_same, ?_, by have := length_putK kvs' (Sum.inl (k : Int)) (V.int ((placeOf rows pl (nums ++ new) k : Nat) : Int)); omega⟩
            rw [List.take_add_one, hk]
            exact PlD.put pd6
          · rintro σ H6 ⟨o8, o9, kvs', rfl, k6, eD6, pd6, kl6⟩
            rw [← Paired.length py, List.take_length] at pd6
            refine ⟨nums ++ new, kvs', _, _, _, _, _, rfl, fun b o e => ?_, k6 _ _ (ne_of eR5 eD5 (by intro z; cases z)) eR5, k6 _ _ (Ne.symm DN) eN5, eD6, pd6, ?_, by rw [List.length_append]; omega, by omega, fun t1 => ?_⟩
            · have e4 := sS _ _ (s4 _ _ (s3 _ _ (sm b o e)))
              exact k6 _ _ (ne_of_none e nD) (k5 _ _ (ne_of_none e nN) e4)
            · rw [tn']
              refine kp.step cl ok tlt hw nd hw2 (rows_lt so hw) (fun k hk => ?_) (fun k hk ht => ?_)
              · unfold plOf
                rw [if_neg (fun z => by
                  obtain ⟨z1, z2⟩ := mem_lay.mp z
                  rcases hk with hk | hk
                  · exact hk z1
                  · exact hk z2)]
              · refine ⟨placeOf rows pl (nums ++ new) k, by unfold plOf; rw [if_pos (mem_lay.mpr ⟨hk, ht⟩)], ?_⟩
                unfold placeOf
                cases g : numOf 2 (nums ++ new) (rowIn rows pl k) with
                | some m =>
                  obtain ⟨j, h1, h2⟩ := numOf_some _ _ _ _ g
                  exact .inl ⟨j, h1, by show m = j + 2; omega⟩
                | none => exact .inr ⟨numOf_none _ _ _ g, rfl⟩
            · rw [List.filter_append, List.length_append]
              by_cases c : t1 = t
              · rw [List.filter_eq_nil_iff.mpr fun r hr z => by
                  have := kp.base.ge r hr
                  have := of_decide_eq_true z
                  omega]
                have := List.length_filter_le (fun r : Row => decide (r.1 = t1)) new
                simp only [List.length_nil]
                omega
              · rw [List.filter_eq_nil_iff (l := new) |>.mpr fun r hr z => by
                  obtain ⟨k, _, h5, h2, _⟩ := hw r hr
                  have := of_decide_eq_true z
                  rw [h2] at this
                  have e : (rowIn rows pl k).1 = tieOf rows k := rfl
                  omega]
                exact cn t1
  · rintro σ H2 ⟨nums, kvs, pl, o6, o7, o8, o9, rfl, sm, eR2, eN2, eD2, pd, kp, nl, kl, cn⟩
    have e0 : n - ((n : Int) - 1 - -1).toNat = 0 := by omega
    rw [e0] at kp
    have ht : ∃ p : Nat, pl top = some p := by
      rcases tr with h | h
      · have : top = 0 ∨ top = 1 := by omega
        rcases this with rfl | rfl
        · exact ⟨0, kp.base.z⟩
        · exact ⟨1, kp.base.o⟩
      · obtain ⟨p, hp, _⟩ := kp.base.has top h (Nat.zero_le _)
        exact ⟨p, hp⟩
    obtain ⟨hd, ehd⟩ := ht
    refine ⟨_, rfl, _, rfl, N, _, rfl, eN2, fun A0 ys hA kL => ?_⟩
    have sA := Same.new hA (.lst ys)
    refine ⟨_, rfl, _, rfl, D, .int hd, rfl, ?_, ?_⟩
    · have := DGet.k (k := .inl (top : Int)) (sA _ _ eD2)
      rw [pd top, ehd] at this
      exact this
    · intro x dx hx hdx ne
      have hx2 : (upd (upd H2 A0 (.lst ys)) dx (.own x)) x = none := by rw [upd_ne (Ne.symm ne)]; exact hx
      have s4 := (Same.new hdx (.own x)).trans (Same.new hx2 (.ins C dx []))
      refine ⟨x, dx, A0, n, hd, ys, nums, rfl, upd_same, s4.seq (SqL.of upd_same), Paired.imp (fun a b r => trep_row _ _ _ _ s4.ts (trep_row _ _ _ _ sA.ts r)) (keys_rows kL), fun H' hs sv => ⟨rfl, q x nums hd H' (fun b o e => ?_) sv (kp.canon cl ok tr ehd par).1 (kp.canon cl ok tr ehd par).2 ⟨by omega, kept2_len kp cl, cn⟩⟩⟩
      have e1 := s4 _ _ (sA _ _ (sm b o e))
      refine hs b o e1 fun z => ?_
      rw [z] at e
      have := sA _ _ (sm _ o e)
      rw [hx] at this
      cases this
end
end K55s
end
section
namespace K55s
open PySem L2 G
theorem tsX {H H' : Hp} {R : Addr} {xs : List V} (e : ∀ b o, b ≠ R → H b = some o → H' b = some o) (hR : H R = some (.lst xs)) : TSm H H' := fun b u hb t => e b u (fun z => by
  subst z
  rw [hR] at hb
  cases hb
  obtain ⟨ys, e | ⟨o, e⟩⟩ := t
  · cases e
  · cases e) hb
theorem take_snoc {α : Type} {l : List α} {i : Nat} {x : α} (h : l[i]? = some x) : l.take (i + 1) = l.take i ++ [x] := by rw [List.take_add_one, h]; rfl
theorem flat_ints : ∀ ns : List Int, (ns.map V.int).all flatV = true
  | [] => rfl
  | _ :: r => flat_ints r
theorem flds_no (z : Int) (j : Addr) (h : Int) {m : Str} (h1 : ¬ m = "head") (h2 : ¬ m = "rows") (h3 : ¬ m = "amount") : (flds z j h).lookup m = none := by
  unfold flds
  rw [lookup_putF, if_neg h1, lookup_putF, if_neg h2, lookup_putF, if_neg h3]
  all_goals rfl
theorem op_addTK {X : Cx} {K : PySem.W.Frag} (hK : X.K = K) : OpR X (binaryOp .Add) (rAddT K) := by subst hK; exact op_addT
theorem ok_take {n : Nat} {rows : List Row} (o : Ok n rows) (j : Nat) : Ok n (rows.take j) := fun i q e => by
  have il := (List.getElem?_eq_some_iff.mp e).1
  have ij : i < j := by rw [List.length_take] at il; omega
  obtain ⟨h1, h2, h3⟩ := o i q (by rw [List.getElem?_take_of_lt ij] at e; exact e)
  have low : ∀ l, Low rows q.1 (i + 2) l → Low (rows.take j) q.1 (i + 2) l := fun l ⟨a, b⟩ => ⟨a, b.imp id fun ⟨u, e, z⟩ => ⟨u, by rw [List.getElem?_take_of_lt (by omega)]; exact e, z⟩⟩
  exact ⟨h1, low _ h2, low _ h3⟩
theorem ord_len {n : Nat} {rows : List Row} {k : Nat} {L : List (List Nat)} (I : InOrder n rows k L) : L.length ≤ 2 ^ n := by
  have h : (L.map (num n)).Pairwise (· < ·) := by rw [List.pairwise_map]; exact I.ord
  have z := ST.len_of_sub (l₁ := L.map (num n)) (l₂ := List.range (2 ^ n)) (h.imp fun {a b} h => Nat.ne_of_lt h) fun x hx => by
    obtain ⟨s, hs, rfl⟩ := List.mem_map.mp hx
    obtain ⟨w1, w2⟩ := I.way s hs
    have := num_lt (n := n) (t := 0) w1 fun x hx => ⟨Nat.zero_le _, (w2 x hx).2⟩
    exact List.mem_range.mpr this
  rw [List.length_map, List.length_range] at z
  exact z
theorem set_len {n : Nat} {s : List Nat} (h : s.Pairwise (· < ·)) (hs : ∀ x ∈ s, x < n) : s.length ≤ n := by
  have z := ST.len_of_sub (l₁ := s) (l₂ := List.range n) (h.imp fun {a b} h => Nat.ne_of_lt h) fun x hx => List.mem_range.mpr (hs x hx)
  rw [List.length_range] at z
  exact z
theorem pow12 {n : Nat} (h : n ≤ 12) : 2 ^ n ≤ 4096 := Nat.pow_le_pow_right (by decide) h
def rTies (K : PySem.W.Frag) (H : Hp) (s : List Nat) (v : V) : Prop := ∃ p, v = .ref p ∧ H p = some (.tup ((up s).map V.int))
theorem ties_ts {K : PySem.W.Frag} {H H' : Hp} {ss : List (List Nat)} {ys : List V} (t : TSm H H') (h : Paired (rTies K H) ss ys) : Paired (rTies K H') ss ys := Paired.imp (fun _ _ ⟨p, e, hp⟩ => ⟨p, e, t p _ hp ⟨_, .inl rfl⟩⟩) h
def rSets (K : PySem.W.Frag) (H0 : Hp) (S : Addr) (H : Hp) (ss : List (List Nat)) (v : V) : Prop := ∃ p ys, v = .ref p ∧ H0 p = none ∧ p ≠ S ∧ H p = some (.lst ys) ∧ Paired (rTies K H) ss ys
theorem sets_keep {K : PySem.W.Frag} {H0 : Hp} {S : Addr} {H H' : Hp} {xs : List V} {ss : List (List Nat)} {v : V} (e : ∀ b o, b ≠ S → H b = some o → H' b = some o) (hS : H S = some (.lst xs)) (h : rSets K H0 S H ss v) : rSets K H0 S H' ss v := by
  obtain ⟨p, ys, rfl, h0, ne, hp, pr⟩ := h
  exact ⟨p, ys, rfl, h0, ne, e _ _ ne hp, ties_ts (tsX e hS) pr⟩
def spSets (K : PySem.W.Frag) (C : Addr) : Sp := fun vs H Q _ => ∃ (p : Addr) (n hd : Nat) (rows : List Row), vs = [.ref p] ∧ SvAt K C H p n rows hd ∧ Ok n rows ∧ Knot rows hd ∧ n ≤ 12 ∧ rows.length ≤ 900 ∧
  ∀ (L : Addr) (ys : List V) (H' : Hp), Same H H' → H L = none → H' L = some (.lst ys) → Paired (rTies K H') (setsOf rows hd) ys → Q (.ref L) H'
section
variable {P : Program} {w : World} {K : PySem.W.Frag} {mg : Str → Option Value} {base : Heap} {f C : Addr} {fd : FuncData}
theorem scSets : FnScope ["sieve", "sets", "row"] ["sieve"] (defScope sSets) := ⟨rfl, rfl, rfl, by decide +kernel, rfl, by decide +kernel, by decide +kernel⟩
theorem ok_sets {fK fT : Addr} {fdK fdT : FuncData} (F : Fun K "sets_of" "sets_of" sSets f fd) (T : Txt K mg C)
    (GK : FnOk P w K mg base CX0 1 fK fdK ["self"] (spKnots K C)) (bK : Binds K fdK ["self"] []) (mK : Meth K C "knots" fK)
    (GT : FnOk P w K mg base CX0 1 fT fdT ["self"] (spTop K C)) (bT : Binds K fdT ["self"] []) (mT : Meth K C "top" fT) :
    FnOk P w K mg base CX0 2 f fd ["sieve"] (spSets K C) := by
  refine F.ok scSets (fun vs H Q E h => ?_) (fun cdv A outer s H vs Q E hr h => ?_)
  · obtain ⟨p, n, hd, rows, rfl, _⟩ := h
    rfl
  obtain ⟨p, n, hd, rows, rfl, hV, ok, kn, n12, r9, q⟩ := h
  have hr1 : Room 1 _ := hr.mono (by decide)
  refine ⟨_, pss_cons (ps_set (i := 1) scSets.nd rfl (Or.inl rfl) (pe_lst (pa_cons (pe_lst pa_nil) (pa_cons (pe_lst (pa_cons (pe_tup pa_nil) pa_nil)) pa_nil))))
    (pss_cons (ps_for PassesOwn.never rfl (pi_list (pe_meth0 (pv 0) T.cl mK GK hr1 bK .nil pass0)) (pg_name (i := 2) scSets.nd rfl (Or.inr rfl))
      (pss_one (ps_expr (pe_bm PySem.F.plainAttrs_list PySem.F.slot_list_append PySem.F.type_list_append mt_append (pv 1) (pa_cons (pe_op op_addL (pe_ix ix_list (pv 1) (pe_ix ix_tup (pv 2) pe_int (fun _ _ => rfl)) (fun _ _ => rfl))
        (pe_comp (defScope sSets) ["some"] ["row"] [2] rfl rfl (by decide +kernel) ⟨⟨rfl, by decide +kernel⟩, trivial⟩ (pi_list (pe_ix ix_list (pv 1) (pe_ix ix_tup (pv 2) pe_int (fun _ _ => rfl)) (fun _ _ => rfl)))
          (fun _ _ _ => pg_name (i := 0) (show ((["some"] : List Str) ++ (["row"] : List Str)).Nodup by decide +kernel) rfl (Or.inl rfl)) (fun _ _ _ => pifs_nil)
          (fun _ _ _ => pe_op (op_addTK (K := K) rfl) (pe_tup (pa_cons (pe_ix (ix_tupK (K := K) rfl) (pv 1) pe_int (fun _ _ => rfl)) pa_nil)) (pv 0)))) pa_nil)))))
    (pss_one (ps_ret (pe_ix ix_list (pv 1) (pe_meth0 (pv 0) T.cl mT GT hr1 bT .nil pass0) (fun _ _ => rfl))))), ?_⟩
  obtain ⟨dx, jj, hp, _⟩ := id hV
  refine ⟨Nat.zero_le _, fun L0 hL0 => ⟨Nat.zero_le _, fun T0 hT0 => ⟨(by show 1 ≤ sizeLine; decide), fun L1 hL1 => ⟨(by show 2 ≤ sizeLine; decide), fun S hS => ?_⟩⟩⟩⟩
  have sA := Same.new hL0 (.lst [])
  have sB := Same.new hT0 (.tup [])
  have sC := Same.new hL1 (.lst [.ref T0])
  have sD := Same.new hS (.lst [.ref L0, .ref L1])
  have s0 := sA.trans (sB.trans (sC.trans sD))
  have hSn : H S = none := by
    rcases h : H S with _ | o
    · rfl
    · rw [(sA.trans (sB.trans sC)) _ _ h] at hS
      cases hS
  have n1 : H L1 = none := by
    rcases h : H L1 with _ | o
    · rfl
    · rw [(sA.trans sB) _ _ h] at hL1
      cases hL1
  have e0 := (sB.trans (sC.trans sD)) _ _ (upd_same (H := H) (a := L0) (o := .lst []))
  have eT := (sC.trans sD) _ _ (upd_same (H := upd H L0 (.lst [])) (a := T0) (o := .tup []))
  have e1 := sD _ _ (upd_same (H := upd (upd H L0 (.lst [])) T0 (.tup [])) (a := L1) (o := .lst [.ref T0]))
  have eS : (upd (upd (upd (upd H L0 (.lst [])) T0 (.tup [])) L1 (.lst [.ref T0])) S (.lst [.ref L0, .ref L1])) S = some (.lst [.ref L0, .ref L1]) := upd_same
  have neS0 : L0 ≠ S := ne_of_none ((sB.trans sC) _ _ (upd_same (H := H) (a := L0) (o := .lst []))) hS
  have neS1 : L1 ≠ S := ne_of_none (upd_same (H := upd (upd H L0 (.lst [])) T0 (.tup [])) (a := L1) (o := .lst [.ref T0])) hS
  generalize upd (upd (upd (upd H L0 (.lst [])) T0 (.tup [])) L1 (.lst [.ref T0])) S (.lst [.ref L0, .ref L1]) = H1 at s0 e0 eT e1 eS
  refine ⟨_, rfl, p, dx, _, rfl, s0 _ _ hp, flds_no _ _ _ (by decide +kernel) (by decide +kernel) (by decide +kernel), p, n, hd, rows, rfl, hV.same s0, fun l ys H2 s2 hl el px => ?_⟩
  have lS : l ≠ S := fun e => by
    rw [e, eS] at hl
    cases hl
  have lx := Paired.length px
  refine ⟨l, rfl, ⟨_, SqL.of el⟩, ?_⟩
  refine for_list (K := K) (a := l) (xs := ys) (fun i σ H3 => ∃ (o : Option V) (xs : List V), σ = [some (.ref p), some (.ref S), o] ∧ (∀ b u, b ≠ S → H2 b = some u → H3 b = some u) ∧ H3 S = some (.lst xs) ∧ Paired (rSets K H S H3) (setsUp (rows.take i)) xs)
    ⟨none, _, rfl, fun b u _ e => e, s2 _ _ eS, ?_⟩ (fun i σ H3 _ ⟨_, _, _, sm, _, _⟩ => SqL.of (sm _ _ lS el)) ?_ ?_
  · exact .cons ⟨L0, [], rfl, hL0, neS0, s2 _ _ e0, .nil⟩ (.cons ⟨L1, [.ref T0], rfl, n1, neS1, s2 _ _ e1, Paired.one ⟨T0, rfl, s2 _ _ eT⟩⟩ .nil)
  · rintro i x σ H3 hx ⟨o, xs, rfl, sm, eS3, pS⟩
    have il : i < rows.length := by rw [lx]; exact (List.getElem?_eq_some_iff.mp hx).1
    obtain ⟨r, hr', b, rfl, hb⟩ := Paired.get px hx
    have hb3 := (tsX sm (s2 _ _ eS)).seq hb
    have okt := ok_take ok i
    have lt : (rows.take i).length = i := by rw [List.length_take]; omega
    obtain ⟨t1, lo1, lo2⟩ := ok i r hr'
    have kno : Knot (rows.take i) r.2.1 := by
      have := lo1.1
      show r.2.1 < _
      rw [lt]; omega
    have kni : Knot (rows.take i) r.2.2 := by
      have := lo2.1
      show r.2.2 < _
      rw [lt]; omega
    have IO := in_order _ _ rfl okt _ kno
    have II := in_order _ _ rfl okt _ kni
    have lO := ord_len IO
    have lI := ord_len II
    have p12 := pow12 n12
    have lxs := Paired.length pS
    rw [setsUp_len, lt] at lxs
    have at_ : ∀ k, Knot (rows.take i) k → ∃ v, xs[k]? = some v ∧ rSets K H S H3 (setsOf (rows.take i) k) v := fun k hk => by
      have kl : k < (setsUp (rows.take i)).length := by rw [setsUp_len]; exact hk
      obtain ⟨v, h1, h2⟩ := Paired.getL pS (List.getElem?_eq_getElem kl)
      refine ⟨v, h1, ?_⟩
      unfold setsOf
      rw [List.getD_eq_getElem?_getD, List.getElem?_eq_getElem kl]
      exact h2
    obtain ⟨_, hvo, Lo, yo, rfl, o0, oS, eo, po⟩ := at_ _ kno
    obtain ⟨_, hvi, Li, yi, rfl, i0, iS, ei, pi_⟩ := at_ _ kni
    have lyo := Paired.length po
    have lyi := Paired.length pi_
    refine ⟨_, rfl, .inl ⟨rfl, _, SqL.of eS3⟩, _, rfl, _, rfl, b, _, _, _, rfl, rfl, hb3, at1, S, _, _, _, rfl, rfl, SqL.of eS3, atI_nat hvo, ?_⟩
    refine ⟨_, rfl, _, rfl, b, _, _, _, rfl, rfl, hb3, at2, S, _, _, _, rfl, rfl, SqL.of eS3, atI_nat hvi, Li, rfl, ⟨_, SqL.of ei⟩, fun D hD => ?_⟩
    refine turns_list (K := K) (a := Li) (xs := yi) (fun j τ H4 => ∃ (o : Option V) (zs : List V), τ = [o, some (.ref b)] ∧ Same H3 H4 ∧ H4 D = some (.lst zs) ∧ Paired (rTies K H4) (((setsOf (rows.take i) r.2.2).take j).map (r.1 :: ·)) zs) ⟨none, [], rfl, Same.new hD _, upd_same, .nil⟩ (fun j τ H4 _ ⟨_, _, _, s3, _⟩ => s3.seq (SqL.of ei)) ?_ ?_
    · rintro j y τ H4 hy ⟨o, zs, rfl, s4, eD, pz⟩
      obtain ⟨u, hu, ru⟩ := Paired.get pi_ hy
      have jl : j < (setsOf (rows.take i) r.2.2).length := (List.getElem?_eq_some_iff.mp hu).1
      obtain ⟨w1, w2⟩ := II.way u (List.mem_of_getElem? hu)
      have ul := set_len w1 fun x hx => (w2 x hx).2
      obtain ⟨c, rfl, hc0⟩ := ru
      have hc : SqT K H4 c ((up u).map V.int) := SqT.of (s4 _ _ hc0)
      have hb4 := s4.ts.seq hb3
      have lz := Paired.length pz
      rw [List.length_map, List.length_take] at lz
      refine ⟨_, rfl, b, _, _, _, rfl, rfl, hb4, at0, (by show 1 ≤ sizeLine; decide), fun T1 hT1 => ?_⟩
      have s5 := Same.new hT1 (.tup [.int (r.1 : Int)])
      have hc5 := s5.ts.seq hc
      have eT1 : (upd H4 T1 (.tup [.int (r.1 : Int)])) T1 = some (.tup [.int (r.1 : Int)]) := upd_same
      have fin : ∀ (c2 : Addr) (H6 : Hp), Same H4 H6 → H6 c2 = some (.tup ((up (r.1 :: u)).map V.int)) → ∃ ys, H6 D = some (.lst ys) ∧ ys.length < sizeLine ∧ ∃ (o : Option V) (zs : List V), [some (V.ref c), some (V.ref b)] = [o, some (V.ref b)] ∧ Same H3 (upd H6 D (.lst (ys ++ [.ref c2]))) ∧ (upd H6 D (.lst (ys ++ [.ref c2]))) D = some (.lst zs) ∧ Paired (rTies K (upd H6 D (.lst (ys ++ [.ref c2])))) (((setsOf (rows.take i) r.2.2).take (j + 1)).map (r.1 :: ·)) zs := fun c2 H6 s6 h6 => by
        have eD6 := s6 _ _ eD
        have tl := TSm.lst (o := .lst (zs ++ [.ref c2])) eD6
        refine ⟨zs, eD6, Nat.lt_of_le_of_lt (show zs.length ≤ 4096 by omega) (by decide), _, _, rfl, fun b' o' e' => ?_, upd_same, ?_⟩
        · rw [upd_ne (ne_of_none e' hD)]
          exact s6 _ _ (s4 b' o' e')
        · rw [take_snoc hu, List.map_append]
          exact Paired.app (ties_ts tl (ties_ts s6.ts pz)) (Paired.one (show rTies K _ (r.1 :: u) (.ref c2) from ⟨c2, rfl, tl _ _ h6 ⟨_, .inl rfl⟩⟩))
      refine ⟨_, rfl, T1, c, _, _, rfl, rfl, SqT.of eT1, hc5, Nat.le_trans (show _ ≤ 1000 by rw [List.length_map]; unfold up; rw [List.length_map]; show 1 + _ ≤ 1000; omega) (by decide), fun z => (by cases z), fun _ z => ?_, fun _ z T2 hT2 => ?_⟩
      · have u0 : u = [] := by
          cases u with
          | nil => rfl
          | cons a t => cases z
        subst u0
        exact fin T1 _ s5 eT1
      · exact fin T2 _ (s5.trans (Same.new hT2 _)) upd_same
    · rintro τ H4 ⟨o, zs, rfl, s4, eD, pz⟩
      have lz := Paired.length pz
      rw [← lyi, List.take_length] at pz lz
      rw [List.length_map] at lz
      refine ⟨Lo, D, _, _, rfl, rfl, SqL.of (s4 _ _ eo), SqL.of eD, Nat.le_trans (show _ ≤ 8192 by omega) (by decide), fun N hN => ?_⟩
      have s5 := Same.new hN (.lst (yo ++ zs))
      have s6 := s4.trans s5
      have eS6 := s6 _ _ eS3
      have neN : N ≠ S := fun e => by
        rw [e, s4 _ _ eS3] at hN
        cases hN
      have hN0 : H N = none := by
        rcases h : H N with _ | u
        · rfl
        · have h2 : H2 N = some u := s2 _ _ (s0 _ _ h)
          rw [s4 _ _ (sm _ _ neN h2)] at hN
          cases hN
      refine ⟨S, xs, _, rfl, rfl, eS6, Nat.lt_of_le_of_lt (show xs.length ≤ 1000 by omega) (by decide), ?_⟩
      have k7 : ∀ b u, b ≠ S → upd H4 N (.lst (yo ++ zs)) b = some u → upd (upd H4 N (.lst (yo ++ zs))) S (.lst (xs ++ [.ref N])) b = some u := fun b u ne e => by rw [upd_ne ne]; exact e
      refine ⟨_, _, rfl, fun b u ne e => k7 _ _ ne (s6 _ _ (sm b u ne e)), upd_same, ?_⟩
      rw [take_snoc hr', setsUp_snoc]
      unfold addRow
      refine Paired.app (Paired.imp (fun a v h => sets_keep k7 eS6 (sets_keep (fun b u _ e => s6 b u e) eS3 h)) pS) (Paired.one ⟨N, _, rfl, hN0, neN, k7 _ _ neN upd_same, ?_⟩)
      have t7 := tsX k7 eS6
      exact ties_ts t7 (ties_ts s5.ts (Paired.app (ties_ts s4.ts po) pz))
  · rintro σ H3 ⟨o, xs, rfl, sm, eS3, pS⟩
    have tr : rows.take ys.length = rows := by rw [← lx, List.take_length]
    rw [tr] at pS
    have hV3 : SvAt K C H3 p n rows hd := by
      refine SvAt.same hV fun b u e => sm b u (ne_of_none e hSn) (s2 _ _ (s0 b u e))
    have sH : Same H H3 := fun b u e => sm b u (ne_of_none e hSn) (s2 _ _ (s0 b u e))
    refine ⟨_, rfl, _, rfl, p, dx, _, rfl, sH _ _ hp, flds_no _ _ _ (by decide +kernel) (by decide +kernel) (by decide +kernel), p, n, hd, rows, rfl, hV3, ?_⟩
    have kl : hd < (setsUp rows).length := by rw [setsUp_len]; exact kn
    obtain ⟨v, h1, L, zs, rfl, L0', LS, eL, pL⟩ := Paired.getL pS (List.getElem?_eq_getElem kl)
    refine ⟨S, _, _, _, rfl, rfl, SqL.of eS3, atI_nat h1, q L zs H3 sH L0' eL ?_⟩
    unfold setsOf
    rw [List.getD_eq_getElem?_getD, List.getElem?_eq_getElem kl]
    exact pL
end
end K55s
end
section
namespace K55
open PySem L2 G
structure Gro (K : PySem.W.Frag) (mg : Str → Option Value) (Gc : Addr) : Prop where
  cl : Cls K Gc
  mgG : mg "Growth" = some (.ref Gc)
  nW : NoAttr K Gc "web"
  nU : NoAttr K Gc "rule"
  nA : NoAttr K Gc "amount"
  nB : NoAttr K Gc "behind"
  nR : NoAttr K Gc "rows"
  nK : NoAttr K Gc "known"
def gf (W r : Addr) (n : Int) (Bh R D : Addr) : List (Str × V) := putF "known" (.ref D) (putF "rows" (.ref R) (putF "behind" (.ref Bh) (putF "amount" (.int n) (putF "rule" (.ref r) (putF "web" (.ref W) [])))))
section
variable (W r Bh R D : Addr) (n : Int)
theorem gf_known : (gf W r n Bh R D).lookup ("known" : Str) = some (.ref D) := by unfold gf; rw [lookup_putF, if_pos rfl]
theorem gf_rows : (gf W r n Bh R D).lookup ("rows" : Str) = some (.ref R) := by unfold gf; rw [lookup_putF, if_neg (by decide +kernel), lookup_putF, if_pos rfl]
theorem gf_behind : (gf W r n Bh R D).lookup ("behind" : Str) = some (.ref Bh) := by unfold gf; rw [lookup_putF, if_neg (by decide +kernel), lookup_putF, if_neg (by decide +kernel), lookup_putF, if_pos rfl]
theorem gf_amount : (gf W r n Bh R D).lookup ("amount" : Str) = some (.int n) := by unfold gf; rw [lookup_putF, if_neg (by decide +kernel), lookup_putF, if_neg (by decide +kernel), lookup_putF, if_neg (by decide +kernel), lookup_putF, if_pos rfl]
theorem gf_rule : (gf W r n Bh R D).lookup ("rule" : Str) = some (.ref r) := by unfold gf; rw [lookup_putF, if_neg (by decide +kernel), lookup_putF, if_neg (by decide +kernel), lookup_putF, if_neg (by decide +kernel), lookup_putF, if_neg (by decide +kernel), lookup_putF, if_pos rfl]
theorem gf_web : (gf W r n Bh R D).lookup ("web" : Str) = some (.ref W) := by unfold gf; rw [lookup_putF, if_neg (by decide +kernel), lookup_putF, if_neg (by decide +kernel), lookup_putF, if_neg (by decide +kernel), lookup_putF, if_neg (by decide +kernel), lookup_putF, if_neg (by decide +kernel), lookup_putF, if_pos rfl]
theorem gf_no {m : Str} (h1 : ¬ m = "known") (h2 : ¬ m = "rows") (h3 : ¬ m = "behind") (h4 : ¬ m = "amount") (h5 : ¬ m = "rule") (h6 : ¬ m = "web") : (gf W r n Bh R D).lookup m = none := by
  unfold gf
  rw [lookup_putF, if_neg h1, lookup_putF, if_neg h2, lookup_putF, if_neg h3, lookup_putF, if_neg h4, lookup_putF, if_neg h5, lookup_putF, if_neg h6]
  all_goals rfl
end
structure Gr (K : PySem.W.Frag) (C Dc Gc : Addr) (g W r Bh R D : Addr) (z : Nat) (bs : List (List Int)) (H : Hp) : Prop where
  ins : ∃ dx, H g = some (.ins Gc dx (gf W r bs.length Bh R D))
  web : WebAt K C H W z bs
  rul : ∃ dx, H r = some (.ins Dc dx [])
  beh : ∃ ys, H Bh = some (.lst ys) ∧ Bh ≠ R ∧ Paired (fun t v => ∃ l, v = .ref l ∧ l ≠ R ∧ H l = some (.lst (nI (behP bs z t)))) (List.range (bs.length + 1)) ys
section
variable {K : PySem.W.Frag} {C Dc Gc g W r Bh R D : Addr} {z : Nat} {bs : List (List Int)} {H H' : Hp} {xs : List V} {φ : Heap → Prop}
theorem tsRD (e : ∀ b o, b ≠ R → b ≠ D → H b = some o → H' b = some o) (hR : H R = some (.lst xs)) (hD : H D = some (.ext φ)) : TSm H H' := fun b u hb t => by
  have ne : ∀ {x : Addr} {o : HO}, H x = some o → (∀ ys, o ≠ .tup ys) → (∀ q ys, o ≠ .frz q (.tup ys)) → b ≠ x := fun {x o} hx h1 h2 zz => by
    rw [zz, hx] at hb
    cases hb
    obtain ⟨ys, e | ⟨q, e⟩⟩ := t
    · exact h1 ys e
    · exact h2 q ys e
  exact e b u (ne hR (by intro _ z; cases z) (by intro _ _ z; cases z)) (ne hD (by intro _ z; cases z) (by intro _ _ z; cases z)) hb
theorem Gr.keep (h : Gr K C Dc Gc g W r Bh R D z bs H) (e : ∀ b o, b ≠ R → b ≠ D → H b = some o → H' b = some o) (hR : H R = some (.lst xs)) (hD : H D = some (.ext φ)) : Gr K C Dc Gc g W r Bh R D z bs H' := by
  have ts := tsRD e hR hD
  have ni : ∀ {x c dx : Addr} {fs : List (Str × V)}, H x = some (.ins c dx fs) → H' x = some (.ins c dx fs) := fun {x c dx fs} hx => e _ _ (ne_of hx hR (by intro z; cases z)) (ne_of hx hD (by intro z; cases z)) hx
  have nl : ∀ {x : Addr} {l : List V}, x ≠ R → H x = some (.lst l) → H' x = some (.lst l) := fun {x l} hn hx => e _ _ hn (ne_of hx hD (by intro z; cases z)) hx
  obtain ⟨d1, i1⟩ := h.ins
  obtain ⟨d2, j, i2, i3⟩ := h.web
  obtain ⟨d3, i4⟩ := h.rul
  obtain ⟨ys, b1, b2, b3⟩ := h.beh
  exact ⟨⟨d1, ni i1⟩, ⟨d2, j, ni i2, trep_tup (trep_tup trep_int) _ _ _ _ ts i3⟩, ⟨d3, ni i4⟩, ⟨ys, nl b2 b1, b2, Paired.imp (fun t v ⟨l, c1, c2, c3⟩ => ⟨l, c1, c2, nl c2 c3⟩) b3⟩⟩
theorem Gr.same (h : Gr K C Dc Gc g W r Bh R D z bs H) (e : Same H H') : Gr K C Dc Gc g W r Bh R D z bs H' := by
  obtain ⟨d1, i1⟩ := h.ins
  obtain ⟨d3, i4⟩ := h.rul
  obtain ⟨ys, b1, b2, b3⟩ := h.beh
  exact ⟨⟨d1, e _ _ i1⟩, h.web.same e, ⟨d3, e _ _ i4⟩, ⟨ys, e _ _ b1, b2, Paired.imp (fun t v ⟨l, c1, c2, c3⟩ => ⟨l, c1, c2, e _ _ c3⟩) b3⟩⟩
end
def RS (z : Nat) (H : Hp) (v : V) : Option Sta → Prop
  | none => v = .non
  | some st => ∃ b, v = .ref b ∧ StAt H b st ∧ st.length = z
theorem passC_app : ∀ (l : List Nat) (st : Sta) (p : Nat), passC st (l ++ [p]) = (passC st l).bind fun s => if 1 ≤ s.getD p 0 then some (s.set p 0) else none
  | [], st, p => by
    show passC st [p] = (some st).bind _
    unfold passC
    show (if _ then passC _ [] else none) = _
    rfl
  | q :: l, st, p => by
    show passC st (q :: (l ++ [p])) = _
    unfold passC
    by_cases c : 1 ≤ st.getD q 0
    · rw [if_pos c, if_pos c, passC_app l]
    · rw [if_neg c, if_neg c]
      rfl
def spPast (K : PySem.W.Frag) (C Dc Gc : Addr) : Sp := fun vs H Q _ => ∃ (g W r Bh R D : Addr) (z t : Nat) (bs : List (List Int)) (v : V) (o : Option Sta), vs = [.ref g, .int t, v] ∧ Gr K C Dc Gc g W r Bh R D z bs H ∧ z ≤ 10 ∧ t ≤ bs.length ∧ RS z H v o ∧
  ∀ (v' : V) (H' : Hp), Same H H' → RS z H' v' (o.bind fun r => pasC (Lp bs) z t r) → Q v' H'
section
variable {P : Program} {w : World} {K : PySem.W.Frag} {mg : Str → Option Value} {base : Heap} {f C D Gc : Addr} {fd : FuncData}
theorem scPast : FnScope ["self", "number", "reached", "state", "point"] ["self", "number", "reached"] (defScope sPast) := ⟨rfl, rfl, rfl, by decide +kernel, rfl, by decide +kernel, by decide +kernel⟩
theorem ok_past {fP : Addr} {fdP : FuncData} (F : Fun K "past_points" "Growth.past_points" sPast f fd) (U : Rul K mg D) (O : Gro K mg Gc) (GP : FnOk P w K mg base CX0 2 fP fdP ["self", "web", "state", "point"] (spPassed D)) (bP : Binds K fdP ["self", "web", "state", "point"] []) (mP : Meth K D "passed" fP) :
    FnOk P w K mg base CX0 3 f fd ["self", "number", "reached"] (spPast K C D Gc) := by
  refine F.ok scPast (fun vs H Q E h => ?_) (fun cdv A outer s H vs Q E hr h => ?_)
  · obtain ⟨g, W, r, Bh, R, Dk, z, t, bs, v, o, rfl, _⟩ := h
    rfl
  obtain ⟨g, W, r, Bh, R, Dk, z, t, bs, v, o, rfl, gr, z10, tb, rs, q⟩ := h
  refine ⟨_, pss_cons (ps_set (i := 3) scPast.nd rfl (Or.inl rfl) (pv 2))
    (pss_cons (ps_for PassesOwn.never rfl (pi_list (pe_ix ix_list (pe_fld (pv 0) rfl) (pv 1) (fun _ _ => rfl))) (pg_name (i := 4) scPast.nd rfl (Or.inl rfl))
      (pss_one (ps_if (pt_cmp (pc_notN (pv 3))) (pss_one (ps_set (i := 3) scPast.nd rfl (Or.inl rfl) (pe_meth (pe_fld (pv 0) rfl) U.cl mP GP hr bP .nil pass0 (pa_cons (pe_fld (pv 0) rfl) (pa_cons (pv 3) (pa_cons (pv 4) pa_nil)))))) pss_nil)))
    (pss_one (ps_ret (pv 3)))), ?_⟩
  obtain ⟨dg, hg⟩ := gr.ins
  obtain ⟨dr, hr0⟩ := gr.rul
  obtain ⟨ys, hB, _, pB⟩ := gr.beh
  have lB := Paired.length pB
  rw [List.length_range] at lB
  have tl : t < ys.length := by omega
  obtain ⟨t', ht', l, el, _, hl⟩ := Paired.get pB (List.getElem?_eq_getElem tl)
  have et : t' = t := by
    have := (List.getElem?_eq_some_iff.mp ht').2
    rw [List.getElem_range] at this
    exact this.symm
  subst et
  have hat : atI ys (t' : Int) = some (.ref l) := by
    rw [← el]
    exact atI_nat (List.getElem?_eq_getElem tl)
  refine ⟨_, rfl, ?_⟩
  refine ⟨_, rfl, g, Gc, dg, _, _, rfl, hg, O.cl, O.nB, gf_behind _ _ _ _ _ _, _, rfl, Bh, ys, _, _, rfl, rfl, SqL.of hB, hat, l, rfl, ⟨_, SqL.of hl⟩, ?_⟩
  refine for_list (K := K) (a := l) (xs := nI (behP bs z t')) (fun i σ H2 => ∃ (v' : V) (o4 : Option V), σ = [some (.ref g), some (.int t'), some v, some v', o4] ∧ Same H H2 ∧ RS z H2 v' (o.bind fun r => passC r ((behP bs z t').take i)))
    ⟨v, none, rfl, Same.refl _, by
      have e : (o.bind fun r => passC r ((behP bs z t').take 0)) = o := by cases o <;> rfl
      rw [e]
      exact rs⟩ (fun i σ H2 _ ⟨_, _, _, s2, _⟩ => s2.seq (SqL.of hl)) ?_ ?_
  · rintro i x σ H2 hx ⟨v', o4, rfl, s2, rs2⟩
    obtain ⟨pt, hp, rfl⟩ := nI_get hx
    have pz : pt < z := List.mem_range.mp (List.mem_filter.mp (List.mem_of_getElem? hp)).1
    have step : (o.bind fun r => passC r ((behP bs z t').take (i + 1))) = (o.bind fun r => passC r ((behP bs z t').take i)).bind fun s => if 1 ≤ s.getD pt 0 then some (s.set pt 0) else none := by
      cases o with
      | none => rfl
      | some r =>
        show passC r _ = (passC r _).bind _
        rw [List.take_add_one, hp]
        exact passC_app _ _ _
    cases e : (o.bind fun r => passC r ((behP bs z t').take i)) with
    | none =>
      rw [e] at rs2 step
      cases rs2
      refine ⟨_, rfl, _, rfl, iteF ⟨.non, _, rfl, s2, ?_⟩⟩
      rw [step]
      exact rfl
    | some st =>
      rw [e] at rs2 step
      obtain ⟨b, rfl, hb, sl⟩ := rs2
      refine ⟨_, rfl, _, rfl, iteT ?_⟩
      refine ⟨_, rfl, g, Gc, dg, _, _, rfl, s2 _ _ hg, O.cl, O.nU, gf_rule _ _ _ _ _ _, r, dr, _, rfl, s2 _ _ hr0, rfl, _, rfl, g, Gc, dg, _, _, rfl, s2 _ _ hg, O.cl, O.nW, gf_web _ _ _ _ _ _, _, rfl, _, rfl, .non, .ref W, b, dr, r, pt, st, rfl, s2 _ _ hr0, hb, by omega, by omega, fun c b' H3 s3 hb' => ?_, fun c H3 s3 => ?_⟩
      · refine ⟨_, _, rfl, s2.trans s3, ?_⟩
        rw [step]
        show RS z H3 _ (if _ then _ else _)
        rw [if_pos c]
        exact ⟨b', rfl, hb', by rw [List.length_set]; exact sl⟩
      · refine ⟨_, _, rfl, s2.trans s3, ?_⟩
        rw [step]
        show RS z H3 _ (if _ then _ else _)
        rw [if_neg c]
        exact rfl
  · rintro σ H2 ⟨v', o4, rfl, s2, rs2⟩
    rw [nI_len, List.take_length] at rs2
    exact ⟨_, rfl, q v' H2 s2 rs2⟩
end
end K55
end
section
namespace K55
open PySem L2 G
abbrev semC (bs : List (List Int)) (z d t : Nat) : Option Sta → List Nat → Bool := semG lefC (takC (onB bs)) (pasC (Lp bs) z) (fun _ => true) d t
abbrev keyC (t : Nat) (st : Sta) : PKey := (.inl (t : Int), st.map Sum.inl)
theorem keyC_inj {t t' : Nat} {st st' : Sta} (h : keyC t st = keyC t' st') : t = t' ∧ st = st' := by
  have h1 := congrArg Prod.fst h
  have h2 := congrArg Prod.snd h
  refine ⟨?_, ?_⟩
  · have : (Sum.inl (t : Int) : Key) = Sum.inl (t' : Int) := h1
    injection this with this
    omega
  · have h2' : st.map (Sum.inl : Int → Key) = st'.map Sum.inl := h2
    clear h h1 h2
    induction st generalizing st' with
    | nil => cases st' with
      | nil => rfl
      | cons => cases h2'
    | cons a st ih =>
      cases st' with
      | nil => cases h2'
      | cons b st' =>
        rw [List.map_cons, List.map_cons] at h2'
        injection h2' with e1 e2
        injection e1 with e1
        rw [e1, ih e2]
def Known (bs : List (List Int)) (z : Nat) (rows : List Row) (kvs : List (PKey × V)) : Prop := ∀ (t : Nat) (st : Sta) (v : V), valV kvs (keyC t st) = some v → ∃ k : Nat, v = .int k ∧ t < bs.length ∧ Lead rows t k (stepS lefC (takC (onB bs)) t (semC bs z (bs.length - 1 - t) (t + 1)) st)
theorem Known.app {bs : List (List Int)} {z : Nat} {rows more : List Row} {kvs : List (PKey × V)} (o : Ok bs.length rows) (h : Known bs z rows kvs) : Known bs z (rows ++ more) kvs := fun t st v hv => let ⟨k, e, tl, ld⟩ := h t st v hv; ⟨k, e, tl, ld.app o⟩
theorem key_at {H : Hp} {x b : Addr} {t : Nat} {st : Sta} (hx : H x = some (.tup [.int (t : Int), .ref b])) (hb : StAt H b st) : NKey H (keyC t st) x := by
  refine ⟨b, hx, ?_⟩
  have e : (st.map (Sum.inl : Int → Key)).map kV = st.map V.int := by rw [List.map_map]; rfl
  show H b = some (.tup ((st.map Sum.inl).map kV))
  rw [e]
  exact hb
structure Rw (P : Program) (w : World) (K : PySem.W.Frag) (R D : Addr) (bs : List (List Int)) (z : Nat) (H : Hp) (rows : List Row) (kvs : List (PKey × V)) : Prop where
  at_ : ∃ xs, H R = some (.lst xs) ∧ Paired (K55s.rRow K H) rows xs
  dn : DN P w H D kvs
  ok : Ok bs.length rows
  kn : Known bs z rows kvs
  len : kvs.length ≤ rows.length
def Old (t : Nat) (kvs kvs' : List (PKey × V)) : Prop := ∀ (t' : Nat) (st : Sta), t' < t → valV kvs' (keyC t' st) = valV kvs (keyC t' st)
theorem sem_none {bs : List (List Int)} {z d t : Nat} {o : Option Sta} (h : (o.bind fun r => pasC (Lp bs) z t r) = none) (s : List Nat) : semC bs z d t o s = false := by
  cases o with
  | none => cases d <;> rfl
  | some r =>
    have h' : pasC (Lp bs) z t r = none := h
    cases d with
    | zero => show (match pasC (Lp bs) z t r with | none => false | some st => _) = false; rw [h']
    | succ d => show (match pasC (Lp bs) z t r with | none => false | some st => _) = false; rw [h']
theorem sem_end {bs : List (List Int)} {z t : Nat} {o : Option Sta} {st : Sta} (h : (o.bind fun r => pasC (Lp bs) z t r) = some st) (s : List Nat) : semC bs z 0 t o s = decide (s = []) := by
  cases o with
  | none => cases h
  | some r =>
    have h' : pasC (Lp bs) z t r = some st := h
    show (match pasC (Lp bs) z t r with | none => false | some st => true && decide (s = [])) = _
    rw [h']
    exact Bool.true_and _
theorem sem_on {bs : List (List Int)} {z d t : Nat} {o : Option Sta} {st : Sta} (h : (o.bind fun r => pasC (Lp bs) z t r) = some st) : semC bs z (d + 1) t o = stepS lefC (takC (onB bs)) t (semC bs z d (t + 1)) st := by
  funext s
  cases o with
  | none => cases h
  | some r =>
    have h' : pasC (Lp bs) z t r = some st := h
    show (match pasC (Lp bs) z t r with | none => false | some st => stepS lefC (takC (onB bs)) t (semC bs z d (t + 1)) st s) = _
    rw [h']
def spKnot (P : Program) (w : World) (K : PySem.W.Frag) (C Dc Gc : Addr) (d : Nat) : Sp := fun vs H Q _ => ∃ (g W r Bh R D : Addr) (z t : Nat) (bs : List (List Int)) (v : V) (o : Option Sta) (rows : List Row) (kvs : List (PKey × V)), vs = [.ref g, .int t, v] ∧ t + d = bs.length ∧ Gr K C Dc Gc g W r Bh R D z bs H ∧ 1 ≤ z ∧ z ≤ 10 ∧ bs.length ≤ 8 ∧ RS z H v o ∧ Rw P w K R D bs z H rows kvs ∧ rows.length + 2 ^ d ≤ 600 ∧
  ∀ (k : Nat) (more : List Row) (kvs' : List (PKey × V)) (H' : Hp), (∀ b o, b ≠ R → b ≠ D → H b = some o → H' b = some o) → Rw P w K R D bs z H' (rows ++ more) kvs' → Lead (rows ++ more) t k (semC bs z d t o) → Old t kvs kvs' → Cnt t more → more.length + 1 ≤ 2 ^ d → Q (.int k) H'
section
variable {P : Program} {w : World} {K : PySem.W.Frag} {R D : Addr} {bs : List (List Int)} {z : Nat} {H H' : Hp} {rows : List Row} {kvs : List (PKey × V)}
theorem Rw.same (h : Rw P w K R D bs z H rows kvs) (e : Same H H') : Rw P w K R D bs z H' rows kvs := by
  obtain ⟨xs, h1, h2⟩ := h.at_
  exact ⟨⟨xs, e _ _ h1, Paired.imp (fun _ _ r => K55s.trep_row _ _ _ _ e.ts r) h2⟩, h.dn.keep (fun o => e _ o) (fun b ys => e b _), h.ok, h.kn, h.len⟩
end
section
variable {P : Program} {w : World} {K : PySem.W.Frag} {mg : Str → Option Value} {base : Heap} {f C D Gc : Addr} {fd : FuncData}
theorem scKnotAt : FnScope ["self", "number", "reached", "state", "without", "having"] ["self", "number", "reached"] (defScope sKnotAt) := ⟨rfl, rfl, rfl, by decide +kernel, rfl, by decide +kernel, by decide +kernel⟩
theorem ok_knotAt1 (d : Nat) {fP fL fT fU : Addr} {fdP fdL fdT fdU : FuncData} (F : Fun K "knot_at" "Growth.knot_at" sKnotAt f fd) (T : Txt K mg C) (U : Rul K mg D) (O : Gro K mg Gc)
    (GP : FnOk P w K mg base CX0 3 fP fdP ["self", "number", "reached"] (spPast K C D Gc)) (bP : Binds K fdP ["self", "number", "reached"] []) (mP : Meth K Gc "past_points" fP)
    (GL : FnOk P w K mg base CX0 1 fL fdL ["self", "web", "state", "number"] spLeft) (bL : Binds K fdL ["self", "web", "state", "number"] []) (mL : Meth K D "left" fL)
    (GT : FnOk P w K mg base CX0 2 fT fdT ["self", "web", "state", "number"] (spTaken K C D)) (bT : Binds K fdT ["self", "web", "state", "number"] []) (mT : Meth K D "taken" fT)
    (GU : FnOk P w K mg base CX0 1 fU fdU ["self", "web", "state"] spFul) (bU : Binds K fdU ["self", "web", "state"] []) (mU : Meth K D "fulfilled" fU)
    {sp : Sp} (hsp : ∀ vs H Q E, d ≠ 0 → spKnot P w K C D Gc (d - 1) vs H Q E → sp vs H Q E) (GK : FnOk P w K mg base CX0 (d + 3) f fd ["self", "number", "reached"] sp) (bK : Binds K fd ["self", "number", "reached"] []) (mK : Meth K Gc "knot_at" f) :
    FnOk P w K mg base CX0 (d + 4) f fd ["self", "number", "reached"] (spKnot P w K C D Gc d) := by
  refine F.ok scKnotAt (fun vs H Q E h => ?_) (fun cdv A outer s H vs Q E hr h => ?_)
  · obtain ⟨g, W, r, Bh, R, Dk, z, t, bs, v, o, rows, kvs, rfl, _⟩ := h
    rfl
  obtain ⟨g, W, r, Bh, R, Dk, z, t, bs, v, o, rows, kvs, rfl, td, gr, z1, z10, b8, rs, rw0, r6, q⟩ := h
  have hr1 : Room 1 _ := hr.mono (by omega)
  have hr2 : Room 2 _ := hr.mono (by omega)
  have hr3 : Room 3 _ := hr.mono (by omega)
  refine ⟨_, pss_cons (ps_set (i := 3) scKnotAt.nd rfl (Or.inl rfl) (pe_meth (pv 0) O.cl mP GP hr3 bP .nil pass0 (pa_cons (pv 1) (pa_cons (pv 2) pa_nil))))
    (pss_cons (ps_if (pt_cmp (pc_isN (pv 3))) (pss_one (ps_ret pe_int)) pss_nil)
    (pss_cons (ps_if (pt_cmpR op_eq (pv 1) (pe_fld (pv 0) rfl) (nomark _)) (pss_one (ps_ret (pe_ifExp (pt_val (pe_meth (pe_fld (pv 0) rfl) U.cl mU GU hr1 bU .nil pass0 (pa_cons (pe_fld (pv 0) rfl) (pa_cons (pv 3) pa_nil)))) pe_int pe_int))) pss_nil)
    (pss_mid (ps_if (pt_cmp (pc_nnotin (un_of hr) (pe_tup (pa_cons (pv 1) (pa_cons (pv 3) pa_nil))) (pe_fld (pv 0) rfl)) rfl)
      (pss_cons (ps_set (i := 4) scKnotAt.nd rfl (Or.inl rfl) (pe_meth (pv 0) O.cl mK GK hr bK .nil pass0 (pa_cons (pe_op op_add (pv 1) pe_int) (pa_cons (pe_meth (pe_fld (pv 0) rfl) U.cl mL GL hr1 bL .nil pass0 (pa_cons (pe_fld (pv 0) rfl) (pa_cons (pv 3) (pa_cons (pv 1) pa_nil)))) pa_nil))))
      (pss_cons (ps_set (i := 5) scKnotAt.nd rfl (Or.inl rfl) (pe_meth (pv 0) O.cl mK GK hr bK .nil pass0 (pa_cons (pe_op op_add (pv 1) pe_int) (pa_cons (pe_meth (pe_fld (pv 0) rfl) U.cl mT GT hr2 bT .nil pass0 (pa_cons (pe_fld (pv 0) rfl) (pa_cons (pv 3) (pa_cons (pv 1) pa_nil)))) pa_nil))))
      (pss_cons (ps_expr (pe_bm PySem.F.plainAttrs_list PySem.F.slot_list_append PySem.F.type_list_append mt_append (pe_fld (pv 0) rfl) (pa_cons (pe_tup (pa_cons (pv 1) (pa_cons (pv 4) (pa_cons (pv 5) pa_nil)))) pa_nil)))
      (pss_one (ps_nput (un_of hr) (pe_fld (pv 0) rfl) (pe_tup (pa_cons (pv 1) (pa_cons (pv 3) pa_nil))) (pe_op op_add (pe_callB call_len_seq rfl T.len PySem.boot_len (pa_cons (pe_fld (pv 0) rfl) pa_nil)) pe_int) rfl))))) pss_nil)
    (pss_one (ps_ret (pe_nget (un_of hr) (pe_fld (pv 0) rfl) (pe_tup (pa_cons (pv 1) (pa_cons (pv 3) pa_nil))) (fun _ _ => rfl))))))), ?_⟩
  obtain ⟨dg, hg⟩ := gr.ins
  obtain ⟨dr, hr0⟩ := gr.rul
  have p2 : 1 ≤ 2 ^ d := Nat.one_le_two_pow
  refine ⟨_, rfl, g, dg, _, rfl, hg, gf_no _ _ _ _ _ _ (by decide +kernel) (by decide +kernel) (by decide +kernel) (by decide +kernel) (by decide +kernel) (by decide +kernel), _, rfl, _, rfl, g, W, r, Bh, R, Dk, z, t, bs, v, o, rfl, gr, z10, by omega, rs, fun v' H1 s1 rs1 => ?_⟩
  have gr1 := gr.same s1
  have rw1 := rw0.same s1
  have hg1 := s1 _ _ hg
  have hr1' := s1 _ _ hr0
  cases e : (o.bind fun r => pasC (Lp bs) z t r) with
  | none =>
    rw [e] at rs1
    cases rs1
    refine ⟨_, rfl, _, rfl, iteT ?_⟩
    exact q 0 [] kvs H1 (fun b o _ _ e => s1 _ _ e) (by rw [List.append_nil]; exact rw1) (lead_zero (sem_none e)) (fun _ _ _ => rfl) cnt_nil (by simpa using p2)
  | some st =>
    rw [e] at rs1
    obtain ⟨b, rfl, hb, sl⟩ := rs1
    refine ⟨_, rfl, _, rfl, iteF ?_⟩
    refine ⟨_, rfl, _, rfl, g, Gc, dg, _, _, rfl, hg1, O.cl, O.nA, gf_amount _ _ _ _ _ _, rfl, _, rfl, ?_⟩
    by_cases d0 : d = 0
    · subst d0
      refine iteP (by rw [show t = bs.length by omega]) ?_
      refine ⟨_, rfl, g, Gc, dg, _, _, rfl, hg1, O.cl, O.nU, gf_rule _ _ _ _ _ _, r, dr, _, rfl, hr1', rfl, _, rfl, g, Gc, dg, _, _, rfl, hg1, O.cl, O.nW, gf_web _ _ _ _ _ _, _, rfl, _, _, _, rfl, _, rfl, iteT ?_⟩
      exact q 1 [] kvs H1 (fun b o _ _ e => s1 _ _ e) (by rw [List.append_nil]; exact rw1) (lead_one (sem_end e)) (fun _ _ _ => rfl) cnt_nil (by simpa using p2)
    · obtain ⟨d', rfl⟩ : ∃ d', d = d' + 1 := ⟨d - 1, by omega⟩
      have tn : t < bs.length := by omega
      refine iteN (fun z => by injection z with z; omega) ?_
      have pd : 2 ^ (d' + 1) = 2 ^ d' + 2 ^ d' := by rw [Nat.pow_succ]; omega
      have pd1 : 1 ≤ 2 ^ d' := Nat.one_le_two_pow
      refine ⟨fun σ' H' => ∃ (o4 o5 : Option V) (k : Nat) (more : List Row) (kvs' : List (PKey × V)), σ' = [some (.ref g), some (.int t), some v, some (.ref b), o4, o5] ∧ (∀ b o, b ≠ R → b ≠ Dk → H b = some o → H' b = some o) ∧ Gr K C D Gc g W r Bh R Dk z bs H' ∧ Rw P w K R Dk bs z H' (rows ++ more) kvs' ∧ valV kvs' (keyC t st) = some (.int k) ∧ Lead (rows ++ more) t k (semC bs z (d' + 1) t o) ∧ Old t kvs kvs' ∧ Cnt t more ∧ more.length + 1 ≤ 2 ^ (d' + 1) ∧ StAt H' b st, ?_, ?_⟩
      · refine ⟨_, rfl, _, rfl, (by show 2 ≤ sizeLine; decide), fun x hx => ?_⟩
        have sx := Same.new hx (.tup [.int (t : Int), .ref b])
        have hg2 := sx _ _ hg1
        have rw2 := rw1.same sx
        have gr2 := gr1.same sx
        have hb2 : StAt (upd H1 x (.tup [.int (t : Int), .ref b])) b st := sx _ _ hb
        refine ⟨_, rfl, g, Gc, dg, _, _, rfl, hg2, O.cl, O.nK, gf_known _ _ _ _ _ _, Dk, valV kvs (keyC t st), rfl, ⟨kvs, keyC t st, x, rw2.dn, rfl, key_at upd_same hb2, rfl⟩, _, rfl, ?_⟩
        have s2 := s1.trans sx
        cases ev : valV kvs (keyC t st) with
        | some v0 =>
          obtain ⟨k, rfl, _, ld⟩ := rw0.kn t st v0 ev
          refine iteF ⟨_, _, k, [], kvs, rfl, fun b o _ _ e => s2 _ _ e, gr2, by rw [List.append_nil]; exact rw2, ev, ?_, fun _ _ _ => rfl, cnt_nil, by simp; omega, hb2⟩
          rw [List.append_nil, sem_on e, show d' = bs.length - 1 - t by omega]
          exact ld
        | none =>
          refine iteT ?_
          have hr2' := sx _ _ hr1'
          have e1 : ((t : Int) + 1) = ((t + 1 : Nat) : Int) := by omega
          refine ⟨_, rfl, g, dg, _, rfl, hg2, gf_no _ _ _ _ _ _ (by decide +kernel) (by decide +kernel) (by decide +kernel) (by decide +kernel) (by decide +kernel) (by decide +kernel), _, rfl, _, _, rfl, rfl, _, rfl, g, Gc, dg, _, _, rfl, hg2, O.cl, O.nU, gf_rule _ _ _ _ _ _, r, dr, _, rfl, hr2', rfl, _, rfl, g, Gc, dg, _, _, rfl, hg2, O.cl, O.nW, gf_web _ _ _ _ _ _, _, rfl, _, rfl, _, _, _, _, rfl, ?_⟩
          refine hsp _ _ _ _ (by omega) ⟨g, W, r, Bh, R, Dk, z, t + 1, bs, .ref b, some st, rows, kvs, congrArg (fun i => [V.ref g, V.int i, V.ref b]) e1, by omega, gr2, z1, z10, b8, ⟨b, rfl, hb2, sl⟩, rw2, by rw [Nat.add_sub_cancel]; omega, fun k1 more1 kvs1 H3 kp3 rw3 ld1 old1 cnt1 ml1 => ?_⟩
          rw [Nat.add_sub_cancel] at ld1 ml1
          obtain ⟨xs2, eR2, _⟩ := id rw2.at_
          obtain ⟨_, _, ax2, eD2, _⟩ := id rw2.dn
          have gr3 := gr2.keep kp3 eR2 eD2
          have ts3 := tsRD kp3 eR2 eD2
          obtain ⟨dg3, hg3⟩ := gr3.ins
          obtain ⟨dr3, hr3'⟩ := gr3.rul
          have hb3 : StAt H3 b st := ts3 _ _ hb2 ⟨_, .inl rfl⟩
          refine ⟨_, rfl, g, dg3, _, rfl, hg3, gf_no _ _ _ _ _ _ (by decide +kernel) (by decide +kernel) (by decide +kernel) (by decide +kernel) (by decide +kernel) (by decide +kernel), _, rfl, _, _, rfl, rfl, _, rfl, g, Gc, dg3, _, _, rfl, hg3, O.cl, O.nU, gf_rule _ _ _ _ _ _, r, dr3, _, rfl, hr3', rfl, _, rfl, g, Gc, dg3, _, _, rfl, hg3, O.cl, O.nW, gf_web _ _ _ _ _ _, _, rfl, _, rfl, r, W, b, dr3, t, z, bs, st, rfl, hr3', gr3.web, hb3, tn, by omega, fun b' H4 s4 hb' => ?_⟩
          have rw4 := rw3.same s4
          have gr4 := gr3.same s4
          refine hsp _ _ _ _ (by omega) ⟨g, W, r, Bh, R, Dk, z, t + 1, bs, .ref b', some (tkC (onB bs) t st), rows ++ more1, kvs1, congrArg (fun i => [V.ref g, V.int i, V.ref b']) e1, by omega, gr4, z1, z10, b8, ⟨b', rfl, hb', by rw [tkC_len]; exact sl⟩, rw4, by rw [Nat.add_sub_cancel, List.length_append]; omega, fun k2 more2 kvs2 H5 kp5 rw5 ld2 old2 cnt2 ml2 => ?_⟩
          rw [Nat.add_sub_cancel] at ld2 ml2
          obtain ⟨xs4, eR4, _⟩ := id rw4.at_
          obtain ⟨_, _, ax4, eD4, _⟩ := id rw4.dn
          have gr5 := gr4.keep kp5 eR4 eD4
          have ts5 := tsRD kp5 eR4 eD4
          obtain ⟨dg5, hg5⟩ := gr5.ins
          have hb5 : StAt H5 b st := ts5 _ _ (s4 _ _ hb3) ⟨_, .inl rfl⟩
          obtain ⟨xs5, eR5, px5⟩ := id rw5.at_
          obtain ⟨_, _, ax5, eD5, _⟩ := id rw5.dn
          have lx5 := Paired.length px5
          refine ⟨_, rfl, g, Gc, dg5, _, _, rfl, hg5, O.cl, O.nR, gf_rows _ _ _ _ _ _, .inl ⟨rfl, _, SqL.of eR5⟩, _, rfl, _, rfl, _, rfl, (by show 3 ≤ sizeLine; decide), fun y hy => ?_⟩
          have sy := Same.new hy (.tup [.int (t : Int), .int (k1 : Int), .int (k2 : Int)])
          have l5 : xs5.length ≤ 600 := by
            rw [← lx5]
            simp only [List.length_append]
            omega
          refine ⟨R, _, _, rfl, rfl, sy _ _ eR5, small1000 (by omega), ?_⟩
          obtain ⟨ok6, ld6⟩ := lead_row (lef := lefC) (tak := takC (onB bs)) (g := semC bs z d' (t + 1)) (st := st) rw5.ok tn (ld1.app rw3.ok) ld2
          have RD : R ≠ Dk := ne_of eR5 eD5 (by intro z; cases z)
          have gR : g ≠ R := ne_of hg5 eR5 (by intro z; cases z)
          have eR6y := sy _ _ eR5
          have tl6 := TSm.lst (o := .lst (xs5 ++ [.ref y])) eR6y
          have k6 : ∀ c o, c ≠ R → H5 c = some o → (upd (upd H5 y (.tup [.int (t : Int), .int (k1 : Int), .int (k2 : Int)])) R (.lst (xs5 ++ [.ref y]))) c = some o := fun c o h e => by rw [upd_ne h]; exact sy _ _ e
          have gr6 := gr5.keep (H' := upd (upd H5 y (.tup [.int (t : Int), .int (k1 : Int), .int (k2 : Int)])) R (.lst (xs5 ++ [.ref y]))) (fun c o h _ e => k6 c o h e) eR5 eD5
          have dn6 := rw5.dn.keep (H' := upd (upd H5 y (.tup [.int (t : Int), .int (k1 : Int), .int (k2 : Int)])) R (.lst (xs5 ++ [.ref y]))) (fun o => k6 _ o (Ne.symm RD)) (fun c zs ec => k6 c _ (ne_of ec eR5 (by intro z; cases z)) ec)
          have hb6 : StAt (upd (upd H5 y (.tup [.int (t : Int), .int (k1 : Int), .int (k2 : Int)])) R (.lst (xs5 ++ [.ref y]))) b st := k6 _ _ (ne_of hb5 eR5 (by intro z; cases z)) hb5
          have eR6 : (upd (upd H5 y (.tup [.int (t : Int), .int (k1 : Int), .int (k2 : Int)])) R (.lst (xs5 ++ [.ref y]))) R = some (.lst (xs5 ++ [.ref y])) := upd_same
          have px6 : Paired (K55s.rRow K (upd (upd H5 y (.tup [.int (t : Int), .int (k1 : Int), .int (k2 : Int)])) R (.lst (xs5 ++ [.ref y])))) (rows ++ more1 ++ more2 ++ [(t, k1, k2)]) (xs5 ++ [.ref y]) := by
            refine Paired.app (Paired.imp (fun _ _ c => K55s.trep_row _ _ _ _ (sy.ts.trans tl6) c) px5) (Paired.one ⟨y, rfl, SqT.of ?_⟩)
            rw [upd_ne (ne_of (show (upd H5 y (.tup [.int (t : Int), .int (k1 : Int), .int (k2 : Int)])) y = some _ from upd_same) eR6y (by intro z; cases z))]
            exact upd_same
          generalize upd (upd H5 y (.tup [.int (t : Int), .int (k1 : Int), .int (k2 : Int)])) R (.lst (xs5 ++ [.ref y])) = H6 at k6 gr6 dn6 hb6 eR6 px6
          obtain ⟨dg6, hg6⟩ := gr6.ins
          obtain ⟨_, _, ax6, eD6, _⟩ := id dn6
          have new : valV kvs2 (keyC t st) = none := by rw [old2 t st (by omega), old1 t st (by omega), ev]
          have kl2 := rw5.len
          refine ⟨_, rfl, g, Gc, dg6, _, _, rfl, hg6, O.cl, O.nR, gf_rows _ _ _ _ _ _, R, _, rfl, .inl (SqL.of eR6), _, _, rfl, rfl, _, rfl, g, Gc, dg6, _, _, rfl, hg6, O.cl, O.nK, gf_known _ _ _ _ _ _, _, rfl, _, rfl, (by show 2 ≤ sizeLine; decide), fun u hu => ?_⟩
          have su := Same.new hu (.tup [.int (t : Int), .ref b])
          refine ⟨Dk, kvs2, keyC t st, u, rfl, rfl, dn6.keep (fun o => su _ o) (fun c zs => su c _), key_at upd_same (su _ _ hb6), new, small1000 (by rw [lx5] at kl2; omega), fun H9 oth dn9 => ?_⟩
          have kl : (((xs5 ++ [V.ref y]).length : Nat) : Int) + 1 = (((rows ++ more1 ++ more2).length + 2 : Nat) : Int) := by
            rw [List.length_append, List.length_singleton, ← lx5]
            omega
          rw [show (fun (i j : Int) => V.int (i + j)) (((xs5 ++ [V.ref y]).length : Nat) : Int) 1 = V.int (((rows ++ more1 ++ more2).length + 2 : Nat) : Int) from congrArg V.int kl] at dn9
          have k9 : ∀ c o, c ≠ Dk → H6 c = some o → H9 c = some o := fun c o h e => by rw [oth c h]; exact su _ _ e
          have eas : rows ++ (more1 ++ more2 ++ [(t, k1, k2)]) = rows ++ more1 ++ more2 ++ [(t, k1, k2)] := by simp only [List.append_assoc]
          have ts9 : TSm H6 H9 := tsRD (R := R) (D := Dk) (fun c o _ h e => k9 c o h e) eR6 eD6
          refine ⟨_, _, (rows ++ more1 ++ more2).length + 2, more1 ++ more2 ++ [(t, k1, k2)], putK kvs2 (keyC t st) (.int (((rows ++ more1 ++ more2).length + 2 : Nat) : Int)), rfl, fun c o h1 h2 e => ?_, ?_, ?_, ?_, ?_, ?_, cnt_step cnt1 cnt2, ?_, ts9 _ _ hb6 ⟨_, .inl rfl⟩⟩
          · exact k9 _ _ h2 (k6 _ _ h1 (kp5 _ _ h1 h2 (s4 _ _ (kp3 _ _ h1 h2 (s2 _ _ e)))))
          · exact gr6.keep (fun c o _ h e => k9 c o h e) eR6 eD6
          · rw [eas]
            refine ⟨⟨_, k9 _ _ RD eR6, Paired.imp (fun _ _ c => K55s.trep_row _ _ _ _ ts9 c) px6⟩, dn9, ok6, fun t' st' v' hv' => ?_, ?_⟩
            · rw [valV_put] at hv'
              by_cases c : keyC t' st' = keyC t st
              · rw [if_pos c] at hv'
                cases hv'
                obtain ⟨rfl, rfl⟩ := keyC_inj c
                refine ⟨_, rfl, tn, ?_⟩
                rw [show bs.length - 1 - t' = d' by omega]
                exact ld6
              · rw [if_neg c] at hv'
                exact (rw5.kn.app rw5.ok) t' st' v' hv'
            · rw [putK_new _ new, List.length_append, List.length_singleton, List.length_append, List.length_singleton]
              omega
          · rw [valV_put, if_pos rfl]
          · rw [eas, sem_on e]
            exact ld6
          · intro t' st' lt
            rw [valV_put, if_neg (fun c => by have := (keyC_inj c).1; omega), old2 t' st' (by omega), old1 t' st' (by omega)]
          · simp only [List.length_append, List.length_singleton]
            omega
      · rintro σ H6 ⟨o4, o5, k, more, kvs', rfl, kp, gr6, rw6, val, ld, old, cnt, ml, hb6⟩
        obtain ⟨dg6, hg6⟩ := gr6.ins
        refine ⟨_, rfl, g, Gc, dg6, _, _, rfl, hg6, O.cl, O.nK, gf_known _ _ _ _ _ _, _, rfl, _, rfl, (by show 2 ≤ sizeLine; decide), fun y hy => ?_⟩
        have sy := Same.new hy (.tup [.int (t : Int), .ref b])
        exact ⟨Dk, .int k, rfl, ⟨kvs', keyC t st, y, rw6.dn.keep (fun o => sy _ o) (fun c zs => sy c _), rfl, key_at upd_same (sy _ _ hb6), val⟩, q k more kvs' _ (fun c o h1 h2 e => sy _ _ (kp c o h1 h2 e)) (rw6.same sy) ld old cnt ml⟩
end
end K55
end
section
namespace K55
open PySem L2 G
def spGInit (P : Program) (w : World) (K : PySem.W.Frag) (C Dc Gc : Addr) : Sp := fun vs H Q _ => ∃ (g dx W r dr : Addr) (z : Nat) (bs : List (List Int)), vs = [.ref g, .ref W, .ref r] ∧ H g = some (.ins Gc dx []) ∧ W ≠ g ∧ r ≠ g ∧ WebAt K C H W z bs ∧ H r = some (.ins Dc dr []) ∧ z ≤ 10 ∧ bs.length ≤ 8 ∧
  ∀ (Bh R D : Addr) (H' : Hp), (∀ b o, H b = some o → b ≠ g → H' b = some o) → Gr K C Dc Gc g W r Bh R D z bs H' → Rw P w K R D bs z H' [] [] → H R = none → H D = none → Q .non H'
section
variable {P : Program} {w : World} {K : PySem.W.Frag} {mg : Str → Option Value} {base : Heap} {f C D Gc : Addr} {fd : FuncData}
theorem scGInit : FnScope ["self", "web", "rule"] ["self", "web", "rule"] (defScope sGInit) := ⟨rfl, rfl, rfl, by decide +kernel, rfl, by decide +kernel, by decide +kernel⟩
theorem ok_gInit {fB fT : Addr} {fdB fdT : FuncData} (F : Fun K "__init__" "Growth.__init__" sGInit f fd) (T : Txt K mg C) (O : Gro K mg Gc)
    (GT : FnOk P w K mg base CX0 1 fT fdT ["self"] (spTies K C)) (bT : Binds K fdT ["self"] []) (mT : Meth K C "ties" fT)
    (GB : FnOk P w K mg base CX0 2 fB fdB ["web", "number"] (spBehP K C)) (bB : Binds K fdB ["web", "number"] []) (kB : PySem.W.keepIn K (.ref fB) = true) (mB : mg "points_behind" = some (.ref fB)) :
    FnOk P w K mg base CX0 3 f fd ["self", "web", "rule"] (spGInit P w K C D Gc) := by
  refine F.ok scGInit (fun vs H Q E h => ?_) (fun cdv A outer s H vs Q E hr h => ?_)
  · obtain ⟨g, dx, W, r, dr, z, bs, rfl, _⟩ := h
    rfl
  obtain ⟨g, dx, W, r, dr, z, bs, rfl, hg, Wg, rg, hW, hr0, z10, b8, q⟩ := h
  have hr1 : Room 1 _ := hr.mono (by decide)
  refine ⟨_, pss_cons (ps_fld (pv 0) (pv 1) rfl)
    (pss_cons (ps_fld (pv 0) (pv 2) rfl)
    (pss_cons (ps_fld (pv 0) (pe_callB call_len_seq rfl T.len PySem.boot_len (pa_cons (pe_meth0 (pv 1) T.cl mT GT hr1 bT .nil pass0) pa_nil)) rfl)
    (pss_cons (ps_fld (pv 0) (pe_comp (defScope sGInit) ["number"] ["web"] [1] rfl rfl (by decide +kernel) ⟨⟨rfl, by decide +kernel⟩, trivial⟩ (pi_range1 rfl T.range (pa_cons (pe_op op_add (pe_fld (pv 0) rfl) pe_int) pa_nil))
      (fun _ _ _ => pg_name (i := 0) (show ((["number"] : List Str) ++ (["web"] : List Str)).Nodup by decide +kernel) rfl (Or.inl rfl)) (fun _ _ _ => pifs_nil)
      (fun _ _ _ => pe_call GB hr rfl mB kB bB .nil pass0 (pa_cons (pv 1) (pa_cons (pv 0) pa_nil)))) rfl)
    (pss_cons (ps_fld (pv 0) (pe_lst pa_nil) rfl)
    (pss_one (ps_fld (pv 0) pe_dnewN rfl)))))), ?_⟩
  have tsI : ∀ {H0 : Hp} {fs gs : List (Str × V)}, H0 g = some (.ins Gc dx fs) → TSm H0 (upd H0 g (.ins Gc dx gs)) := fun {H0 fs gs} hP b u hb t => by
    rw [upd_ne ?_]
    · exact hb
    · rintro rfl
      rw [hP] at hb
      cases hb
      obtain ⟨ys, e | ⟨o, e⟩⟩ := t
      · cases e
      · cases e
  refine ⟨_, rfl, _, rfl, g, Gc, dx, [], rfl, hg, O.cl, O.nW, (by show 0 < 1000; decide), ?_⟩
  refine ⟨_, rfl, _, rfl, g, Gc, dx, _, rfl, upd_same, O.cl, O.nU, (by show 1 < 1000; decide), ?_⟩
  rw [upd_upd]
  have k1 : ∀ b o, b ≠ g → H b = some o → (upd H g (.ins Gc dx (putF "rule" (.ref r) (putF "web" (.ref W) [])))) b = some o := fun b o h e => by rw [upd_ne h]; exact e
  have ts1 := tsI (gs := putF "rule" (.ref r) (putF "web" (.ref W) [])) hg
  have g1 : (upd H g (.ins Gc dx (putF "rule" (.ref r) (putF "web" (.ref W) [])))) g = some (.ins Gc dx (putF "rule" (.ref r) (putF "web" (.ref W) []))) := upd_same
  generalize upd H g (.ins Gc dx (putF "rule" (.ref r) (putF "web" (.ref W) []))) = H1 at k1 ts1 g1
  have hW1 : WebAt K C H1 W z bs := by
    obtain ⟨d, j, a1, a2⟩ := hW
    exact ⟨d, j, k1 _ _ Wg a1, trep_tup (trep_tup trep_int) _ _ _ _ ts1 a2⟩
  obtain ⟨dw, jw, hw1, _⟩ := id hW1
  refine ⟨_, rfl, W, dw, _, rfl, hw1, flds_no _ _ (by decide +kernel) (by decide +kernel), W, z, bs, rfl, hW1, fun l H2 s2 hl hL => ?_⟩
  obtain ⟨l', ts, el, hX, px⟩ := hL
  cases el
  have lt : ts.length = bs.length := (Paired.length px).symm
  refine ⟨l, _, rfl, .inl hX, _, rfl, g, Gc, dx, _, rfl, s2 _ _ g1, O.cl, O.nA, (by show 2 < 1000; decide), ?_⟩
  have g2 := s2 _ _ g1
  rw [lt]
  have k3 : ∀ b o, b ≠ g → H b = some o → (upd H2 g (.ins Gc dx (putF "amount" (.int (bs.length : Nat)) (putF "rule" (.ref r) (putF "web" (.ref W) []))))) b = some o := fun b o h e => by rw [upd_ne h]; exact s2 _ _ (k1 b o h e)
  have ts3 := ts1.trans (s2.ts.trans (tsI (gs := putF "amount" (.int (bs.length : Nat)) (putF "rule" (.ref r) (putF "web" (.ref W) []))) g2))
  have g3 : (upd H2 g (.ins Gc dx (putF "amount" (.int (bs.length : Nat)) (putF "rule" (.ref r) (putF "web" (.ref W) []))))) g = some (.ins Gc dx (putF "amount" (.int (bs.length : Nat)) (putF "rule" (.ref r) (putF "web" (.ref W) [])))) := upd_same
  generalize upd H2 g (.ins Gc dx (putF "amount" (.int (bs.length : Nat)) (putF "rule" (.ref r) (putF "web" (.ref W) [])))) = H3 at k3 ts3 g3
  have hW3 : WebAt K C H3 W z bs := by
    obtain ⟨d, j, a1, a2⟩ := hW
    exact ⟨d, j, k3 _ _ Wg a1, trep_tup (trep_tup trep_int) _ _ _ _ ts3 a2⟩
  refine ⟨_, rfl, g, Gc, dx, _, _, rfl, g3, O.cl, O.nA, (by rw [lookup_putF, if_pos rfl]), _, _, rfl, rfl, _, rfl, by omega, by omega, fun Bh hBh => ?_⟩
  refine turns_range (lo := 0) (n := (((bs.length : Nat) : Int) + 1).toNat) (fun j τ H4 => ∃ (o : Option V) (ys : List V), τ = [o, some (.ref W)] ∧ Same H3 H4 ∧ H4 Bh = some (.lst ys) ∧ Paired (fun t v => ∃ l, v = .ref l ∧ l ≠ Bh ∧ H4 l = some (.lst (nI (behP bs z t)))) (List.range j) ys) ⟨none, [], rfl, Same.new hBh _, upd_same, .nil⟩ ?_ ?_
  · rintro j τ H4 hj ⟨o, ys, rfl, s4, eB, pB⟩
    have ej : (0 : Int) + j = (j : Int) := by omega
    rw [ej]
    have ly := Paired.length pB
    rw [List.length_range] at ly
    refine yesN ⟨_, rfl, _, rfl, W, j, z, bs, rfl, hW3.same s4, z10, by omega, fun m H5 s5 hm em => ?_⟩
    have mB : m ≠ Bh := fun z => by rw [z, eB] at hm; cases hm
    refine ⟨_, s5 _ _ eB, small1000 (by omega), _, _, rfl, fun b o e => ?_, upd_same, ?_⟩
    · rw [upd_ne (ne_of_none e hBh)]
      exact s5 _ _ (s4 b o e)
    · rw [List.range_succ]
      refine Paired.app (Paired.imp (fun t v ⟨l, e1, e2, e3⟩ => ⟨l, e1, e2, by rw [upd_ne e2]; exact s5 _ _ e3⟩) pB) (Paired.one ⟨m, rfl, mB, by rw [upd_ne mB]; exact em⟩)
  rintro τ H4 ⟨o, ys, rfl, s4, eB, pB⟩
  rw [show (((bs.length : Nat) : Int) + 1).toNat = bs.length + 1 by omega] at pB
  have g4 := s4 _ _ g3
  have gB : Bh ≠ g := fun z => by rw [z, g4] at eB; cases eB
  refine ⟨_, rfl, g, Gc, dx, _, rfl, g4, O.cl, O.nB, (by show 3 < 1000; decide), ?_⟩
  have nBH : H Bh = none := by
    cases e : H Bh with
    | none => rfl
    | some o => have := k3 _ _ gB e; rw [hBh] at this; cases this
  refine ⟨Nat.zero_le _, fun R hR => ?_⟩
  have gR : R ≠ g := fun z => by rw [z, upd_same] at hR; cases hR
  have hR4 : H4 R = none := by rw [upd_ne gR] at hR; exact hR
  have BR : Bh ≠ R := ne_of_none eB hR4
  refine ⟨_, rfl, g, Gc, dx, _, rfl, by rw [upd_ne (Ne.symm gR)]; exact upd_same, O.cl, O.nR, (by show 4 < 1000; decide), ?_⟩
  refine fun Dk hD dn0 => ?_
  have gD : Dk ≠ g := fun z => by rw [z, upd_same] at hD; cases hD
  have RD : Dk ≠ R := fun z => by rw [z, upd_ne gR, upd_same] at hD; cases hD
  have hD4 : H4 Dk = none := by rw [upd_ne gD, upd_ne RD, upd_ne gD] at hD; exact hD
  refine ⟨_, rfl, g, Gc, dx, _, rfl, by rw [upd_ne (Ne.symm gD)]; exact upd_same, O.cl, O.nK, (by show 5 < 1000; decide), ?_⟩
  have fin : ∀ b o, b ≠ g → H4 b = some o → (upd (upd (upd (upd (upd H4 g (.ins Gc dx (putF "behind" (.ref Bh) (putF "amount" (.int (bs.length : Nat)) (putF "rule" (.ref r) (putF "web" (.ref W) [])))))) R (.lst [])) g (.ins Gc dx (putF "rows" (.ref R) (putF "behind" (.ref Bh) (putF "amount" (.int (bs.length : Nat)) (putF "rule" (.ref r) (putF "web" (.ref W) []))))))) Dk (dN P w Dk [])) g (.ins Gc dx (gf W r (bs.length : Nat) Bh R Dk))) b = some o := fun b o h e => by
    rw [upd_ne h, upd_ne (ne_of_none e hD4), upd_ne h, upd_ne (ne_of_none e hR4), upd_ne h]
    exact e
  have fT : TSm H4 (upd (upd (upd (upd (upd H4 g (.ins Gc dx (putF "behind" (.ref Bh) (putF "amount" (.int (bs.length : Nat)) (putF "rule" (.ref r) (putF "web" (.ref W) [])))))) R (.lst [])) g (.ins Gc dx (putF "rows" (.ref R) (putF "behind" (.ref Bh) (putF "amount" (.int (bs.length : Nat)) (putF "rule" (.ref r) (putF "web" (.ref W) []))))))) Dk (dN P w Dk [])) g (.ins Gc dx (gf W r (bs.length : Nat) Bh R Dk))) := fun b u hb t => fin b u (fun z => by
    rw [z, g4] at hb
    cases hb
    obtain ⟨ys, e | ⟨o, e⟩⟩ := t
    · cases e
    · cases e) hb
  have old : ∀ x, x ≠ g → H4 x = none → H x = none := fun x h n => by
    cases e : H x with
    | none => rfl
    | some o => have := s4 _ _ (k3 _ _ h e); rw [n] at this; cases this
  refine q Bh R Dk _ (fun b o e h => fin b o h (s4 _ _ (k3 b o h e))) ⟨⟨dx, upd_same⟩, ?_, ⟨dr, fin _ _ rg (s4 _ _ (k3 _ _ rg hr0))⟩, ⟨ys, fin _ _ gB eB, BR, Paired.imp (fun t v ⟨l, e1, e2, e3⟩ => ⟨l, e1, ne_of_none e3 hR4, fin _ _ (fun z => by rw [z, g4] at e3; cases e3) e3⟩) pB⟩⟩ ?_ (old R gR hR4) (old Dk gD hD4)
  · obtain ⟨d, j, a1, a2⟩ := hW3.same s4
    exact ⟨d, j, fin _ _ Wg a1, trep_tup (trep_tup trep_int) _ _ _ _ fT a2⟩
  · refine ⟨⟨[], by rw [upd_ne gR, upd_ne (Ne.symm RD), upd_ne gR, upd_same], .nil⟩, dn0.keep (fun o e => by rw [upd_ne gD]; exact e) (fun b zs e => ?_), fun i r h => (by simp at h), fun t st v hv => (by cases hv), Nat.le_refl _⟩
    by_cases c : b = g
    · subst c
      rw [upd_ne (Ne.symm gD), upd_same] at e
      cases e
    · rw [upd_ne c]
      exact e
end
end K55
end
section
namespace K55
open PySem L2 G
section
variable {P : Program} {w : World} {K : PySem.W.Frag} {mg : Str → Option Value} {base : Heap} {f C D Gc S : Addr} {fd : FuncData}
theorem ok_knotAt {fP fL fT fU : Addr} {fdP fdL fdT fdU : FuncData} (F : Fun K "knot_at" "Growth.knot_at" sKnotAt f fd) (T : Txt K mg C) (U : Rul K mg D) (O : Gro K mg Gc)
    (GP : FnOk P w K mg base CX0 3 fP fdP ["self", "number", "reached"] (spPast K C D Gc)) (bP : Binds K fdP ["self", "number", "reached"] []) (mP : Meth K Gc "past_points" fP)
    (GL : FnOk P w K mg base CX0 1 fL fdL ["self", "web", "state", "number"] spLeft) (bL : Binds K fdL ["self", "web", "state", "number"] []) (mL : Meth K D "left" fL)
    (GT : FnOk P w K mg base CX0 2 fT fdT ["self", "web", "state", "number"] (spTaken K C D)) (bT : Binds K fdT ["self", "web", "state", "number"] []) (mT : Meth K D "taken" fT)
    (GU : FnOk P w K mg base CX0 1 fU fdU ["self", "web", "state"] spFul) (bU : Binds K fdU ["self", "web", "state"] []) (mU : Meth K D "fulfilled" fU)
    (bK : Binds K fd ["self", "number", "reached"] []) (mK : Meth K Gc "knot_at" f) : ∀ d, FnOk P w K mg base CX0 (d + 4) f fd ["self", "number", "reached"] (spKnot P w K C D Gc d)
  | 0 => ok_knotAt1 0 F T U O GP bP mP GL bL mL GT bT mT GU bU mU (sp := fun _ _ _ _ => False) (fun _ _ _ _ h => absurd rfl h) (F.ok scKnotAt (fun vs H Q E h => False.elim h) (fun cdv A outer s H vs Q E hr h => False.elim h)) bK mK
  | d + 1 => ok_knotAt1 (d + 1) F T U O GP bP mP GL bL mL GT bT mT GU bU mU (sp := spKnot P w K C D Gc d) (fun _ _ _ _ _ h => h) (ok_knotAt F T U O GP bP mP GL bL mL GT bT mT GU bU mU bK mK d) bK mK
def spGrown (K : PySem.W.Frag) (C Dc S : Addr) : Sp := fun vs H Q _ => ∃ (W r dr : Addr) (z : Nat) (bs : List (List Int)), vs = [.ref W, .ref r] ∧ WebAt K C H W z bs ∧ H r = some (.ins Dc dr []) ∧ 1 ≤ z ∧ z ≤ 10 ∧ bs.length ≤ 8 ∧
  ∀ (p : Addr) (nums : List Row) (hd : Nat) (H' : Hp), Same H H' → K55s.SvAt K S H' p bs.length nums hd → Canon bs.length nums hd → (∀ s, led nums hd s = semC bs z bs.length 0 (some (List.replicate z 0)) s) → nums.length ≤ 900 → Q (.ref p) H'
theorem scGrown : FnScope ["web", "rule", "growth", "top"] ["web", "rule"] (defScope sGrown) := ⟨rfl, rfl, rfl, by decide +kernel, rfl, by decide +kernel, by decide +kernel⟩
theorem ok_grown {fI fK fB fG : Addr} {fdI fdK fdB fdG : FuncData} (F : Fun K "grown" "grown" sGrown f fd) (U : Rul K mg D) (O : Gro K mg Gc) (M : Mk K Gc fI)
    (GI : FnOk P w K mg base CX0 3 fI fdI ["self", "web", "rule"] (spGInit P w K C D Gc)) (bI : Binds K fdI ["self", "web", "rule"] [])
    (GK : ∀ d, FnOk P w K mg base CX0 (d + 4) fK fdK ["self", "number", "reached"] (spKnot P w K C D Gc d)) (bK : Binds K fdK ["self", "number", "reached"] []) (mK : Meth K Gc "knot_at" fK)
    (GB : FnOk P w K mg base CX0 2 fB fdB ["self", "web"] (spBegun K C D)) (bB : Binds K fdB ["self", "web"] []) (mB : Meth K D "begun" fB)
    (GG : FnOk P w K mg base CX0 3 fG fdG ["n", "rows", "top"] (K55s.spGraph K S)) (bG : Binds K fdG ["n", "rows", "top"] []) (kG : PySem.W.keepIn K (.ref fG) = true) (mG : mg "least_graph" = some (.ref fG)) :
    FnOk P w K mg base CX0 13 f fd ["web", "rule"] (spGrown K C D S) := by
  refine F.ok scGrown (fun vs H Q E h => ?_) (fun cdv A outer s H vs Q E hr h => ?_)
  · obtain ⟨W, r, dr, z, bs, rfl, _⟩ := h
    rfl
  obtain ⟨W, r, dr, z, bs, rfl, hW, hr0, z1, z10, b8, q⟩ := h
  have hr2 : Room 2 _ := hr.mono (by decide)
  have hr3 : Room 3 _ := hr.mono (by decide)
  have hrM : Room (3 + 1) _ := hr.mono (by decide)
  have hrK : Room (bs.length + 4) _ := hr.mono (by omega)
  refine ⟨_, pss_cons (ps_set (i := 2) scGrown.nd rfl (Or.inl rfl) (pe_make M GI hrM rfl O.mgG bI .nil pass0 (pa_cons (pv 0) (pa_cons (pv 1) pa_nil))))
    (pss_cons (ps_set (i := 3) scGrown.nd rfl (Or.inl rfl) (pe_meth (pv 2) O.cl mK (GK bs.length) hrK bK .nil pass0 (pa_cons pe_int (pa_cons (pe_meth (pv 1) U.cl mB GB hr2 bB .nil pass0 (pa_cons (pv 0) pa_nil)) pa_nil))))
    (pss_one (ps_ret (pe_call GG hr3 rfl mG kG bG .nil pass0 (pa_cons (pe_fld (pv 2) rfl) (pa_cons (pe_fld (pv 2) rfl) (pa_cons (pv 3) pa_nil))))))), ?_⟩
  refine ⟨_, rfl, _, rfl, fun g dx hg hdx ne => ?_⟩
  have hg2 : (upd H dx (.own g)) g = none := by rw [upd_ne (Ne.symm ne)]; exact hg
  have s1 := (Same.new hdx (.own g)).trans (Same.new hg2 (.ins Gc dx []))
  obtain ⟨dw, jw, hw, _⟩ := id hW
  refine ⟨g, dx, W, r, dr, z, bs, rfl, upd_same, ne_of_none hw hg, ne_of_none hr0 hg, hW.same s1, s1 _ _ hr0, z10, b8, fun Bh R Dk H2 k2 gr rw0 nR0 nD0 => ⟨rfl, ?_⟩⟩
  have s2 : Same H H2 := fun b o e => k2 _ _ (s1 _ _ e) (ne_of_none e hg)
  obtain ⟨dg, hg2'⟩ := gr.ins
  refine ⟨_, rfl, g, dg, _, rfl, hg2', gf_no _ _ _ _ _ _ (by decide +kernel) (by decide +kernel) (by decide +kernel) (by decide +kernel) (by decide +kernel) (by decide +kernel), _, rfl, r, dr, _, rfl, s2 _ _ hr0, rfl, _, rfl, r, W, z, bs, rfl, gr.web, z1, z10, fun b H3 s3 hb => ?_⟩
  have rw3 := rw0.same s3
  have gr3 := gr.same s3
  have p2 : 2 ^ bs.length ≤ 2 ^ 8 := Nat.pow_le_pow_right (by decide) b8
  refine ⟨g, W, r, Bh, R, Dk, z, 0, bs, .ref b, some (List.replicate z 0), [], [], rfl, by omega, gr3, z1, z10, b8, ⟨b, rfl, hb, List.length_replicate⟩, rw3, by show 0 + _ ≤ _; omega, fun k more kvs' H4 kp rw4 ld _ cnt ml => ?_⟩
  rw [List.nil_append] at rw4 ld
  obtain ⟨xs3, eR3, _⟩ := id rw3.at_
  obtain ⟨_, _, ax3, eD3, _⟩ := id rw3.dn
  have gr4 := gr3.keep kp eR3 eD3
  obtain ⟨dg4, hg4⟩ := gr4.ins
  obtain ⟨xs4, eR4, px4⟩ := id rw4.at_
  refine ⟨_, rfl, g, Gc, dg4, _, _, rfl, hg4, O.cl, O.nA, gf_amount _ _ _ _ _ _, _, rfl, g, Gc, dg4, _, _, rfl, hg4, O.cl, O.nR, gf_rows _ _ _ _ _ _, _, rfl, R, bs.length, k, more, rfl, K55s.RowsAt.of ⟨R, xs4, rfl, SqL.of eR4, px4⟩, rw4.ok, by omega, by omega, grown_few rw4.ok b8 cnt k, ld.kn, fun p nums hd H' s' h1 h2 h3 h4 => ?_⟩
  have none_back : ∀ {x : Addr}, (upd (upd H dx (.own g)) g (.ins Gc dx [])) x = none → H x = none := fun {x} n => by
    cases e : H x with
    | none => rfl
    | some o => have := s1 _ _ e; rw [n] at this; cases this
  refine q p nums hd H' (fun b o e => s' _ _ (kp _ _ (ne_of_none e (none_back nR0)) (ne_of_none e (none_back nD0)) (s3 _ _ (s2 _ _ e)))) h1 h2 (fun s => ?_) h4.1
  rw [h3 s, ld.eq s]
end
end K55
end
section
namespace K55
open PySem L2 G
def onA (as : List (List Int)) (p x : Nat) : Bool := decide ((p : Int) ∈ as.getD x [])
theorem on_srt (as : List (List Int)) : onB (as.map srt) = onA as := by
  funext p x
  unfold onB onA
  refine decide_eq_decide.mpr ?_
  rw [List.getD_eq_getElem?_getD, List.getD_eq_getElem?_getD, List.getElem?_map]
  cases as[x]? with
  | none => exact Iff.rfl
  | some t => exact srt_mem
theorem free_snoc (as : List (List Int)) (gs : List Nat) (j : Nat) : freeN (onA as) (j + 1) gs = freeN (onA as) j gs + if (gs.all fun g => !onA as g j) = true then 1 else 0 := by
  unfold freeN
  rw [List.range_succ, List.filter_append, List.length_append]
  congr 1
  by_cases c : (gs.all fun g => !onA as g j) = true
  · rw [List.filter_cons_of_pos (by exact c), if_pos c]
    rfl
  · rw [List.filter_cons_of_neg (by exact c), if_neg c]
    rfl
theorem free_le (as : List (List Int)) (gs : List Nat) (j : Nat) : freeN (onA as) j gs ≤ j := by
  unfold freeN
  refine Nat.le_trans (List.length_filter_le _ _) ?_
  rw [List.length_range]
  exact Nat.le_refl _
def spFar (K : PySem.W.Frag) : Sp := fun vs H Q _ => ∃ (l a : Addr) (as : List (List Int)) (gs : List Nat), vs = [.ref l, .ref a] ∧ rLst K (rPair K) H as (.ref l) ∧ SqL K H a (nI gs) ∧ as.length ≤ 12 ∧ (∀ t ∈ as, ∃ x y, t = [x, y]) ∧ Q (.int ((2 ^ freeN (onA as) as.length gs : Nat) : Int)) H
section
variable {P : Program} {w : World} {K : PySem.W.Frag} {mg : Str → Option Value} {base : Heap} {f C D : Addr} {fd : FuncData}
theorem scFar : FnScope ["_law_ties", "_law_gone", "_law_many", "_law_tie"] ["_law_ties", "_law_gone"] (defScope sFar) := ⟨rfl, rfl, rfl, by decide +kernel, rfl, by decide +kernel, by decide +kernel⟩
theorem ok_far (F : Fun K "_law_far" "_law_far" sFar f fd) : FnOk P w K mg base CX0 1 f fd ["_law_ties", "_law_gone"] (spFar K) := by
  refine F.ok scFar (fun vs H Q E h => ?_) (fun cdv A outer s H vs Q E hr h => ?_)
  · obtain ⟨l, a, as, gs, rfl, _⟩ := h
    rfl
  obtain ⟨l, a, as, gs, rfl, ⟨l', xs, el, hX, px⟩, hA, a12, two, q⟩ := h
  cases el
  refine ⟨_, pss_cons (ps_set (i := 2) scFar.nd rfl (Or.inl rfl) pe_int)
    (pss_cons (ps_for PassesOwn.never rfl (pi_list (pv 0)) (pg_name (i := 3) scFar.nd rfl (Or.inl rfl))
      (pss_one (ps_if (PW.pt (pw_and (pt_cmpR op_notIn_seq (pe_ix ix_tup (pv 3) pe_int (fun _ _ => rfl)) (pv 1) rfl) (pw_and1 (pt_cmpR op_notIn_seq (pe_ix ix_tup (pv 3) pe_int (fun _ _ => rfl)) (pv 1) rfl))))
        (pss_one (ps_set (i := 2) scFar.nd rfl (Or.inl rfl) (pe_op op_mul pe_int (pv 2)))) pss_nil)))
    (pss_one (ps_ret (pv 2)))), ?_⟩
  have eg : nI gs = (gs.map fun (k : Nat) => (k : Int)).map V.int := by unfold nI; rw [List.map_map]; rfl
  rw [eg] at hA
  have fl : ((gs.map fun (k : Nat) => (k : Int)).map V.int).all flatV = true := by
    rw [List.all_eq_true]
    intro v hv
    obtain ⟨i, _, rfl⟩ := List.mem_map.mp hv
    rfl
  refine ⟨_, rfl, l, rfl, ⟨_, hX⟩, ?_⟩
  have lx := Paired.length px
  refine for_list (K := K) (a := l) (xs := xs) (fun j σ H2 => ∃ o3 : Option V, H2 = H ∧ σ = [some (.ref l), some (.ref a), some (.int ((2 ^ freeN (onA as) j gs : Nat) : Int)), o3]) ⟨none, rfl, rfl⟩ (fun j σ H2 _ ⟨_, e, _⟩ => by rw [e]; exact hX) ?_ ?_
  · rintro j x σ H2 hx ⟨o3, rfl, rfl⟩
    obtain ⟨tie, ht, rt⟩ := Paired.get px hx
    obtain ⟨c, rfl, hc⟩ := rPair_seq rt
    obtain ⟨u, v, rfl⟩ := two tie (List.mem_of_getElem? ht)
    have jl := (List.getElem?_eq_some_iff.mp ht).1
    have all_iff : (gs.all fun g => !onA as g j) = true ↔ u ∉ (gs.map fun (k : Nat) => (k : Int)) ∧ v ∉ (gs.map fun (k : Nat) => (k : Int)) := by
      have on : ∀ g : Nat, onA as g j = decide ((g : Int) = u ∨ (g : Int) = v) := fun g => by
        unfold onA
        rw [List.getD_eq_getElem?_getD, ht]
        refine decide_eq_decide.mpr ?_
        show (g : Int) ∈ [u, v] ↔ _
        simp
      rw [List.all_eq_true]
      constructor
      · intro h
        refine ⟨fun hm => ?_, fun hm => ?_⟩
        · obtain ⟨g, hg, e⟩ := List.mem_map.mp hm
          have := h g hg
          rw [on, decide_eq_true (.inl e)] at this
          cases this
        · obtain ⟨g, hg, e⟩ := List.mem_map.mp hm
          have := h g hg
          rw [on, decide_eq_true (.inr e)] at this
          cases this
      · rintro ⟨h1, h2⟩ g hg
        rw [on, decide_eq_false (fun z => z.elim (fun e => h1 (e ▸ List.mem_map_of_mem (f := fun (k : Nat) => (k : Int)) hg)) (fun e => h2 (e ▸ List.mem_map_of_mem (f := fun (k : Nat) => (k : Int)) hg)))]
        rfl
    have fr := free_snoc as gs j
    have no : ¬ (gs.all fun g => !onA as g j) = true → ∃ o3 : Option V, H2 = H2 ∧ [some (V.ref l), some (.ref a), some (.int ((2 ^ freeN (onA as) j gs : Nat) : Int)), some (.ref c)] = [some (.ref l), some (.ref a), some (.int ((2 ^ freeN (onA as) (j + 1) gs : Nat) : Int)), o3] := fun h => by
      rw [if_neg h, Nat.add_zero] at fr
      exact ⟨some (.ref c), rfl, by rw [fr]; rfl⟩
    refine ⟨_, rfl, c, _, _, _, rfl, rfl, hc, atI_nat (j := 0) rfl, _, rfl, a, _, rfl, .inl hA, rfl, fl, _, rfl, ?_⟩
    rw [if_pos rfl, inV_ints]
    by_cases c1 : u ∈ (gs.map fun (k : Nat) => (k : Int))
    · rw [decide_eq_true c1]
      exact iteF (iteF (no fun z => (all_iff.mp z).1 c1))
    · rw [decide_eq_false c1]
      refine iteT ?_
      refine ⟨_, rfl, c, _, _, _, rfl, rfl, hc, atI_nat (j := 1) rfl, _, rfl, a, _, rfl, .inl hA, rfl, fl, _, rfl, ?_⟩
      rw [if_pos rfl, inV_ints]
      by_cases c2 : v ∈ (gs.map fun (k : Nat) => (k : Int))
      · rw [decide_eq_true c2]
        exact iteF (no fun z => (all_iff.mp z).2 c2)
      · rw [decide_eq_false c2]
        rw [if_pos (all_iff.mpr ⟨c1, c2⟩)] at fr
        refine iteT ⟨_, rfl, _, _, rfl, rfl, .inl ⟨by decide, by decide⟩, some (.ref c), rfl, ?_⟩
        have e : (2 : Int) * ((2 ^ freeN (onA as) j gs : Nat) : Int) = ((2 ^ freeN (onA as) (j + 1) gs : Nat) : Int) := by
          rw [fr, Nat.pow_succ]
          omega
        show [some (V.ref l), some (.ref a), some (.int ((2 : Int) * ((2 ^ freeN (onA as) j gs : Nat) : Int))), some (.ref c)] = _
        rw [e]
  · rintro σ H2 ⟨o3, rfl, rfl⟩
    rw [← lx]
    exact ⟨_, rfl, q⟩
end
end K55
end
section
namespace K55
open PySem L2 G
def rG (H : Hp) (g : List Nat) (v : V) : Prop := ∃ l, v = .ref l ∧ H l = some (.lst (nI g))
theorem rG.same {H H' : Hp} {g : List Nat} {v : V} (e : Same H H') (h : rG H g v) : rG H' g v := let ⟨l, a, b⟩ := h; ⟨l, a, e _ _ b⟩
theorem nI_snoc (ks : List Nat) (k : Nat) : nI (ks ++ [k]) = nI ks ++ [.int (k : Int)] := by unfold nI; rw [List.map_append]; rfl
theorem grp_len : ∀ k, (grp k).length = 2 ^ k
  | 0 => rfl
  | k + 1 => by
    show (grp k ++ (grp k).map _).length = _
    rw [List.length_append, List.length_map, grp_len k, Nat.pow_succ]
    omega
theorem grp_sub : ∀ {k : Nat} {g : List Nat}, g ∈ grp k → g.length ≤ k
  | 0, g, h => by
    have : g = [] := List.mem_singleton.mp h
    rw [this]
    exact Nat.le_refl _
  | k + 1, g, h => by
    rcases List.mem_append.mp (show g ∈ grp k ++ (grp k).map (· ++ [k]) from h) with h | h
    · exact Nat.le_succ_of_le (grp_sub h)
    · obtain ⟨u, hu, rfl⟩ := List.mem_map.mp h
      rw [List.length_append, List.length_singleton]
      exact Nat.succ_le_succ (grp_sub hu)
def spSum (K : PySem.W.Frag) : Sp := fun vs H Q _ => ∃ (l : Addr) (z : Nat) (as : List (List Int)), vs = [.int z, .ref l] ∧ z ≤ 10 ∧ rLst K (rPair K) H as (.ref l) ∧ as.length ≤ 12 ∧ (∀ t ∈ as, ∃ x y, t = [x, y]) ∧ ∀ H', Same H H' → Q (.int ((cntN (onA as) as.length (List.range z) [] : Nat) : Int)) H'
section
variable {P : Program} {w : World} {K : PySem.W.Frag} {mg : Str → Option Value} {base : Heap} {f C D : Addr} {fd : FuncData}
theorem scSum : FnScope ["_law_points", "_law_ties", "_law_total", "_law_groups", "_law_point", "_law_gone"] ["_law_points", "_law_ties"] (defScope sSum) := ⟨rfl, rfl, rfl, by decide +kernel, rfl, by decide +kernel, by decide +kernel⟩
theorem ok_sum {fF : Addr} {fdF : FuncData} (F : Fun K "_law_sum" "_law_sum" sSum f fd) (T : Txt K mg C) (GF : FnOk P w K mg base CX0 1 fF fdF ["_law_ties", "_law_gone"] (spFar K)) (bF : Binds K fdF ["_law_ties", "_law_gone"] []) (kF : PySem.W.keepIn K (.ref fF) = true) (mF : mg "_law_far" = some (.ref fF)) :
    FnOk P w K mg base CX0 2 f fd ["_law_points", "_law_ties"] (spSum K) := by
  refine F.ok scSum (fun vs H Q E h => ?_) (fun cdv A outer s H vs Q E hr h => ?_)
  · obtain ⟨l, z, as, rfl, _⟩ := h
    rfl
  obtain ⟨l, z, as, rfl, z10, hL, a12, two, q⟩ := h
  refine ⟨_, pss_cons (ps_set (i := 2) scSum.nd rfl (Or.inl rfl) pe_int)
    (pss_cons (ps_set (i := 3) scSum.nd rfl (Or.inl rfl) (pe_lst (pa_cons (pe_lst pa_nil) pa_nil)))
    (pss_cons (ps_for PassesOwn.never rfl (pi_range1 rfl T.range (pa_cons (pv 0) pa_nil)) (pg_name (i := 4) scSum.nd rfl (Or.inr rfl))
      (pss_one (ps_set (i := 3) scSum.nd rfl (Or.inl rfl) (pe_op op_addL (pv 3) (pe_comp (defScope sSum) ["_law_gone"] ["_law_point"] [4] rfl rfl (by decide +kernel) ⟨⟨rfl, by decide +kernel⟩, trivial⟩ (pi_list (pv 3))
        (fun _ _ _ => pg_name (i := 0) (show ((["_law_gone"] : List Str) ++ (["_law_point"] : List Str)).Nodup by decide +kernel) rfl (Or.inl rfl)) (fun _ _ _ => pifs_nil)
        (fun _ _ _ => pe_op (op_addLK (K := K) rfl) (pv 0) (pe_lst (pa_cons (pv 1) pa_nil))))))))
    (pss_cons (ps_for PassesOwn.never rfl (pi_list (pv 3)) (pg_name (i := 5) scSum.nd rfl (Or.inl rfl))
      (pss_one (ps_set (i := 2) scSum.nd rfl (Or.inl rfl) (pe_op op_add (pv 2) (pe_op op_mul (pe_call GF hr rfl mF kF bF .nil pass0 (pa_cons (pv 1) (pa_cons (pv 5) pa_nil))) (pe_ix ix_list (pe_lst (pa_cons pe_int (pa_cons (pe_un un_neg pe_int) pa_nil))) (pe_op op_mod (pe_callB call_len_seq rfl T.len PySem.boot_len (pa_cons (pv 5) pa_nil)) pe_int) (fun _ _ => rfl)))))))
    (pss_one (ps_ret (pv 2)))))), ?_⟩
  have sm16 : ∀ {n : Nat}, n ≤ 5000 → n < sizeLine := fun {n} h => Nat.lt_of_le_of_lt h (by decide)
  refine ⟨Nat.zero_le _, fun L0 hL0 => ⟨(by show 1 ≤ sizeLine; decide), fun G0 hG0 => ?_⟩⟩
  have s0 := (Same.new hL0 (.lst [])).trans (Same.new hG0 (.lst [.ref L0]))
  refine ⟨_, rfl, _, rfl, by omega, by omega, ?_⟩
  refine for_range (lo := 0) (n := (z : Int).toNat) (fun i σ H2 => ∃ (o4 : Option V) (G : Addr) (ys : List V), σ = [some (.int z), some (.ref l), some (.int 0), some (.ref G), o4, none] ∧ Same H H2 ∧ H2 G = some (.lst ys) ∧ Paired (rG H2) (grp i) ys)
    ⟨none, G0, _, rfl, s0, upd_same, Paired.one ⟨L0, rfl, Same.new hG0 _ _ _ upd_same⟩⟩ ?_ ?_
  · rintro i σ H2 hi ⟨o4, G, ys, rfl, s2, eG, pG⟩
    have ei : (0 : Int) + i = (i : Int) := by omega
    rw [ei]
    have ly := Paired.length pG
    rw [grp_len] at ly
    have p10 : 2 ^ i ≤ 2 ^ 10 := Nat.pow_le_pow_right (by decide) (by omega)
    refine ⟨_, rfl, _, rfl, G, rfl, ⟨_, SqL.of eG⟩, fun Z hZ => ?_⟩
    refine turns_list (K := K) (a := G) (xs := ys) (fun j τ H3 => ∃ (o : Option V) (zs : List V), τ = [o, some (.int i)] ∧ Same H2 H3 ∧ H3 Z = some (.lst zs) ∧ Paired (fun g v => rG H3 g v ∧ v ≠ .ref Z) (((grp i).take j).map (· ++ [i])) zs) ⟨none, [], rfl, Same.new hZ _, upd_same, .nil⟩ (fun j τ H3 _ ⟨_, _, _, s3, _⟩ => s3.seq (SqL.of eG)) ?_ ?_
    · rintro j x τ H3 hx ⟨o, zs, rfl, s3, eZ, pZ⟩
      obtain ⟨g, hg, m, rfl, hm⟩ := Paired.get pG hx
      have gl := grp_sub (List.mem_of_getElem? hg)
      have jl := (List.getElem?_eq_some_iff.mp hx).1
      have lz := Paired.length pZ
      rw [List.length_map, List.length_take] at lz
      refine yesN ⟨_, rfl, _, rfl, (by show 1 ≤ sizeLine; decide), fun M hM => ?_⟩
      have s4 := Same.new hM (.lst [.int (i : Int)])
      refine ⟨m, M, _, _, rfl, rfl, SqL.of (s4 _ _ (s3 _ _ hm)), SqL.of upd_same, Nat.le_of_lt (sm16 (by rw [nI_len]; show _ + 1 ≤ 5000; omega)), fun N hN => ?_⟩
      have s5 := s4.trans (Same.new hN (.lst (nI g ++ [.int (i : Int)])))
      have eZ5 := s5 _ _ eZ
      have NZ : N ≠ Z := fun e => by rw [e, s4 _ _ eZ] at hN; cases hN
      refine ⟨_, eZ5, sm16 (by omega), _, _, rfl, fun b o e => ?_, upd_same, ?_⟩
      · rw [upd_ne (ne_of_none e hZ)]
        exact s5 _ _ (s3 b o e)
      · rw [List.take_add_one, hg, List.map_append]
        refine Paired.app (Paired.imp (fun g v ⟨⟨u, e1, e2⟩, e3⟩ => ⟨⟨u, e1, by rw [upd_ne (fun e => e3 (by rw [e1, e]))]; exact s5 _ _ e2⟩, e3⟩) pZ) (Paired.one ⟨⟨N, rfl, ?_⟩, fun e => NZ (by injection e)⟩)
        rw [upd_ne NZ, upd_same, nI_snoc]
    · rintro τ H3 ⟨o, zs, rfl, s3, eZ, pZ⟩
      rw [show ys.length = (grp i).length by rw [grp_len]; exact ly.symm, List.take_length] at pZ
      have lz := Paired.length pZ
      rw [List.length_map, grp_len] at lz
      refine ⟨G, Z, _, _, rfl, rfl, SqL.of (s3 _ _ eG), SqL.of eZ, Nat.le_of_lt (sm16 (by omega)), fun N hN => ?_⟩
      have s4 := Same.new hN (.lst (ys ++ zs))
      refine ⟨_, N, ys ++ zs, rfl, s2.trans (s3.trans s4), upd_same, ?_⟩
      show Paired _ (grp i ++ (grp i).map (· ++ [i])) _
      exact Paired.app (Paired.imp (fun _ _ h => h.same (s3.trans s4)) pG) (Paired.imp (fun _ _ h => h.1.same s4) pZ)
  rintro σ H2 ⟨o4, G, ys, rfl, s2, eG, pG⟩
  rw [Int.toNat_natCast] at pG
  have ly := Paired.length pG
  rw [grp_len] at ly
  have p10 : 2 ^ z ≤ 2 ^ 10 := Nat.pow_le_pow_right (by decide) z10
  have hL2 := rLst_same (trep_tup trep_int) s2 hL
  refine ⟨_, rfl, G, rfl, ⟨_, SqL.of eG⟩, ?_⟩
  refine for_list (K := K) (a := G) (xs := ys) (fun j σ H3 => ∃ o5 : Option V, σ = [some (.int z), some (.ref l), some (.int (((grp z).take j).map fun g => (cntN (onA as) as.length [] g : Int) * sgn g).sum), some (.ref G), o4, o5] ∧ Same H2 H3) ⟨none, rfl, Same.refl _⟩ (fun j σ H3 _ ⟨_, _, s3⟩ => s3.seq (SqL.of eG)) ?_ ?_
  · rintro j x σ H3 hx ⟨o5, rfl, s3⟩
    obtain ⟨g, hg, m, rfl, hm⟩ := Paired.get pG hx
    have gl := grp_sub (List.mem_of_getElem? hg)
    have fr := free_le as g as.length
    have pf : 2 ^ freeN (onA as) as.length g ≤ 2 ^ 12 := Nat.pow_le_pow_right (by decide) (by omega)
    refine ⟨_, rfl, _, rfl, _, rfl, l, m, as, g, rfl, rLst_same (trep_tup trep_int) s3 hL2, SqL.of (s3 _ _ hm), a12, two, ?_⟩
    refine ⟨_, rfl, (by show 2 ≤ sizeLine; decide), fun V2 hV2 => ?_⟩
    have s4 := Same.new hV2 (.lst [.int 1, .int (-1)])
    have hat : atI [V.int 1, V.int (-1)] ((((nI g).length : Nat) : Int) % 2) = some (.int (sgn g)) := by
      rw [nI_len]
      unfold sgn
      by_cases c : g.length % 2 = 0
      · rw [show ((g.length : Int) % 2) = ((0 : Nat) : Int) by omega, if_pos c]
        exact atI_nat (j := 0) rfl
      · rw [show ((g.length : Int) % 2) = ((1 : Nat) : Int) by omega, if_neg c]
        exact atI_nat (j := 1) rfl
    refine ⟨_, rfl, m, _, rfl, .inl (SqL.of (s4 _ _ (s3 _ _ hm))), _, _, rfl, rfl, (by show (0 : Int) < 2; decide), V2, _, _, _, rfl, rfl, SqL.of upd_same, hat, ?_⟩
    refine ⟨_, _, rfl, rfl, .inl ⟨Int.lt_of_lt_of_le (by decide) (Int.natCast_nonneg _), Int.lt_of_le_of_lt (Int.ofNat_le.mpr pf) (by decide)⟩, _, _, rfl, rfl, some (.ref m), ?_, s3.trans s4⟩
    have e : ((((grp z).take j).map fun g => (cntN (onA as) as.length [] g : Int) * sgn g).sum) + ((2 ^ freeN (onA as) as.length g : Nat) : Int) * sgn g = (((grp z).take (j + 1)).map fun g => (cntN (onA as) as.length [] g : Int) * sgn g).sum := by
      rw [List.take_add_one, hg, List.map_append, List.sum_append]
      show _ = _ + ([(cntN (onA as) as.length [] g : Int) * sgn g]).sum
      rw [List.sum_singleton, cnt_free]
    rw [← e]
    rfl
  · rintro σ H3 ⟨o5, rfl, s3⟩
    rw [show ys.length = (grp z).length by rw [grp_len]; exact ly.symm, List.take_length, incl, List.append_nil]
    exact ⟨_, rfl, q H3 (s2.trans s3)⟩
end
end K55
end
section
namespace K55
open PySem L2 G
theorem cut8 (xs : List V) : ∃ m, m ≤ 8 ∧ cutV xs none (some 8) = xs.take m := by
  refine ⟨min 8 xs.length, by omega, ?_⟩
  unfold cutV
  rw [HT.sIx_none, show (some (8 : Int)) = some ((8 : Nat) : Int) from rfl, HT.sIx_nat, List.drop_zero, Nat.sub_zero]
theorem ok_tk {m : Int} {as : List (List Int)} (h : OkTies m as) (k : Nat) : OkTies m (as.take k) := ⟨fun t ht => h.ok t (List.mem_of_mem_take ht), by rw [List.map_take]; exact h.nd.sublist (List.take_sublist ..)⟩
theorem paired_tk {α β : Type} {F : α → β → Prop} : ∀ {l : List α} {m : List β}, Paired F l m → ∀ k, Paired F (l.take k) (m.take k)
  | _, _, .nil, k => by rw [List.take_nil, List.take_nil]; exact .nil
  | _, _, .cons h t, 0 => .nil
  | _, _, .cons h t, k + 1 => .cons h (paired_tk t k)
theorem for_en {S : Hp → List V → Prop} {xs : List V} {g : TG} {tb : TS} {D : Ends} {σ : St} {H : Hp} (Pv : Nat → St → Hp → Prop) (h0 : Pv 0 σ H) (hl : ∀ i σ H, i ≤ xs.length → Pv i σ H → S H xs)
    (hs : ∀ i x σ H T, xs[i]? = some x → H T = none → Pv i σ H → g (.ref T) σ (upd H T (.tup [.int i, x])) fun σ2 H2 => tb { D with nx := Pv (i + 1), ct := Pv (i + 1), bk := D.nx } σ2 H2) (hd : ∀ σ H, Pv xs.length σ H → D.nx σ H) :
    ∃ W : Nat → Nat → St → Hp → Prop, (∃ m, W 0 m σ H) ∧ ∀ i m σ H, W i m σ H →
      ((Ien S).stop i H ∧ D.nx σ H) ∨ ((Ien S).go i H ∧ ∃ N : St → Hp → Prop, (∀ σ' H', N σ' H' → ∃ m', m' < m ∧ W (i + 1) m' σ' H') ∧ ∀ x H', (Ien S).yld i H x H' → g x σ H' fun σ2 H2 => tb { D with nx := N, ct := N, bk := D.nx } σ2 H2) := by
  refine for_by xs.length Pv h0 (fun i σ H hi p => ⟨xs, xs[i], hl i σ H (Nat.le_of_lt hi) p, by simp [hi]⟩) (fun σ H p => ⟨xs, hl _ σ H (Nat.le_refl _) p, rfl⟩) (fun i σ H x H' hi p y => ?_) hd
  obtain ⟨T, z, rfl, hT, rfl, y⟩ := y
  exact hs i z σ H T (y xs (hl i σ _ (Nat.le_of_lt hi) p)) hT p
abbrev kT (s : List Nat) : List Key := (up s).map Sum.inl
theorem kT_inj {s u : List Nat} (h : kT s = kT u) : s = u := up_inj ((List.map_inj_right (fun a b (e : (Sum.inl a : Key) = Sum.inl b) => by injection e)).mp h)
theorem kT_kV (s : List Nat) : (kT s).map kV = (up s).map V.int := by unfold kT; rw [List.map_map]; rfl
theorem cov_of {as : List (List Int)} {z : Nat} {s : List Nat} (h : Cov (onB (as.map srt)) (Lp (as.map srt)) z as.length 0 (List.replicate z 0) s) : cov as (up s) z = true := by
  unfold cov
  rw [List.all_eq_true]
  intro p hp
  have hz := List.mem_range.mp hp
  obtain ⟨_, _, c⟩ := h
  rcases c p hz (Nat.zero_le _) with c | ⟨x, hx, ho⟩
  · rw [List.getD_eq_getElem?_getD, List.getElem?_replicate, if_pos hz] at c
    exact absurd c (by decide)
  · rw [on_srt] at ho
    refine List.any_eq_true.mpr ⟨(x : Int), List.mem_map_of_mem hx, ?_⟩
    rw [Int.toNat_natCast]
    exact List.contains_iff_mem.mpr (of_decide_eq_true ho)
section
variable {P : Program} {w : World} {K : PySem.W.Frag} {mg : Str → Option Value} {base : Heap} {f C D S : Addr} {fd : FuncData}
theorem scLaw : FnScope ["_law_script", "_law_points", "_law_ties", "_law_web_here", "_law_found", "_law_seen", "_law_k", "_law_some"] ["_law_script"] (defScope sLaw) := ⟨rfl, rfl, rfl, by decide +kernel, rfl, by decide +kernel, by decide +kernel⟩
theorem ok_law {fC fW fI fG fE fS fF : Addr} {fdC fdW fdI fdG fdE fdS fdF : FuncData} (F : Fun K "law" "law" sLaw f fd) (T : Txt K mg C) (U : Rul K mg D) (M : Mk K C fI)
    (GC : FnOk P w K mg base CX0 1 fC fdC ["_law_script", "_law_k"] (spCell K)) (bC : Binds K fdC ["_law_script", "_law_k"] []) (kC : PySem.W.keepIn K (.ref fC) = true) (mC : mg "_law_cell" = some (.ref fC))
    (GW : FnOk P w K mg base CX0 3 fW fdW ["_law_script", "_law_at"] (spWeb K)) (bW : Binds K fdW ["_law_script", "_law_at"] []) (kW : PySem.W.keepIn K (.ref fW) = true) (mW : mg "_law_web" = some (.ref fW))
    (GI : FnOk P w K mg base CX0 3 fI fdI ["self", "many", "ties"] (spInit K C)) (bI : Binds K fdI ["self", "many", "ties"] [])
    (GG : FnOk P w K mg base CX0 13 fG fdG ["web", "rule"] (spGrown K C D S)) (bG : Binds K fdG ["web", "rule"] []) (kG : PySem.W.keepIn K (.ref fG) = true) (mG : mg "grown" = some (.ref fG))
    (GE : FnOk P w K mg base CX0 2 fE fdE ["sieve"] (K55s.spSets K S)) (bE : Binds K fdE ["sieve"] []) (kE : PySem.W.keepIn K (.ref fE) = true) (mE : mg "sets_of" = some (.ref fE))
    (GS : FnOk P w K mg base CX0 2 fS fdS ["_law_points", "_law_ties"] (spSum K)) (bS : Binds K fdS ["_law_points", "_law_ties"] []) (kS : PySem.W.keepIn K (.ref fS) = true) (mS : mg "_law_sum" = some (.ref fS))
    (GF : FnOk P w K mg base CX0 3 fF fdF ["self", "web", "some"] (spFits K C D)) (bF : Binds K fdF ["self", "web", "some"] []) (mF : Meth K D "fits" fF) :
    FnOk P w K mg base CX0 14 f fd ["_law_script"] (spLaw K) := by
  refine F.ok scLaw (fun vs H Q E h => ?_) (fun cdv A outer s H vs Q E hr h => ?_)
  · obtain ⟨a, ns, rfl, _⟩ := h
    rfl
  obtain ⟨a, ns, rfl, hS, n63, q⟩ := h
  have hr1 : Room 1 _ := hr.mono (by decide)
  have hr2 : Room 2 _ := hr.mono (by decide)
  have hr3 : Room 3 _ := hr.mono (by decide)
  have hr4 : Room (3 + 1) _ := hr.mono (by decide)
  refine ⟨_, pss_cons (ps_asg (pe_call GW hr3 rfl mW kW bW .nil pass0 (pa_cons (pe_lst (pa_cons (pe_op op_add (pe_op op_mul (pe_op op_fdiv (pe_call GC hr1 rfl mC kC bC .nil pass0 (pa_cons (pv 0) (pa_cons pe_int pa_nil))) pe_int) pe_int) (pe_op op_mod (pe_call GC hr1 rfl mC kC bC .nil pass0 (pa_cons (pv 0) (pa_cons pe_int pa_nil))) pe_int)) (pa_cons (pe_call GC hr1 rfl mC kC bC .nil pass0 (pa_cons (pv 0) (pa_cons pe_int pa_nil))) pa_nil))) (pa_cons pe_int pa_nil)))
      (pg_tup rfl (pgs_cons (pg_name (i := 1) scLaw.nd rfl (Or.inl rfl)) (pgs_cons (pg_name (i := 2) scLaw.nd rfl (Or.inl rfl)) pgs_nil))))
    (pss_cons (ps_set (i := 2) scLaw.nd rfl (Or.inl rfl) (pe_slice sl_list (pv 2) po_none (po_some pe_int)))
    (pss_cons (ps_set (i := 3) scLaw.nd rfl (Or.inl rfl) (pe_make M GI hr4 rfl T.mgC bI .nil pass0 (pa_cons (pv 1) (pa_cons (pv 2) pa_nil))))
    (pss_cons (ps_set (i := 4) scLaw.nd rfl (Or.inl rfl) (pe_call GE hr2 rfl mE kE bE .nil pass0 (pa_cons (pe_call GG hr rfl mG kG bG .nil pass0 (pa_cons (pv 3) (pa_cons (pe_bare U.makes U.hi U.kp rfl U.mgD) pa_nil))) pa_nil)))
    (pss_cons (ps_if (PW.pt (pw_or (pt_not (pt_val (pe_callB isi_list rfl T.isi PyProof.Rows.boot_isinstance (pa_cons (pv 4) (pa_cons (pe_bltn (v := .ty "list") rfl T.list PyProof.Rows.boot_list rfl) pa_nil)))))
        (pw_or1 (pt_cmpR op_ne (pe_callB call_len_seq rfl T.len PySem.boot_len (pa_cons (pv 4) pa_nil)) (pe_call GS hr2 rfl mS kS bS .nil pass0 (pa_cons (pv 1) (pa_cons (pv 2) pa_nil))) (nomark _))))) (pss_one (ps_ret pe_bl)) pss_nil)
    (pss_cons (ps_set (i := 5) scLaw.nd rfl (Or.inl rfl) pe_dnewT)
    (pss_cons (ps_for PassesOwn.never rfl (pi_enumL rfl T.enum (pa_cons (pv 4) pa_nil)) (pg_tup rfl (pgs_cons (pg_name (i := 6) scLaw.nd rfl (Or.inl rfl)) (pgs_cons (pg_name (i := 7) scLaw.nd rfl (Or.inl rfl)) pgs_nil)))
      (pss_cons (ps_if (PW.pt (pw_or (pt_not (pt_val (pe_callB isi_tuple rfl T.isi PyProof.Rows.boot_isinstance (pa_cons (pv 7) (pa_cons (pe_bltn (v := .ty "tuple") rfl T.tuple PyProof.Rows.boot_tuple rfl) pa_nil)))))
          (pw_or1 (pt_cmp (pc_din (un_of hr) (pv 7) (pv 5)))))) (pss_one (ps_ret pe_bl)) pss_nil)
      (pss_mid (ps_if (PW.pt (pw_and (pt_cmpR op_eq (pe_op op_mod (pv 6) pe_int) pe_int (nomark _)) (pw_and1 (pt_not (pt_val (pe_meth (pe_bare U.makes U.hi U.kp rfl U.mgD) U.cl mF GF hr3 bF .nil pass0 (pa_cons (pv 3) (pa_cons (pv 7) pa_nil)))))))) (pss_one (ps_ret pe_bl)) pss_nil)
      (pss_one (ps_dput (un_of hr) (pv 5) (pv 7) pe_bl rfl)))))
    (pss_one (ps_ret pe_bl)))))))), ?_⟩
  refine ⟨_, rfl, a, ns, 0, rfl, hS, by omega, fun c0 => ⟨_, _, rfl, rfl, ⟨by decide, by decide⟩, _, _, rfl, rfl, .inr ⟨by decide, by decide⟩, _, rfl, a, ns, 0, rfl, hS, by omega, fun c1 => ⟨_, _, rfl, rfl, (by show (0 : Int) < 6; decide), _, _, rfl, rfl, _, rfl, a, ns, 1, rfl, hS, by omega, fun c2 => ⟨(by show 2 ≤ sizeLine; decide), fun A0 hA0 => ?_⟩⟩⟩⟩
  have s0 := Same.new hA0 (.lst [.int (c0 / 6 * 10 + c1 % 6), .int c2])
  refine ⟨A0, [c0 / 6 * 10 + c1 % 6, c2], 0, rfl, SqL.of upd_same, by omega, fun t l m xl as0 H1 s1 et el nl pl m1 m10 h12 ok0 => ?_⟩
  refine ⟨t, _, rfl, SqT.of et, rfl, _, _, rfl, _, _, rfl, rfl, ?_⟩
  refine ⟨_, rfl, _, rfl, l, xl, rfl, SqL.of el, fun l2 hl2 => ?_⟩
  obtain ⟨k8, k88, ec⟩ := cut8 xl
  rw [show (cutV xl none (some 8)) = xl.take k8 from ec]
  have ok1 := ok_tk ok0 k8
  have pl1 := paired_tk pl k8
  have a8 : (as0.take k8).length ≤ 8 := by rw [List.length_take]; omega
  generalize as0.take k8 = as at ok1 pl1 a8
  generalize xl.take k8 = ts at pl1
  have s2 := Same.new hl2 (.lst ts)
  have el2 : (upd H1 l2 (.lst ts)) l2 = some (.lst ts) := upd_same
  have pl2 : Paired (rPair K (upd H1 l2 (.lst ts))) as ts := Paired.imp (fun _ _ r => trep_tup trep_int _ _ _ _ s2.ts r) pl1
  generalize upd H1 l2 (.lst ts) = H2 at s2 el2 pl2
  obtain ⟨z, rfl⟩ : ∃ z : Nat, m = (z : Int) := ⟨m.toNat, by omega⟩
  refine ⟨_, rfl, _, rfl, fun p dx np ndx npd => ?_⟩
  have sp : Same H2 (upd (upd H2 dx (.own p)) p (.ins C dx [])) := fun b o e => by
    rw [upd_ne (ne_of_none e np), upd_ne (ne_of_none e ndx)]
    exact e
  refine ⟨p, dx, l2, z, ts, as, rfl, upd_same, SqL.of (sp _ _ el2), Paired.imp (fun t x h => .inr (trep_tup trep_int _ _ _ _ sp.ts h)) pl2, ok1, by omega, m1, m10, fun H3 k3 hW => ⟨rfl, ?_⟩⟩
  have s3 : Same H2 H3 := fun b o e => k3 b o (sp b o e) (ne_of_none e np)
  have bl : (as.map srt).length = as.length := List.length_map ..
  refine ⟨_, rfl, fun r dr hr' hdr ner => ?_⟩
  have s4 : Same H3 (upd (upd H3 dr (.own r)) r (.ins D dr [])) := fun b o e => by
    rw [upd_ne (ne_of_none e hr'), upd_ne (ne_of_none e hdr)]
    exact e
  refine ⟨p, r, dr, z, as.map srt, rfl, hW.same s4, upd_same, by omega, by omega, by rw [bl]; exact a8, fun sv nums hd H5 s5 hV cA lA rA => ?_⟩
  rw [bl] at hV cA lA
  have s35 := s4.trans s5
  have okA := cA.least.ok
  have sem : ∀ s, led nums hd s = true ↔ Cov (onB (as.map srt)) (Lp (as.map srt)) z as.length 0 (List.replicate z 0) s := fun s => by
    rw [lA s]
    exact sem_cov (on := onB (as.map srt)) (L := Lp (as.map srt)) (fun p x _ xl h => lp_on (by rw [bl]; exact xl) h) (fun p _ => by have := lp_le (bs := as.map srt) (p := p); rw [bl] at this; exact this) as.length 0 _ s (by omega) List.length_replicate (fun p => by
      rw [List.getD_eq_getElem?_getD, List.getElem?_replicate]
      split <;> decide)
  have cnt : (setsOf nums hd).length = cntN (onA as) as.length (List.range z) [] := by
    have := count_is okA cA.knot (List.replicate z 0) (fun p => by
      rw [List.getD_eq_getElem?_getD, List.getElem?_replicate]
      split <;> decide) sem
    rw [on_srt] at this
    exact this
  have I := in_order _ _ rfl okA _ cA.knot
  have nd : (setsOf nums hd).Nodup := I.ord.imp fun {a b} h e => by rw [e] at h; exact Nat.lt_irrefl _ h
  have olen := K55s.ord_len I
  have p8 : 2 ^ as.length ≤ 2 ^ 8 := Nat.pow_le_pow_right (by decide) a8
  refine ⟨sv, as.length, hd, nums, rfl, hV, okA, cA.knot, by omega, rA, fun L ys H6 s6 hL eL pL => ?_⟩
  have ly : ys.length = (setsOf nums hd).length := (Paired.length pL).symm
  have s36 := s35.trans s6
  refine ⟨_, rfl, L, ys, rfl, SqL.of eL, _, rfl, iteF ?_⟩
  refine ⟨_, rfl, L, _, rfl, .inl (SqL.of eL), _, rfl, _, rfl, l2, z, as, rfl, by omega, ⟨l2, ts, rfl, SqL.of (s36 _ _ (s3 _ _ el2)), Paired.imp (fun _ _ r => trep_tup trep_int _ _ _ _ (s3.trans s36).ts r) pl2⟩, by omega, fun t ht => (let ⟨x, y, e, _⟩ := ok1.ok t ht; ⟨x, y, e⟩), fun H7 s7 => ?_⟩
  refine ⟨rfl, _, rfl, ?_⟩
  rw [ly, cnt, decide_eq_true rfl]
  refine iteF ?_
  refine fun Sn hSn => ?_
  have s8 := Same.new hSn (.dT [])
  have eL8 := s8 _ _ (s7 _ _ eL)
  refine ⟨_, rfl, L, rfl, ⟨_, SqL.of eL8⟩, ?_⟩
  have pL8 : Paired (K55s.rTies K (upd H7 Sn (.dT []))) (setsOf nums hd) ys := K55s.ties_ts (s7.trans s8).ts pL
  have eS8 : (upd H7 Sn (.dT [])) Sn = some (.dT []) := upd_same
  have hW8 : WebAt K C (upd H7 Sn (.dT [])) p z (as.map srt) := hW.same (s36.trans (s7.trans s8))
  generalize upd H7 Sn (.dT []) = H8 at s8 eL8 pL8 eS8 hW8
  have LS : L ≠ Sn := ne_of eL8 eS8 (by intro z; cases z)
  obtain ⟨dw, jw, hp8, hj8⟩ := id hW8
  have pS : p ≠ Sn := ne_of hp8 eS8 (by intro z; cases z)
  have tsS : ∀ {H9 : Hp}, (∀ b o, b ≠ Sn → H8 b = some o → H9 b = some o) → TSm H8 H9 := fun {H9} k b u hb t => k b u (fun z => by
    rw [z, eS8] at hb
    cases hb
    obtain ⟨ys, e | ⟨o, e⟩⟩ := t
    · cases e
    · cases e) hb
  refine for_en (S := fun H xs => SqL K H L xs) (xs := ys) (fun i σ H9 => ∃ (o6 o7 : Option V) (kvs : List (List Key × V)), σ = [some (.ref a), some (.int z), some (.ref l2), some (.ref p), some (.ref L), some (.ref Sn), o6, o7] ∧ (∀ b o, b ≠ Sn → H8 b = some o → H9 b = some o) ∧ H9 Sn = some (.dT kvs) ∧ kvs.length ≤ i ∧ ∀ k, (valV kvs k).isSome = true → ∃ j s, j < i ∧ (setsOf nums hd)[j]? = some s ∧ k = kT s)
    ⟨none, none, [], rfl, fun b o _ e => e, eS8, Nat.zero_le _, fun k h => (by cases h)⟩ (fun i σ H9 _ ⟨_, _, _, _, k9, _⟩ => SqL.of (k9 _ _ LS eL8)) ?_ ?_
  · rintro i x σ H9 T1 hx hT1 ⟨o6, o7, kvs, rfl, k9, e9, kl, inv⟩
    obtain ⟨s, hs, b, rfl, hb⟩ := Paired.get pL8 hx
    have il := (List.getElem?_eq_some_iff.mp hs).1
    have bS : b ≠ Sn := ne_of hb eS8 (by intro z; cases z)
    have sT := Same.new hT1 (.tup [.int (i : Int), .ref b])
    have hbT := sT _ _ (k9 _ _ bS hb)
    have eST := sT _ _ e9
    refine ⟨T1, _, rfl, SqT.of upd_same, rfl, _, _, rfl, _, _, rfl, rfl, ?_⟩
    have hkey : (upd H9 T1 (.tup [.int (i : Int), .ref b])) b = some (.tup ((kT s).map kV)) := by rw [kT_kV]; exact hbT
    have none_ : valV kvs (kT s) = none := by
      cases e : valV kvs (kT s) with
      | none => rfl
      | some v =>
        obtain ⟨j, s', ji, hs', ek⟩ := inv (kT s) (by rw [e]; rfl)
        have := kT_inj ek
        subst this
        have := (List.getElem?_inj il nd).mp (hs.trans hs'.symm)
        omega
    refine ⟨_, rfl, b, _, rfl, SqT.of hbT, _, rfl, iteF ?_⟩
    refine ⟨_, rfl, _, rfl, Sn, _, rfl, DGet.t (k := kT s) eST hkey, _, rfl, ?_⟩
    rw [none_]
    refine iteF ?_
    refine ⟨fun σ' HA => σ' = [some (.ref a), some (.int z), some (.ref l2), some (.ref p), some (.ref L), some (.ref Sn), some (.int (i : Int)), some (.ref b)] ∧ Same (upd H9 T1 (.tup [.int (i : Int), .ref b])) HA, ?_, ?_⟩
    · refine ⟨_, rfl, _, _, rfl, rfl, (by show (0 : Int) < 16; decide), rfl, _, rfl, ?_⟩
      refine ite2 (fun _ => ?_) (fun _ => iteF ⟨rfl, Same.refl _⟩)
      refine fun y dy hy hdy ney => ?_
      have sy : Same (upd H9 T1 (.tup [.int (i : Int), .ref b])) (upd (upd (upd H9 T1 (.tup [.int (i : Int), .ref b])) dy (.own y)) y (.ins D dy [])) := fun c o e => by
        rw [upd_ne (ne_of_none e hy), upd_ne (ne_of_none e hdy)]
        exact e
      have hWy : WebAt K C (upd (upd (upd H9 T1 (.tup [.int (i : Int), .ref b])) dy (.own y)) y (.ins D dy [])) p z (as.map srt) := ⟨dw, jw, sy _ _ (sT _ _ (k9 _ _ pS hp8)), trep_tup (trep_tup trep_int) _ _ _ _ ((tsS k9).trans (sT.ts.trans sy.ts)) hj8⟩
      refine ⟨y, dy, _, rfl, upd_same, rfl, _, rfl, _, rfl, y, p, b, dy, z, as, up s, rfl, upd_same, hWy, .inr (SqT.of (sy _ _ hbT)), m1, m10, by omega, fun k hk => ?_, fun HB sB => ?_⟩
      · obtain ⟨x, hx, rfl⟩ := List.mem_map.mp hk
        have := (I.way s (List.mem_of_getElem? hs)).2 x hx
        omega
      · rw [Int.toNat_natCast, cov_of ((sem s).mp ((I.mem s).mp (List.mem_of_getElem? hs)))]
        exact ⟨_, rfl, iteF ⟨rfl, sy.trans sB⟩⟩
    · rintro σ HA ⟨rfl, sA⟩
      have eSA := sA _ _ eST
      refine ⟨_, rfl, _, rfl, Sn, _, rfl, .inr ⟨kvs, kT s, b, eSA, rfl, sA _ _ hkey, small1000 (by omega), rfl⟩, ?_⟩
      refine ⟨_, _, _, rfl, fun c o h e => by rw [upd_ne h]; exact sA _ _ (sT _ _ (k9 c o h e)), upd_same, ?_, fun k hk => ?_⟩
      · have := length_putK kvs (kT s) (.bl true)
        omega
      · rw [valV_put] at hk
        by_cases c : k = kT s
        · exact ⟨i, s, by omega, hs, c⟩
        · rw [if_neg c] at hk
          obtain ⟨j, s', ji, hs', ek⟩ := inv k hk
          exact ⟨j, s', by omega, hs', ek⟩
  · rintro σ H9 ⟨o6, o7, kvs, rfl, _⟩
    exact q _
end
end K55
end
def PySem.W.Fast.tw10517901725779852045 : Unit := ()
def PySem.W.Fast.tw1078133408022534612 : Unit := ()
def PySem.W.Fast.tw13381082569369196658 : Unit := ()
def PySem.W.Fast.tw15133828353862072136 : Unit := ()
def PySem.W.Fast.tw15280254487263762608 : Unit := ()
def PySem.W.Fast.tw15592428711777684010 : Unit := ()
def PySem.W.Fast.tw16396644398405545995 : Unit := ()
def PySem.W.Fast.tw1690208133521841783 : Unit := ()
def PySem.W.Fast.tw17444035645306886935 : Unit := ()
def PySem.W.Fast.tw18258900694264787283 : Unit := ()
def PySem.W.Fast.tw2565879010020695479 : Unit := ()
def PySem.W.Fast.tw3937848995742784459 : Unit := ()
def PySem.W.Fast.tw3987204694841609032 : Unit := ()
def PySem.W.Fast.tw5451531078988059145 : Unit := ()
def PySem.W.Fast.tw5751508079388458484 : Unit := ()
def PySem.W.Fast.tw8415771417420214907 : Unit := ()
def PySem.W.Fast.tw8794360197081255495 : Unit := ()
def PySem.W.Fast.tw9203793297087236043 : Unit := ()
namespace K55
open PySem L2 G
theorem all_mk {l : PySem.W.OpenLaw} {w : World} {K : PySem.W.Frag} {h : Heap} {mg : Str → Option Value} {fa C : Addr} (X : K.In h) (G : h.Ns mainGlobals mg) (hfa : mg "law" = some (.ref fa))
    {f1 : Addr} {od1 an1 : Option Addr} {sl1 : Array (Option Value)} {oc1 kV1 dc1 pm1 cd1 ct1 : Value}
    {f2 : Addr} {od2 an2 : Option Addr} {sl2 : Array (Option Value)} {oc2 kV2 dc2 pm2 cd2 ct2 : Value}
    {f3 : Addr} {od3 an3 : Option Addr} {sl3 : Array (Option Value)} {oc3 kV3 dc3 pm3 cd3 ct3 : Value}
    {f4 : Addr} {od4 an4 : Option Addr} {sl4 : Array (Option Value)} {oc4 kV4 dc4 pm4 cd4 ct4 : Value}
    {f5 : Addr} {od5 an5 : Option Addr} {sl5 : Array (Option Value)} {oc5 kV5 dc5 pm5 cd5 ct5 : Value}
    {f6 : Addr} {od6 an6 : Option Addr} {sl6 : Array (Option Value)} {oc6 kV6 dc6 pm6 cd6 ct6 : Value}
    {f7 : Addr} {od7 an7 : Option Addr} {sl7 : Array (Option Value)} {oc7 kV7 dc7 pm7 cd7 ct7 : Value}
    {f8 : Addr} {od8 an8 : Option Addr} {sl8 : Array (Option Value)} {oc8 kV8 dc8 pm8 cd8 ct8 : Value}
    {f9 : Addr} {od9 an9 : Option Addr} {sl9 : Array (Option Value)} {oc9 kV9 dc9 pm9 cd9 ct9 : Value}
    {f10 : Addr} {od10 an10 : Option Addr} {sl10 : Array (Option Value)} {oc10 kV10 dc10 pm10 cd10 ct10 : Value}
    {f11 : Addr} {od11 an11 : Option Addr} {sl11 : Array (Option Value)} {oc11 kV11 dc11 pm11 cd11 ct11 : Value}
    {f12 : Addr} {od12 an12 : Option Addr} {sl12 : Array (Option Value)} {oc12 kV12 dc12 pm12 cd12 ct12 : Value}
    {f13 : Addr} {od13 an13 : Option Addr} {sl13 : Array (Option Value)} {oc13 kV13 dc13 pm13 cd13 ct13 : Value}
    {f14 : Addr} {od14 an14 : Option Addr} {sl14 : Array (Option Value)} {oc14 kV14 dc14 pm14 cd14 ct14 : Value}
    {f15 : Addr} {od15 an15 : Option Addr} {sl15 : Array (Option Value)} {oc15 kV15 dc15 pm15 cd15 ct15 : Value}
    {f16 : Addr} {od16 an16 : Option Addr} {sl16 : Array (Option Value)} {oc16 kV16 dc16 pm16 cd16 ct16 : Value}
    {f17 : Addr} {od17 an17 : Option Addr} {sl17 : Array (Option Value)} {oc17 kV17 dc17 pm17 cd17 ct17 : Value}
    {f18 : Addr} {od18 an18 : Option Addr} {sl18 : Array (Option Value)} {oc18 kV18 dc18 pm18 cd18 ct18 : Value}
    {f19 : Addr} {od19 an19 : Option Addr} {sl19 : Array (Option Value)} {oc19 kV19 dc19 pm19 cd19 ct19 : Value}
    {f20 : Addr} {od20 an20 : Option Addr} {sl20 : Array (Option Value)} {oc20 kV20 dc20 pm20 cd20 ct20 : Value}
    {f21 : Addr} {od21 an21 : Option Addr} {sl21 : Array (Option Value)} {oc21 kV21 dc21 pm21 cd21 ct21 : Value}
    {f22 : Addr} {od22 an22 : Option Addr} {sl22 : Array (Option Value)} {oc22 kV22 dc22 pm22 cd22 ct22 : Value}
    (aC : PySem.W.nsIn K mainGlobals "Web" = some (some (.ref C)))
    (a1 : PySem.W.findIn K (.ref C) "__init__" = some (some (.ref f1))) (i1 : PySem.W.isFn K (.ref f1) = true) (l1 : K.lookup f1 = some ⟨oc1, od1, .func (PySem.W.fnOf "__init__" "Web.__init__" (defArgs sInit) (defBody sInit) (defScope sInit) .none kV1 dc1 pm1 an1 cd1 ct1), sl1⟩) (c1 : PySem.W.codeIn K cd1 "Web.__init__" = true) (k1 : PySem.W.keepIn K (.ref f1) = true)
    (a2 : PySem.W.findIn K (.ref C) "size" = some (some (.ref f2))) (i2 : PySem.W.isFn K (.ref f2) = true) (l2 : K.lookup f2 = some ⟨oc2, od2, .func (PySem.W.fnOf "size" "Web.size" (defArgs sSize) (defBody sSize) (defScope sSize) .none kV2 dc2 pm2 an2 cd2 ct2), sl2⟩) (c2 : PySem.W.codeIn K cd2 "Web.size" = true) (k2 : PySem.W.keepIn K (.ref f2) = true)
    (a3 : PySem.W.findIn K (.ref C) "ties" = some (some (.ref f3))) (i3 : PySem.W.isFn K (.ref f3) = true) (l3 : K.lookup f3 = some ⟨oc3, od3, .func (PySem.W.fnOf "ties" "Web.ties" (defArgs sTies) (defBody sTies) (defScope sTies) .none kV3 dc3 pm3 an3 cd3 ct3), sl3⟩) (c3 : PySem.W.codeIn K cd3 "Web.ties" = true) (k3 : PySem.W.keepIn K (.ref f3) = true)
    (a4 : PySem.W.findIn K (.ref C) "at" = some (some (.ref f4))) (i4 : PySem.W.isFn K (.ref f4) = true) (l4 : K.lookup f4 = some ⟨oc4, od4, .func (PySem.W.fnOf "at" "Web.at" (defArgs sAt) (defBody sAt) (defScope sAt) .none kV4 dc4 pm4 an4 cd4 ct4), sl4⟩) (c4 : PySem.W.codeIn K cd4 "Web.at" = true) (k4 : PySem.W.keepIn K (.ref f4) = true)
    (a5 : PySem.W.nsIn K mainGlobals "refuse_amounts" = some (some (.ref f5))) (l5 : K.lookup f5 = some ⟨oc5, od5, .func (PySem.W.fnOf "refuse_amounts" "refuse_amounts" (defArgs sAmt) (defBody sAmt) (defScope sAmt) .none kV5 dc5 pm5 an5 cd5 ct5), sl5⟩) (c5 : PySem.W.codeIn K cd5 "refuse_amounts" = true) (k5 : PySem.W.keepIn K (.ref f5) = true)
    (a6 : PySem.W.nsIn K mainGlobals "checked_ties" = some (some (.ref f6))) (l6 : K.lookup f6 = some ⟨oc6, od6, .func (PySem.W.fnOf "checked_ties" "checked_ties" (defArgs sChk) (defBody sChk) (defScope sChk) .none kV6 dc6 pm6 an6 cd6 ct6), sl6⟩) (c6 : PySem.W.codeIn K cd6 "checked_ties" = true) (k6 : PySem.W.keepIn K (.ref f6) = true)
    (a7 : PySem.W.nsIn K mainGlobals "refuse_points" = some (some (.ref f7))) (l7 : K.lookup f7 = some ⟨oc7, od7, .func (PySem.W.fnOf "refuse_points" "refuse_points" (defArgs sPts) (defBody sPts) (defScope sPts) .none kV7 dc7 pm7 an7 cd7 ct7), sl7⟩) (c7 : PySem.W.codeIn K cd7 "refuse_points" = true) (k7 : PySem.W.keepIn K (.ref f7) = true)
    (a8 : PySem.W.nsIn K mainGlobals "tie_counts" = some (some (.ref f8))) (l8 : K.lookup f8 = some ⟨oc8, od8, .func (PySem.W.fnOf "tie_counts" "tie_counts" (defArgs sCounts) (defBody sCounts) (defScope sCounts) .none kV8 dc8 pm8 an8 cd8 ct8), sl8⟩) (c8 : PySem.W.codeIn K cd8 "tie_counts" = true) (k8 : PySem.W.keepIn K (.ref f8) = true)
    (a9 : PySem.W.nsIn K mainGlobals "ties_within" = some (some (.ref f9))) (l9 : K.lookup f9 = some ⟨oc9, od9, .func (PySem.W.fnOf "ties_within" "ties_within" (defArgs sWithin) (defBody sWithin) (defScope sWithin) .none kV9 dc9 pm9 an9 cd9 ct9), sl9⟩) (c9 : PySem.W.codeIn K cd9 "ties_within" = true) (k9 : PySem.W.keepIn K (.ref f9) = true)
    (a10 : PySem.W.nsIn K mainGlobals "_law_cell" = some (some (.ref f10))) (l10 : K.lookup f10 = some ⟨oc10, od10, .func (PySem.W.fnOf "_law_cell" "_law_cell" (defArgs sCell) (defBody sCell) (defScope sCell) .none kV10 dc10 pm10 an10 cd10 ct10), sl10⟩) (c10 : PySem.W.codeIn K cd10 "_law_cell" = true) (k10 : PySem.W.keepIn K (.ref f10) = true)
    (a11 : PySem.W.nsIn K mainGlobals "_law_mixed" = some (some (.ref f11))) (l11 : K.lookup f11 = some ⟨oc11, od11, .func (PySem.W.fnOf "_law_mixed" "_law_mixed" (defArgs sMix) (defBody sMix) (defScope sMix) .none kV11 dc11 pm11 an11 cd11 ct11), sl11⟩) (c11 : PySem.W.codeIn K cd11 "_law_mixed" = true) (k11 : PySem.W.keepIn K (.ref f11) = true)
    (a12 : PySem.W.nsIn K mainGlobals "_law_draws" = some (some (.ref f12))) (l12 : K.lookup f12 = some ⟨oc12, od12, .func (PySem.W.fnOf "_law_draws" "_law_draws" (defArgs sDraw) (defBody sDraw) (defScope sDraw) .none kV12 dc12 pm12 an12 cd12 ct12), sl12⟩) (c12 : PySem.W.codeIn K cd12 "_law_draws" = true) (k12 : PySem.W.keepIn K (.ref f12) = true)
    (a13 : PySem.W.nsIn K mainGlobals "_law_web" = some (some (.ref f13))) (l13 : K.lookup f13 = some ⟨oc13, od13, .func (PySem.W.fnOf "_law_web" "_law_web" (defArgs sWeb) (defBody sWeb) (defScope sWeb) .none kV13 dc13 pm13 an13 cd13 ct13), sl13⟩) (c13 : PySem.W.codeIn K cd13 "_law_web" = true) (k13 : PySem.W.keepIn K (.ref f13) = true)
    (a14 : PySem.W.nsIn K mainGlobals "sets_of" = some (some (.ref f14))) (l14 : K.lookup f14 = some ⟨oc14, od14, .func (PySem.W.fnOf "sets_of" "sets_of" (defArgs K55s.sSets) (defBody K55s.sSets) (defScope K55s.sSets) .none kV14 dc14 pm14 an14 cd14 ct14), sl14⟩) (c14 : PySem.W.codeIn K cd14 "sets_of" = true) (k14 : PySem.W.keepIn K (.ref f14) = true)
    (a15 : PySem.W.nsIn K mainGlobals "least_graph" = some (some (.ref f15))) (l15 : K.lookup f15 = some ⟨oc15, od15, .func (PySem.W.fnOf "least_graph" "least_graph" (defArgs K55s.sGraph) (defBody K55s.sGraph) (defScope K55s.sGraph) .none kV15 dc15 pm15 an15 cd15 ct15), sl15⟩) (c15 : PySem.W.codeIn K cd15 "least_graph" = true) (k15 : PySem.W.keepIn K (.ref f15) = true)
    (a16 : PySem.W.nsIn K mainGlobals "reached_knots" = some (some (.ref f16))) (l16 : K.lookup f16 = some ⟨oc16, od16, .func (PySem.W.fnOf "reached_knots" "reached_knots" (defArgs K55s.sReach) (defBody K55s.sReach) (defScope K55s.sReach) .none kV16 dc16 pm16 an16 cd16 ct16), sl16⟩) (c16 : PySem.W.codeIn K cd16 "reached_knots" = true) (k16 : PySem.W.keepIn K (.ref f16) = true)
    (a17 : PySem.W.nsIn K mainGlobals "row_in_places" = some (some (.ref f17))) (l17 : K.lookup f17 = some ⟨oc17, od17, .func (PySem.W.fnOf "row_in_places" "row_in_places" (defArgs K55s.sIn) (defBody K55s.sIn) (defScope K55s.sIn) .none kV17 dc17 pm17 an17 cd17 ct17), sl17⟩) (c17 : PySem.W.codeIn K cd17 "row_in_places" = true) (k17 : PySem.W.keepIn K (.ref f17) = true)
    (a18 : PySem.W.nsIn K mainGlobals "grown" = some (some (.ref f18))) (l18 : K.lookup f18 = some ⟨oc18, od18, .func (PySem.W.fnOf "grown" "grown" (defArgs sGrown) (defBody sGrown) (defScope sGrown) .none kV18 dc18 pm18 an18 cd18 ct18), sl18⟩) (c18 : PySem.W.codeIn K cd18 "grown" = true) (k18 : PySem.W.keepIn K (.ref f18) = true)
    (a19 : PySem.W.nsIn K mainGlobals "points_behind" = some (some (.ref f19))) (l19 : K.lookup f19 = some ⟨oc19, od19, .func (PySem.W.fnOf "points_behind" "points_behind" (defArgs sBehind) (defBody sBehind) (defScope sBehind) .none kV19 dc19 pm19 an19 cd19 ct19), sl19⟩) (c19 : PySem.W.codeIn K cd19 "points_behind" = true) (k19 : PySem.W.keepIn K (.ref f19) = true)
    (a20 : PySem.W.nsIn K mainGlobals "_law_far" = some (some (.ref f20))) (l20 : K.lookup f20 = some ⟨oc20, od20, .func (PySem.W.fnOf "_law_far" "_law_far" (defArgs sFar) (defBody sFar) (defScope sFar) .none kV20 dc20 pm20 an20 cd20 ct20), sl20⟩) (c20 : PySem.W.codeIn K cd20 "_law_far" = true) (k20 : PySem.W.keepIn K (.ref f20) = true)
    (a21 : PySem.W.nsIn K mainGlobals "_law_sum" = some (some (.ref f21))) (l21 : K.lookup f21 = some ⟨oc21, od21, .func (PySem.W.fnOf "_law_sum" "_law_sum" (defArgs sSum) (defBody sSum) (defScope sSum) .none kV21 dc21 pm21 an21 cd21 ct21), sl21⟩) (c21 : PySem.W.codeIn K cd21 "_law_sum" = true) (k21 : PySem.W.keepIn K (.ref f21) = true)
    (a22 : PySem.W.nsIn K mainGlobals "law" = some (some (.ref f22))) (l22 : K.lookup f22 = some ⟨oc22, od22, .func (PySem.W.fnOf "law" "law" (defArgs sLaw) (defBody sLaw) (defScope sLaw) .none kV22 dc22 pm22 an22 cd22 ct22), sl22⟩) (c22 : PySem.W.codeIn K cd22 "law" = true) (k22 : PySem.W.keepIn K (.ref f22) = true)
    (pg : PySem.W.plainGet K C Str.empty = true) (hd : PySem.W.hasDictIn K C = true) (po : PySem.W.plainOver K C = true) (sa : PySem.W.findIn K (.ref C) "__setattr__" = some (some (.builtin "object.__setattr__"))) (mk : PySem.W.makesIn K C = true) (kc : PySem.W.keepIn K (.ref C) = true)
    (n0 : PySem.W.findIn K (.ref C) "amount" = some none)
    (n1 : PySem.W.findIn K (.ref C) "joints" = some none)
    {t0 : Tok} (v0 : PySem.W.nsIn K mainGlobals "MOST_POINTS" = some (some (.int 10 t0)))
    {t1 : Tok} (v1 : PySem.W.nsIn K mainGlobals "MOST_TIES" = some (some (.int 12 t1)))
    {t2 : Tok} (v2 : PySem.W.nsIn K mainGlobals "SEVERAL" = some (some (.int 2 t2)))
    (z0 : PySem.W.nsIn K mainGlobals "len" = some none)
    (z1 : PySem.W.nsIn K mainGlobals "range" = some none)
    (z2 : PySem.W.nsIn K mainGlobals "int" = some none)
    (z3 : PySem.W.nsIn K mainGlobals "max" = some none)
    (z4 : PySem.W.nsIn K mainGlobals "min" = some none)
    (z5 : PySem.W.nsIn K mainGlobals "sorted" = some none)
    (z6 : PySem.W.nsIn K mainGlobals "tuple" = some none)
    (z7 : PySem.W.nsIn K mainGlobals "list" = some none)
    (z8 : PySem.W.nsIn K mainGlobals "bool" = some none)
    (z9 : PySem.W.nsIn K mainGlobals "enumerate" = some none)
    (z10 : PySem.W.nsIn K mainGlobals "isinstance" = some none)
    {D : Addr} (y_D : PySem.W.nsIn K mainGlobals "Covers" = some (some (.ref D)))
    (pg_D : PySem.W.plainGet K D Str.empty = true)
    (hd_D : PySem.W.hasDictIn K D = true)
    (po_D : PySem.W.plainOver K D = true)
    (sa_D : PySem.W.findIn K (.ref D) "__setattr__" = some (some (.builtin "object.__setattr__")))
    (mk_D : PySem.W.makesIn K D = true)
    (kp_D : PySem.W.keepIn K (.ref D) = true)
    (ha_D : PySem.W.findIn K (.ref D) "__class__" = some (some (.builtin "object.__class__")))
    (hn_D : PySem.W.specialIn K (.builtin "object.__class__") "__get__" = some (some (.builtin "getset_descriptor.__get__")))
    (tk_D : PySem.W.takesIn K (.builtin "object.__class__") = some true)
    (hm_D : PySem.W.mroIn K D (.type "object") = some true)
    (is_D : PySem.W.kitOne K (.ref D) (.ref D) = some true)
    {Sv : Addr} (y_Sv : PySem.W.nsIn K mainGlobals "Sieve" = some (some (.ref Sv)))
    (pg_Sv : PySem.W.plainGet K Sv Str.empty = true)
    (hd_Sv : PySem.W.hasDictIn K Sv = true)
    (po_Sv : PySem.W.plainOver K Sv = true)
    (sa_Sv : PySem.W.findIn K (.ref Sv) "__setattr__" = some (some (.builtin "object.__setattr__")))
    (mk_Sv : PySem.W.makesIn K Sv = true)
    (kp_Sv : PySem.W.keepIn K (.ref Sv) = true)
    (ha_Sv : PySem.W.findIn K (.ref Sv) "__class__" = some (some (.builtin "object.__class__")))
    (hn_Sv : PySem.W.specialIn K (.builtin "object.__class__") "__get__" = some (some (.builtin "getset_descriptor.__get__")))
    (tk_Sv : PySem.W.takesIn K (.builtin "object.__class__") = some true)
    (hm_Sv : PySem.W.mroIn K Sv (.type "object") = some true)
    (is_Sv : PySem.W.kitOne K (.ref Sv) (.ref Sv) = some true)
    {Gw : Addr} (y_Gw : PySem.W.nsIn K mainGlobals "Growth" = some (some (.ref Gw)))
    (pg_Gw : PySem.W.plainGet K Gw Str.empty = true)
    (hd_Gw : PySem.W.hasDictIn K Gw = true)
    (po_Gw : PySem.W.plainOver K Gw = true)
    (sa_Gw : PySem.W.findIn K (.ref Gw) "__setattr__" = some (some (.builtin "object.__setattr__")))
    (mk_Gw : PySem.W.makesIn K Gw = true)
    (kp_Gw : PySem.W.keepIn K (.ref Gw) = true)
    (ha_Gw : PySem.W.findIn K (.ref Gw) "__class__" = some (some (.builtin "object.__class__")))
    (hn_Gw : PySem.W.specialIn K (.builtin "object.__class__") "__get__" = some (some (.builtin "getset_descriptor.__get__")))
    (tk_Gw : PySem.W.takesIn K (.builtin "object.__class__") = some true)
    (hm_Gw : PySem.W.mroIn K Gw (.type "object") = some true)
    (is_Gw : PySem.W.kitOne K (.ref Gw) (.ref Gw) = some true)
    (hi_D : PySem.W.findIn K (.ref D) "__init__" = some (some (.builtin "object.__init__")))
    (x_all : PySem.W.nsIn K mainGlobals "all" = some none)
    (x_set : PySem.W.nsIn K mainGlobals "set" = some none)
    (x_reversed : PySem.W.nsIn K mainGlobals "reversed" = some none)
    (s_amount : PySem.W.findIn K (.ref Sv) "amount" = some none)
    (s_rows : PySem.W.findIn K (.ref Sv) "rows" = some none)
    (s_head : PySem.W.findIn K (.ref Sv) "head" = some none)
    (g_web : PySem.W.findIn K (.ref Gw) "web" = some none)
    (g_rule : PySem.W.findIn K (.ref Gw) "rule" = some none)
    (g_amount : PySem.W.findIn K (.ref Gw) "amount" = some none)
    (g_behind : PySem.W.findIn K (.ref Gw) "behind" = some none)
    (g_rows : PySem.W.findIn K (.ref Gw) "rows" = some none)
    (g_known : PySem.W.findIn K (.ref Gw) "known" = some none)
    {f_allows : Addr} {od_allows an_allows : Option Addr} {sl_allows : Array (Option Value)} {oc_allows kV_allows dc_allows pm_allows cd_allows ct_allows : Value} (a_allows : PySem.W.findIn K (.ref D) "allows" = some (some (.ref f_allows)))
    (i_allows : PySem.W.isFn K (.ref f_allows) = true)
    (l_allows : K.lookup f_allows = some ⟨oc_allows, od_allows, .func (PySem.W.fnOf "allows" "Covers.allows" (defArgs sAllows) (defBody sAllows) (defScope sAllows) .none kV_allows dc_allows pm_allows an_allows cd_allows ct_allows), sl_allows⟩)
    (c_allows : PySem.W.codeIn K cd_allows "Covers.allows" = true)
    (q_allows : PySem.W.keepIn K (.ref f_allows) = true)
    {f_fits : Addr} {od_fits an_fits : Option Addr} {sl_fits : Array (Option Value)} {oc_fits kV_fits dc_fits pm_fits cd_fits ct_fits : Value} (a_fits : PySem.W.findIn K (.ref D) "fits" = some (some (.ref f_fits)))
    (i_fits : PySem.W.isFn K (.ref f_fits) = true)
    (l_fits : K.lookup f_fits = some ⟨oc_fits, od_fits, .func (PySem.W.fnOf "fits" "TiedPoints.fits" (defArgs sFits) (defBody sFits) (defScope sFits) .none kV_fits dc_fits pm_fits an_fits cd_fits ct_fits), sl_fits⟩)
    (c_fits : PySem.W.codeIn K cd_fits "TiedPoints.fits" = true)
    (q_fits : PySem.W.keepIn K (.ref f_fits) = true)
    {f_begun : Addr} {od_begun an_begun : Option Addr} {sl_begun : Array (Option Value)} {oc_begun kV_begun dc_begun pm_begun cd_begun ct_begun : Value} (a_begun : PySem.W.findIn K (.ref D) "begun" = some (some (.ref f_begun)))
    (i_begun : PySem.W.isFn K (.ref f_begun) = true)
    (l_begun : K.lookup f_begun = some ⟨oc_begun, od_begun, .func (PySem.W.fnOf "begun" "TiedPoints.begun" (defArgs sBegun) (defBody sBegun) (defScope sBegun) .none kV_begun dc_begun pm_begun an_begun cd_begun ct_begun), sl_begun⟩)
    (c_begun : PySem.W.codeIn K cd_begun "TiedPoints.begun" = true)
    (q_begun : PySem.W.keepIn K (.ref f_begun) = true)
    {f_taken : Addr} {od_taken an_taken : Option Addr} {sl_taken : Array (Option Value)} {oc_taken kV_taken dc_taken pm_taken cd_taken ct_taken : Value} (a_taken : PySem.W.findIn K (.ref D) "taken" = some (some (.ref f_taken)))
    (i_taken : PySem.W.isFn K (.ref f_taken) = true)
    (l_taken : K.lookup f_taken = some ⟨oc_taken, od_taken, .func (PySem.W.fnOf "taken" "TiedPoints.taken" (defArgs sTaken) (defBody sTaken) (defScope sTaken) .none kV_taken dc_taken pm_taken an_taken cd_taken ct_taken), sl_taken⟩)
    (c_taken : PySem.W.codeIn K cd_taken "TiedPoints.taken" = true)
    (q_taken : PySem.W.keepIn K (.ref f_taken) = true)
    {f_passed : Addr} {od_passed an_passed : Option Addr} {sl_passed : Array (Option Value)} {oc_passed kV_passed dc_passed pm_passed cd_passed ct_passed : Value} (a_passed : PySem.W.findIn K (.ref D) "passed" = some (some (.ref f_passed)))
    (i_passed : PySem.W.isFn K (.ref f_passed) = true)
    (l_passed : K.lookup f_passed = some ⟨oc_passed, od_passed, .func (PySem.W.fnOf "passed" "TiedPoints.passed" (defArgs sPassed) (defBody sPassed) (defScope sPassed) .none kV_passed dc_passed pm_passed an_passed cd_passed ct_passed), sl_passed⟩)
    (c_passed : PySem.W.codeIn K cd_passed "TiedPoints.passed" = true)
    (q_passed : PySem.W.keepIn K (.ref f_passed) = true)
    {f_ful : Addr} {od_ful an_ful : Option Addr} {sl_ful : Array (Option Value)} {oc_ful kV_ful dc_ful pm_ful cd_ful ct_ful : Value} (a_ful : PySem.W.findIn K (.ref D) "fulfilled" = some (some (.ref f_ful)))
    (i_ful : PySem.W.isFn K (.ref f_ful) = true)
    (l_ful : K.lookup f_ful = some ⟨oc_ful, od_ful, .func (PySem.W.fnOf "fulfilled" "TiedPoints.fulfilled" (defArgs sFul) (defBody sFul) (defScope sFul) .none kV_ful dc_ful pm_ful an_ful cd_ful ct_ful), sl_ful⟩)
    (c_ful : PySem.W.codeIn K cd_ful "TiedPoints.fulfilled" = true)
    (q_ful : PySem.W.keepIn K (.ref f_ful) = true)
    {f_left : Addr} {od_left an_left : Option Addr} {sl_left : Array (Option Value)} {oc_left kV_left dc_left pm_left cd_left ct_left : Value} (a_left : PySem.W.findIn K (.ref D) "left" = some (some (.ref f_left)))
    (i_left : PySem.W.isFn K (.ref f_left) = true)
    (l_left : K.lookup f_left = some ⟨oc_left, od_left, .func (PySem.W.fnOf "left" "Rule.left" (defArgs sLeft) (defBody sLeft) (defScope sLeft) .none kV_left dc_left pm_left an_left cd_left ct_left), sl_left⟩)
    (c_left : PySem.W.codeIn K cd_left "Rule.left" = true)
    (q_left : PySem.W.keepIn K (.ref f_left) = true)
    {f_sinit : Addr} {od_sinit an_sinit : Option Addr} {sl_sinit : Array (Option Value)} {oc_sinit kV_sinit dc_sinit pm_sinit cd_sinit ct_sinit : Value} (a_sinit : PySem.W.findIn K (.ref Sv) "__init__" = some (some (.ref f_sinit)))
    (i_sinit : PySem.W.isFn K (.ref f_sinit) = true)
    (l_sinit : K.lookup f_sinit = some ⟨oc_sinit, od_sinit, .func (PySem.W.fnOf "__init__" "Sieve.__init__" (defArgs K55s.sInit) (defBody K55s.sInit) (defScope K55s.sInit) .none kV_sinit dc_sinit pm_sinit an_sinit cd_sinit ct_sinit), sl_sinit⟩)
    (c_sinit : PySem.W.codeIn K cd_sinit "Sieve.__init__" = true)
    (q_sinit : PySem.W.keepIn K (.ref f_sinit) = true)
    {f_knots : Addr} {od_knots an_knots : Option Addr} {sl_knots : Array (Option Value)} {oc_knots kV_knots dc_knots pm_knots cd_knots ct_knots : Value} (a_knots : PySem.W.findIn K (.ref Sv) "knots" = some (some (.ref f_knots)))
    (i_knots : PySem.W.isFn K (.ref f_knots) = true)
    (l_knots : K.lookup f_knots = some ⟨oc_knots, od_knots, .func (PySem.W.fnOf "knots" "Sieve.knots" (defArgs K55s.sKnots) (defBody K55s.sKnots) (defScope K55s.sKnots) .none kV_knots dc_knots pm_knots an_knots cd_knots ct_knots), sl_knots⟩)
    (c_knots : PySem.W.codeIn K cd_knots "Sieve.knots" = true)
    (q_knots : PySem.W.keepIn K (.ref f_knots) = true)
    {f_stop : Addr} {od_stop an_stop : Option Addr} {sl_stop : Array (Option Value)} {oc_stop kV_stop dc_stop pm_stop cd_stop ct_stop : Value} (a_stop : PySem.W.findIn K (.ref Sv) "top" = some (some (.ref f_stop)))
    (i_stop : PySem.W.isFn K (.ref f_stop) = true)
    (l_stop : K.lookup f_stop = some ⟨oc_stop, od_stop, .func (PySem.W.fnOf "top" "Sieve.top" (defArgs K55s.sTop) (defBody K55s.sTop) (defScope K55s.sTop) .none kV_stop dc_stop pm_stop an_stop cd_stop ct_stop), sl_stop⟩)
    (c_stop : PySem.W.codeIn K cd_stop "Sieve.top" = true)
    (q_stop : PySem.W.keepIn K (.ref f_stop) = true)
    {f_ginit : Addr} {od_ginit an_ginit : Option Addr} {sl_ginit : Array (Option Value)} {oc_ginit kV_ginit dc_ginit pm_ginit cd_ginit ct_ginit : Value} (a_ginit : PySem.W.findIn K (.ref Gw) "__init__" = some (some (.ref f_ginit)))
    (i_ginit : PySem.W.isFn K (.ref f_ginit) = true)
    (l_ginit : K.lookup f_ginit = some ⟨oc_ginit, od_ginit, .func (PySem.W.fnOf "__init__" "Growth.__init__" (defArgs sGInit) (defBody sGInit) (defScope sGInit) .none kV_ginit dc_ginit pm_ginit an_ginit cd_ginit ct_ginit), sl_ginit⟩)
    (c_ginit : PySem.W.codeIn K cd_ginit "Growth.__init__" = true)
    (q_ginit : PySem.W.keepIn K (.ref f_ginit) = true)
    {f_knotat : Addr} {od_knotat an_knotat : Option Addr} {sl_knotat : Array (Option Value)} {oc_knotat kV_knotat dc_knotat pm_knotat cd_knotat ct_knotat : Value} (a_knotat : PySem.W.findIn K (.ref Gw) "knot_at" = some (some (.ref f_knotat)))
    (i_knotat : PySem.W.isFn K (.ref f_knotat) = true)
    (l_knotat : K.lookup f_knotat = some ⟨oc_knotat, od_knotat, .func (PySem.W.fnOf "knot_at" "Growth.knot_at" (defArgs sKnotAt) (defBody sKnotAt) (defScope sKnotAt) .none kV_knotat dc_knotat pm_knotat an_knotat cd_knotat ct_knotat), sl_knotat⟩)
    (c_knotat : PySem.W.codeIn K cd_knotat "Growth.knot_at" = true)
    (q_knotat : PySem.W.keepIn K (.ref f_knotat) = true)
    {f_past : Addr} {od_past an_past : Option Addr} {sl_past : Array (Option Value)} {oc_past kV_past dc_past pm_past cd_past ct_past : Value} (a_past : PySem.W.findIn K (.ref Gw) "past_points" = some (some (.ref f_past)))
    (i_past : PySem.W.isFn K (.ref f_past) = true)
    (l_past : K.lookup f_past = some ⟨oc_past, od_past, .func (PySem.W.fnOf "past_points" "Growth.past_points" (defArgs sPast) (defBody sPast) (defScope sPast) .none kV_past dc_past pm_past an_past cd_past ct_past), sl_past⟩)
    (c_past : PySem.W.codeIn K cd_past "Growth.past_points" = true)
    (q_past : PySem.W.keepIn K (.ref f_past) = true) :
    ∃ fd : FuncData, (∀ (s : Shared) (v : Value), BindsTo s fd ⟨[v], []⟩ [("_law_script", v)]) ∧ ∀ base : Heap, K.In base → base.Ns mainGlobals mg → FnOk l.prog w K mg base CX0 14 fa fd ["_law_script"] (spLaw K) := by
  have e := hfa.symm.trans (PySem.W.mg_of X G a22)
  cases e
  have F_init := fun_mk (st := sInit) l1 c1 k1
  have b_init := F_init.binds (ps := ["self", "many", "ties"]) fun _ _ _ _ _ _ us hl => match us, hl with | [_, _, _], _ => rfl
  have m_init : Meth K C "__init__" f1 := ⟨a1, i1, k1⟩
  have k_init := k1
  have F_size := fun_mk (st := sSize) l2 c2 k2
  have b_size := F_size.binds (ps := ["self"]) fun _ _ _ _ _ _ us hl => match us, hl with | [_], _ => rfl
  have m_size : Meth K C "size" f2 := ⟨a2, i2, k2⟩
  have k_size := k2
  have F_ties := fun_mk (st := sTies) l3 c3 k3
  have b_ties := F_ties.binds (ps := ["self"]) fun _ _ _ _ _ _ us hl => match us, hl with | [_], _ => rfl
  have m_ties : Meth K C "ties" f3 := ⟨a3, i3, k3⟩
  have k_ties := k3
  have F_at := fun_mk (st := sAt) l4 c4 k4
  have b_at := F_at.binds (ps := ["self", "point"]) fun _ _ _ _ _ _ us hl => match us, hl with | [_, _], _ => rfl
  have m_at : Meth K C "at" f4 := ⟨a4, i4, k4⟩
  have k_at := k4
  have F_amt := fun_mk (st := sAmt) l5 c5 k5
  have b_amt := F_amt.binds (ps := ["points", "ties"]) fun _ _ _ _ _ _ us hl => match us, hl with | [_, _], _ => rfl
  have m_amt := PySem.W.mg_of X G a5
  have k_amt := k5
  have F_chk := fun_mk (st := sChk) l6 c6 k6
  have b_chk := F_chk.binds (ps := ["many", "ties"]) fun _ _ _ _ _ _ us hl => match us, hl with | [_, _], _ => rfl
  have m_chk := PySem.W.mg_of X G a6
  have k_chk := k6
  have F_pts := fun_mk (st := sPts) l7 c7 k7
  have b_pts := F_pts.binds (ps := ["many", "tie"]) fun _ _ _ _ _ _ us hl => match us, hl with | [_, _], _ => rfl
  have m_pts := PySem.W.mg_of X G a7
  have k_pts := k7
  have F_counts := fun_mk (st := sCounts) l8 c8 k8
  have b_counts := F_counts.binds (ps := ["web", "some"]) fun _ _ _ _ _ _ us hl => match us, hl with | [_, _], _ => rfl
  have m_counts := PySem.W.mg_of X G a8
  have k_counts := k8
  have F_within := fun_mk (st := sWithin) l9 c9 k9
  have b_within := F_within.binds (ps := ["numbers", "some"]) fun _ _ _ _ _ _ us hl => match us, hl with | [_, _], _ => rfl
  have m_within := PySem.W.mg_of X G a9
  have k_within := k9
  have F_cell := fun_mk (st := sCell) l10 c10 k10
  have b_cell := F_cell.binds (ps := ["_law_script", "_law_k"]) fun _ _ _ _ _ _ us hl => match us, hl with | [_, _], _ => rfl
  have m_cell := PySem.W.mg_of X G a10
  have k_cell := k10
  have F_mix := fun_mk (st := sMix) l11 c11 k11
  have b_mix := F_mix.binds (ps := ["_law_cell_here", "_law_k"]) fun _ _ _ _ _ _ us hl => match us, hl with | [_, _], _ => rfl
  have m_mix := PySem.W.mg_of X G a11
  have k_mix := k11
  have F_draw := fun_mk (st := sDraw) l12 c12 k12
  have b_draw := F_draw.binds (ps := ["_law_cell_here", "_law_many", "_law_most"]) fun _ _ _ _ _ _ us hl => match us, hl with | [_, _, _], _ => rfl
  have m_draw := PySem.W.mg_of X G a12
  have k_draw := k12
  have F_web := fun_mk (st := sWeb) l13 c13 k13
  have b_web := F_web.binds (ps := ["_law_script", "_law_at"]) fun _ _ _ _ _ _ us hl => match us, hl with | [_, _], _ => rfl
  have m_web := PySem.W.mg_of X G a13
  have k_web := k13
  have F_sets := fun_mk (st := K55s.sSets) l14 c14 k14
  have b_sets := F_sets.binds (ps := ["sieve"]) fun _ _ _ _ _ _ us hl => match us, hl with | [_], _ => rfl
  have m_sets := PySem.W.mg_of X G a14
  have k_sets := k14
  have F_graph := fun_mk (st := K55s.sGraph) l15 c15 k15
  have b_graph := F_graph.binds (ps := ["n", "rows", "top"]) fun _ _ _ _ _ _ us hl => match us, hl with | [_, _, _], _ => rfl
  have m_graph := PySem.W.mg_of X G a15
  have k_graph := k15
  have F_reach := fun_mk (st := K55s.sReach) l16 c16 k16
  have b_reach := F_reach.binds (ps := ["rows", "top"]) fun _ _ _ _ _ _ us hl => match us, hl with | [_, _], _ => rfl
  have m_reach := PySem.W.mg_of X G a16
  have k_reach := k16
  have F_in := fun_mk (st := K55s.sIn) l17 c17 k17
  have b_in := F_in.binds (ps := ["places", "row"]) fun _ _ _ _ _ _ us hl => match us, hl with | [_, _], _ => rfl
  have m_in := PySem.W.mg_of X G a17
  have k_in := k17
  have F_grown := fun_mk (st := sGrown) l18 c18 k18
  have b_grown := F_grown.binds (ps := ["web", "rule"]) fun _ _ _ _ _ _ us hl => match us, hl with | [_, _], _ => rfl
  have m_grown := PySem.W.mg_of X G a18
  have k_grown := k18
  have F_behp := fun_mk (st := sBehind) l19 c19 k19
  have b_behp := F_behp.binds (ps := ["web", "number"]) fun _ _ _ _ _ _ us hl => match us, hl with | [_, _], _ => rfl
  have m_behp := PySem.W.mg_of X G a19
  have k_behp := k19
  have F_far := fun_mk (st := sFar) l20 c20 k20
  have b_far := F_far.binds (ps := ["_law_ties", "_law_gone"]) fun _ _ _ _ _ _ us hl => match us, hl with | [_, _], _ => rfl
  have m_far := PySem.W.mg_of X G a20
  have k_far := k20
  have F_sum := fun_mk (st := sSum) l21 c21 k21
  have b_sum := F_sum.binds (ps := ["_law_points", "_law_ties"]) fun _ _ _ _ _ _ us hl => match us, hl with | [_, _], _ => rfl
  have m_sum := PySem.W.mg_of X G a21
  have k_sum := k21
  have F_law := fun_mk (st := sLaw) l22 c22 k22
  have b_law := F_law.binds (ps := ["_law_script"]) fun _ _ _ _ _ _ us hl => match us, hl with | [_], _ => rfl
  have m_law := PySem.W.mg_of X G a22
  have k_law := k22
  have law_all : ∀ base : Heap, FnOk l.prog w K mg base CX0 14 _ _ ["_law_script"] (spLaw K) := fun base => by
    have T : Txt K mg C := ⟨⟨pg, hd, po, sa⟩, n0, n1, PySem.W.mg_of X G aC, ⟨_, PySem.W.mg_of X G v0⟩, ⟨_, PySem.W.mg_of X G v1⟩, PySem.W.mg_none_of X G z0, PySem.W.mg_none_of X G z1, PySem.W.mg_none_of X G z2, PySem.W.mg_none_of X G z3, PySem.W.mg_none_of X G z4, PySem.W.mg_none_of X G z5, PySem.W.mg_none_of X G z6, PySem.W.mg_none_of X G z7, PySem.W.mg_none_of X G z8, PySem.W.mg_none_of X G z9, PySem.W.mg_none_of X G z10⟩
    have GCell := ok_cell (P := l.prog) (w := w) (base := base) F_cell T
    have GMix := ok_mix (P := l.prog) (w := w) (mg := mg) (base := base) F_mix
    have GDraw := ok_draw F_draw T GMix b_mix k_mix m_mix
    have GWeb := ok_web F_web T GCell b_cell k_cell m_cell GDraw b_draw k_draw m_draw
    have GAmt := ok_amt (P := l.prog) (w := w) (base := base) F_amt T
    have GPts := ok_pts (P := l.prog) (w := w) (mg := mg) (base := base) F_pts
    have GChk := ok_chk F_chk T GPts b_pts k_pts m_pts
    have GInit := ok_init F_init T GAmt b_amt k_amt m_amt GChk b_chk k_chk m_chk
    have GSize := ok_size (P := l.prog) (w := w) (base := base) F_size T
    have GTies := ok_ties (P := l.prog) (w := w) (base := base) F_ties T
    have GAt := ok_at (P := l.prog) (w := w) (base := base) F_at T
    have GWithin := ok_within (P := l.prog) (w := w) (mg := mg) (base := base) F_within
    have GCounts := ok_counts F_counts T GSize b_size m_size GAt b_at m_at GWithin b_within k_within m_within
    have F_allows := fun_mk (st := sAllows) l_allows c_allows q_allows
    have b_allows := F_allows.binds (ps := ["self", "count"]) fun _ _ _ _ _ _ us hl => match us, hl with | [_, _], _ => rfl
    have m_allows : Meth K D "allows" f_allows := ⟨a_allows, i_allows, q_allows⟩
    have F_fits := fun_mk (st := sFits) l_fits c_fits q_fits
    have b_fits := F_fits.binds (ps := ["self", "web", "some"]) fun _ _ _ _ _ _ us hl => match us, hl with | [_, _, _], _ => rfl
    have m_fits : Meth K D "fits" f_fits := ⟨a_fits, i_fits, q_fits⟩
    have F_begun := fun_mk (st := sBegun) l_begun c_begun q_begun
    have b_begun := F_begun.binds (ps := ["self", "web"]) fun _ _ _ _ _ _ us hl => match us, hl with | [_, _], _ => rfl
    have m_begun : Meth K D "begun" f_begun := ⟨a_begun, i_begun, q_begun⟩
    have F_taken := fun_mk (st := sTaken) l_taken c_taken q_taken
    have b_taken := F_taken.binds (ps := ["self", "web", "state", "number"]) fun _ _ _ _ _ _ us hl => match us, hl with | [_, _, _, _], _ => rfl
    have m_taken : Meth K D "taken" f_taken := ⟨a_taken, i_taken, q_taken⟩
    have F_passed := fun_mk (st := sPassed) l_passed c_passed q_passed
    have b_passed := F_passed.binds (ps := ["self", "web", "state", "point"]) fun _ _ _ _ _ _ us hl => match us, hl with | [_, _, _, _], _ => rfl
    have m_passed : Meth K D "passed" f_passed := ⟨a_passed, i_passed, q_passed⟩
    have F_ful := fun_mk (st := sFul) l_ful c_ful q_ful
    have b_ful := F_ful.binds (ps := ["self", "web", "state"]) fun _ _ _ _ _ _ us hl => match us, hl with | [_, _, _], _ => rfl
    have m_ful : Meth K D "fulfilled" f_ful := ⟨a_ful, i_ful, q_ful⟩
    have F_left := fun_mk (st := sLeft) l_left c_left q_left
    have b_left := F_left.binds (ps := ["self", "web", "state", "number"]) fun _ _ _ _ _ _ us hl => match us, hl with | [_, _, _, _], _ => rfl
    have m_left : Meth K D "left" f_left := ⟨a_left, i_left, q_left⟩
    have F_sinit := fun_mk (st := K55s.sInit) l_sinit c_sinit q_sinit
    have b_sinit := F_sinit.binds (ps := ["self", "n", "rows", "head"]) fun _ _ _ _ _ _ us hl => match us, hl with | [_, _, _, _], _ => rfl
    have m_sinit : Meth K Sv "__init__" f_sinit := ⟨a_sinit, i_sinit, q_sinit⟩
    have F_knots := fun_mk (st := K55s.sKnots) l_knots c_knots q_knots
    have b_knots := F_knots.binds (ps := ["self"]) fun _ _ _ _ _ _ us hl => match us, hl with | [_], _ => rfl
    have m_knots : Meth K Sv "knots" f_knots := ⟨a_knots, i_knots, q_knots⟩
    have F_stop := fun_mk (st := K55s.sTop) l_stop c_stop q_stop
    have b_stop := F_stop.binds (ps := ["self"]) fun _ _ _ _ _ _ us hl => match us, hl with | [_], _ => rfl
    have m_stop : Meth K Sv "top" f_stop := ⟨a_stop, i_stop, q_stop⟩
    have F_ginit := fun_mk (st := sGInit) l_ginit c_ginit q_ginit
    have b_ginit := F_ginit.binds (ps := ["self", "web", "rule"]) fun _ _ _ _ _ _ us hl => match us, hl with | [_, _, _], _ => rfl
    have m_ginit : Meth K Gw "__init__" f_ginit := ⟨a_ginit, i_ginit, q_ginit⟩
    have F_knotat := fun_mk (st := sKnotAt) l_knotat c_knotat q_knotat
    have b_knotat := F_knotat.binds (ps := ["self", "number", "reached"]) fun _ _ _ _ _ _ us hl => match us, hl with | [_, _, _], _ => rfl
    have m_knotat : Meth K Gw "knot_at" f_knotat := ⟨a_knotat, i_knotat, q_knotat⟩
    have F_past := fun_mk (st := sPast) l_past c_past q_past
    have b_past := F_past.binds (ps := ["self", "number", "reached"]) fun _ _ _ _ _ _ us hl => match us, hl with | [_, _, _], _ => rfl
    have m_past : Meth K Gw "past_points" f_past := ⟨a_past, i_past, q_past⟩
    have TS : K55s.Txt K mg Sv := ⟨⟨pg_Sv, hd_Sv, po_Sv, sa_Sv⟩, s_amount, s_rows, s_head, PySem.W.mg_of X G y_Sv, ⟨_, PySem.W.mg_of X G v1⟩, PySem.W.mg_none_of X G z0, PySem.W.mg_none_of X G z1, PySem.W.mg_none_of X G z2, PySem.W.mg_none_of X G z5, PySem.W.mg_none_of X G x_set, PySem.W.mg_none_of X G z6, PySem.W.mg_none_of X G z7, PySem.W.mg_none_of X G z8, PySem.W.mg_none_of X G z9, PySem.W.mg_none_of X G x_all, PySem.W.mg_none_of X G z10, PySem.W.mg_none_of X G z4, PySem.W.mg_none_of X G x_reversed⟩
    have U : Rul K mg D := ⟨⟨pg_D, hd_D, po_D, sa_D⟩, mk_D, hi_D, kp_D, PySem.W.mg_of X G y_D, PySem.W.mg_none_of X G x_all, ⟨_, PySem.W.mg_of X G v2⟩⟩
    have O : Gro K mg Gw := ⟨⟨pg_Gw, hd_Gw, po_Gw, sa_Gw⟩, PySem.W.mg_of X G y_Gw, g_web, g_rule, g_amount, g_behind, g_rows, g_known⟩
    have GAllows := ok_allows (P := l.prog) (w := w) (mg := mg) (base := base) (D := D) F_allows
    have GFits := ok_fits F_fits U GAllows b_allows m_allows GCounts b_counts k_counts m_counts
    have GBegun := ok_begun (D := D) F_begun T GSize b_size m_size
    have GTaken := ok_taken F_taken T U GAllows b_allows m_allows GTies b_ties m_ties
    have GPassed := ok_passed F_passed T U GAllows b_allows m_allows
    have GFul := ok_ful (P := l.prog) (w := w) (mg := mg) (base := base) F_ful
    have GLeft := ok_left (P := l.prog) (w := w) (mg := mg) (base := base) F_left
    have GSInit := K55s.ok_init (P := l.prog) (w := w) (base := base) F_sinit TS
    have GKnots := K55s.ok_knots (P := l.prog) (w := w) (base := base) F_knots TS
    have GSTop := K55s.ok_top (P := l.prog) (w := w) (base := base) F_stop TS
    have GSets := K55s.ok_sets F_sets TS GKnots b_knots m_knots GSTop b_stop m_stop
    have GIn := K55s.ok_in (P := l.prog) (w := w) (mg := mg) (base := base) F_in
    have GReach := K55s.ok_reach (P := l.prog) (w := w) (base := base) F_reach TS
    have GGraph := K55s.ok_graph F_graph TS ⟨mk_Sv, a_sinit, i_sinit, kp_Sv⟩ GReach b_reach k_reach m_reach GIn b_in k_in m_in GSInit b_sinit
    have GBehP := ok_behP F_behp T GSize b_size m_size GAt b_at m_at
    have GGInit := ok_gInit (D := D) F_ginit T O GTies b_ties m_ties GBehP b_behp k_behp m_behp
    have GPast := ok_past (C := C) F_past U O GPassed b_passed m_passed
    have GKnotAt := ok_knotAt F_knotat T U O GPast b_past m_past GLeft b_left m_left GTaken b_taken m_taken GFul b_ful m_ful b_knotat m_knotat
    have GGrown := ok_grown F_grown U O ⟨mk_Gw, a_ginit, i_ginit, kp_Gw⟩ GGInit b_ginit GKnotAt b_knotat m_knotat GBegun b_begun m_begun GGraph b_graph k_graph m_graph
    have GFar := ok_far (P := l.prog) (w := w) (mg := mg) (base := base) F_far
    have GSum := ok_sum F_sum T GFar b_far k_far m_far
    exact ok_law F_law T U ⟨mk, a1, i1, kc⟩ GCell b_cell k_cell m_cell GWeb b_web k_web m_web GInit b_init GGrown b_grown k_grown m_grown GSets b_sets k_sets m_sets GSum b_sum k_sum m_sum GFits b_fits m_fits
  exact ⟨_, fun s v => .of_eq rfl, fun base _ _ => law_all base⟩
theorem walk {l : PySem.W.OpenLaw} {q : Program} {loose : List Str} {XP : (Str → Option Value) → Heap → Prop} {YP : World → Heap → Prop} {d : DefRec} {K : Params → PySem.W.Frag} (hn : l.most = some 63) (hdf : d.params.defaults = [])
    (hY : ∀ (w : World) (h : Heap), YP w h → (K w.params).In h)
    (F : ∀ (w : World) (mg : Str → Option Value) (fa : Addr) (h : Heap), (K w.params).In h → h.Ns mainGlobals mg → mg d.name = some (.ref fa) →
      ∃ fd : FuncData, (∀ (s : Shared) (u : Value), BindsTo s fd ⟨[u], []⟩ [("_law_script", u)]) ∧ ∀ base : Heap, (K w.params).In base → base.Ns mainGlobals mg → FnOk l.prog w (K w.params) mg base CX0 14 fa fd ["_law_script"] (spLaw (K w.params))) :
    PySem.W.WalkO q loose XP YP l.row.toRowW d [] (fun f vs => PySem.call f vs) :=
  L2.walk_of (n := 63) (k := 14) (x := "_law_script") (CX := fun _ => CX0) (sp := fun w => spLaw (K w.params)) hn (by decide) hdf ⟨rfl, by decide, by decide, rfl⟩ hY F (fun _ _ a ns hl _ hS => ⟨a, ns, rfl, hS, hl, fun _ => rfl⟩) fun _ _ _ _ _ z => z
end K55
open PySem PySem.W PyProof.Rows
set_option maxRecDepth 100000 in
set_option maxHeartbeats 0 in
theorem PySem.Challenge.cw_frontways_k55_whole_covers_counted_holds : PySem.Challenge.rw_frontways_k55_whole_covers_counted.Holds := by
  w_on; o_law; k_head; (case hw => w_witness2)
  k_fill
  refine K55.walk (l := PySem.Challenge.rw_frontways_k55_whole_covers_counted) rfl rfl (fun w h Y => PySem.W.kIn_of Y) ?F
  case F =>
    intro w mg fa h KX G hmg
    refine' K55.all_mk KX G hmg ?aC ?a1 ?i1 ?l1 ?c1 ?k1 ?a2 ?i2 ?l2 ?c2 ?k2 ?a3 ?i3 ?l3 ?c3 ?k3 ?a4 ?i4 ?l4 ?c4 ?k4 ?a5 ?l5 ?c5 ?k5 ?a6 ?l6 ?c6 ?k6 ?a7 ?l7 ?c7 ?k7 ?a8 ?l8 ?c8 ?k8 ?a9 ?l9 ?c9 ?k9 ?a10 ?l10 ?c10 ?k10 ?a11 ?l11 ?c11 ?k11 ?a12 ?l12 ?c12 ?k12 ?a13 ?l13 ?c13 ?k13 ?a14 ?l14 ?c14 ?k14 ?a15 ?l15 ?c15 ?k15 ?a16 ?l16 ?c16 ?k16 ?a17 ?l17 ?c17 ?k17 ?a18 ?l18 ?c18 ?k18 ?a19 ?l19 ?c19 ?k19 ?a20 ?l20 ?c20 ?k20 ?a21 ?l21 ?c21 ?k21 ?a22 ?l22 ?c22 ?k22 ?pg ?hd ?po ?sa ?mk ?kc ?n0 ?n1 ?v0 ?v1 ?v2 ?z0 ?z1 ?z2 ?z3 ?z4 ?z5 ?z6 ?z7 ?z8 ?z9 ?z10 ?y_D ?pg_D ?hd_D ?po_D ?sa_D ?mk_D ?kp_D ?ha_D ?hn_D ?tk_D ?hm_D ?is_D ?y_Sv ?pg_Sv ?hd_Sv ?po_Sv ?sa_Sv ?mk_Sv ?kp_Sv ?ha_Sv ?hn_Sv ?tk_Sv ?hm_Sv ?is_Sv ?y_Gw ?pg_Gw ?hd_Gw ?po_Gw ?sa_Gw ?mk_Gw ?kp_Gw ?ha_Gw ?hn_Gw ?tk_Gw ?hm_Gw ?is_Gw ?hi_D ?x_all ?x_set ?x_reversed ?s_amount ?s_rows ?s_head ?g_web ?g_rule ?g_amount ?g_behind ?g_rows ?g_known ?a_allows ?i_allows ?l_allows ?c_allows ?q_allows ?a_fits ?i_fits ?l_fits ?c_fits ?q_fits ?a_begun ?i_begun ?l_begun ?c_begun ?q_begun ?a_taken ?i_taken ?l_taken ?c_taken ?q_taken ?a_passed ?i_passed ?l_passed ?c_passed ?q_passed ?a_ful ?i_ful ?l_ful ?c_ful ?q_ful ?a_left ?i_left ?l_left ?c_left ?q_left ?a_sinit ?i_sinit ?l_sinit ?c_sinit ?q_sinit ?a_knots ?i_knots ?l_knots ?c_knots ?q_knots ?a_stop ?i_stop ?l_stop ?c_stop ?q_stop ?a_ginit ?i_ginit ?l_ginit ?c_ginit ?q_ginit ?a_knotat ?i_knotat ?l_knotat ?c_knotat ?q_knotat ?a_past ?i_past ?l_past ?c_past ?q_past
    (case aC => k_is)
    (case a1 => k_is)
    (case i1 => k_is)
    (case l1 => k_is)
    (case c1 => k_is)
    (case k1 => k_is)
    (case a2 => k_is)
    (case i2 => k_is)
    (case l2 => k_is)
    (case c2 => k_is)
    (case k2 => k_is)
    (case a3 => k_is)
    (case i3 => k_is)
    (case l3 => k_is)
    (case c3 => k_is)
    (case k3 => k_is)
    (case a4 => k_is)
    (case i4 => k_is)
    (case l4 => k_is)
    (case c4 => k_is)
    (case k4 => k_is)
    (case a5 => k_is)
    (case l5 => k_is)
    (case c5 => k_is)
    (case k5 => k_is)
    (case a6 => k_is)
    (case l6 => k_is)
    (case c6 => k_is)
    (case k6 => k_is)
    (case a7 => k_is)
    (case l7 => k_is)
    (case c7 => k_is)
    (case k7 => k_is)
    (case a8 => k_is)
    (case l8 => k_is)
    (case c8 => k_is)
    (case k8 => k_is)
    (case a9 => k_is)
    (case l9 => k_is)
    (case c9 => k_is)
    (case k9 => k_is)
    (case a10 => k_is)
    (case l10 => k_is)
    (case c10 => k_is)
    (case k10 => k_is)
    (case a11 => k_is)
    (case l11 => k_is)
    (case c11 => k_is)
    (case k11 => k_is)
    (case a12 => k_is)
    (case l12 => k_is)
    (case c12 => k_is)
    (case k12 => k_is)
    (case a13 => k_is)
    (case l13 => k_is)
    (case c13 => k_is)
    (case k13 => k_is)
    (case a14 => k_is)
    (case l14 => k_is)
    (case c14 => k_is)
    (case k14 => k_is)
    (case a15 => k_is)
    (case l15 => k_is)
    (case c15 => k_is)
    (case k15 => k_is)
    (case a16 => k_is)
    (case l16 => k_is)
    (case c16 => k_is)
    (case k16 => k_is)
    (case a17 => k_is)
    (case l17 => k_is)
    (case c17 => k_is)
    (case k17 => k_is)
    (case a18 => k_is)
    (case l18 => k_is)
    (case c18 => k_is)
    (case k18 => k_is)
    (case a19 => k_is)
    (case l19 => k_is)
    (case c19 => k_is)
    (case k19 => k_is)
    (case a20 => k_is)
    (case l20 => k_is)
    (case c20 => k_is)
    (case k20 => k_is)
    (case a21 => k_is)
    (case l21 => k_is)
    (case c21 => k_is)
    (case k21 => k_is)
    (case a22 => k_is)
    (case l22 => k_is)
    (case c22 => k_is)
    (case k22 => k_is)
    (case pg => k_is)
    (case hd => k_is)
    (case po => k_is)
    (case sa => k_is)
    (case mk => k_is)
    (case kc => k_is)
    (case n0 => k_is)
    (case n1 => k_is)
    (case v0 => k_is)
    (case v1 => k_is)
    (case v2 => k_is)
    (case z0 => k_is)
    (case z1 => k_is)
    (case z2 => k_is)
    (case z3 => k_is)
    (case z4 => k_is)
    (case z5 => k_is)
    (case z6 => k_is)
    (case z7 => k_is)
    (case z8 => k_is)
    (case z9 => k_is)
    (case z10 => k_is)
    (case y_D => k_is)
    (case pg_D => k_is)
    (case hd_D => k_is)
    (case po_D => k_is)
    (case sa_D => k_is)
    (case mk_D => k_is)
    (case kp_D => k_is)
    (case ha_D => k_is)
    (case hn_D => k_is)
    (case tk_D => k_is)
    (case hm_D => k_is)
    (case is_D => kit_is)
    (case y_Sv => k_is)
    (case pg_Sv => k_is)
    (case hd_Sv => k_is)
    (case po_Sv => k_is)
    (case sa_Sv => k_is)
    (case mk_Sv => k_is)
    (case kp_Sv => k_is)
    (case ha_Sv => k_is)
    (case hn_Sv => k_is)
    (case tk_Sv => k_is)
    (case hm_Sv => k_is)
    (case is_Sv => kit_is)
    (case y_Gw => k_is)
    (case pg_Gw => k_is)
    (case hd_Gw => k_is)
    (case po_Gw => k_is)
    (case sa_Gw => k_is)
    (case mk_Gw => k_is)
    (case kp_Gw => k_is)
    (case ha_Gw => k_is)
    (case hn_Gw => k_is)
    (case tk_Gw => k_is)
    (case hm_Gw => k_is)
    (case is_Gw => kit_is)
    (case hi_D => k_is)
    (case x_all => k_is)
    (case x_set => k_is)
    (case x_reversed => k_is)
    (case s_amount => k_is)
    (case s_rows => k_is)
    (case s_head => k_is)
    (case g_web => k_is)
    (case g_rule => k_is)
    (case g_amount => k_is)
    (case g_behind => k_is)
    (case g_rows => k_is)
    (case g_known => k_is)
    (case a_allows => k_is)
    (case i_allows => k_is)
    (case l_allows => k_is)
    (case c_allows => k_is)
    (case q_allows => k_is)
    (case a_fits => k_is)
    (case i_fits => k_is)
    (case l_fits => k_is)
    (case c_fits => k_is)
    (case q_fits => k_is)
    (case a_begun => k_is)
    (case i_begun => k_is)
    (case l_begun => k_is)
    (case c_begun => k_is)
    (case q_begun => k_is)
    (case a_taken => k_is)
    (case i_taken => k_is)
    (case l_taken => k_is)
    (case c_taken => k_is)
    (case q_taken => k_is)
    (case a_passed => k_is)
    (case i_passed => k_is)
    (case l_passed => k_is)
    (case c_passed => k_is)
    (case q_passed => k_is)
    (case a_ful => k_is)
    (case i_ful => k_is)
    (case l_ful => k_is)
    (case c_ful => k_is)
    (case q_ful => k_is)
    (case a_left => k_is)
    (case i_left => k_is)
    (case l_left => k_is)
    (case c_left => k_is)
    (case q_left => k_is)
    (case a_sinit => k_is)
    (case i_sinit => k_is)
    (case l_sinit => k_is)
    (case c_sinit => k_is)
    (case q_sinit => k_is)
    (case a_knots => k_is)
    (case i_knots => k_is)
    (case l_knots => k_is)
    (case c_knots => k_is)
    (case q_knots => k_is)
    (case a_stop => k_is)
    (case i_stop => k_is)
    (case l_stop => k_is)
    (case c_stop => k_is)
    (case q_stop => k_is)
    (case a_ginit => k_is)
    (case i_ginit => k_is)
    (case l_ginit => k_is)
    (case c_ginit => k_is)
    (case q_ginit => k_is)
    (case a_knotat => k_is)
    (case i_knotat => k_is)
    (case l_knotat => k_is)
    (case c_knotat => k_is)
    (case q_knotat => k_is)
    (case a_past => k_is)
    (case i_past => k_is)
    (case l_past => k_is)
    (case c_past => k_is)
    (case q_past => k_is)
