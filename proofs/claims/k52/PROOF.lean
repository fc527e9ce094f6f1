import PyProof.Rows.All
import Wide.All
import OpenK.AllK
import Wide.FinOn
import Lean
import PyProof.EqAt
import PyProof.EqKinds
import PyProof.TupleCall
import PyProof.ZipIter
import PyProof.Rows.SetFrom
import PyProof.Rows.SortStr
import KE.KDictList
import PyProof.AttrMissHeap
import KE.KDictOf
import KE.KDictLaws
import KE.KRevIter
import PyProof.CollectIter
import PyProof.FactsAll.range_2
import PyProof.FactsAll.range_iterator_1
import PyProof.WalksEnum
import PyProof.EnumMake
import PySem.Challenge.RW_slackchain_k52_which_is_fairer
-- CHANGE: your row's module here, as the last of these rows
set_option Elab.async false
set_option linter.all false
set_option maxRecDepth 100000
namespace L2
open PySem PySem.Spec PyProof.Rows

/-- a key: a truth or a str -/
abbrev Key := Sum Bool Str
def isBoolOf : Bool → Value → Bool
  | b, .bool c => b == c
  | _, _ => false
theorem isBoolOf_shape {b : Bool} {v : Value} (h : isBoolOf b v = true) : v = .bool b := by
  cases v <;> simp_all [isBoolOf]
def keyIs : Key → Value → Bool
  | .inl k, v => isBoolOf k v
  | .inr x, v => Value.isStrOf x v
def keyH (w : World) : Key → Int
  | .inl k => hashInt (if k then 1 else 0)
  | .inr x => hashStr w x
theorem keyIs_shape : ∀ {k : Key} {v : Value}, keyIs k v = true → (∃ i, k = Sum.inl i ∧ v = Value.bool i) ∨ (∃ x t, k = Sum.inr x ∧ v = Value.str x t)
  | .inl i, v, h => .inl ⟨i, rfl, isBoolOf_shape h⟩
  | .inr x, v, h => by
    obtain ⟨t, e⟩ := Value.isStrOf_shape (x := x) (v := v) h
    exact .inr ⟨x, t, rfl, e⟩
theorem keyIs_bool (i : Bool) : keyIs (.inl i) (.bool i) = true := by simp [keyIs, isBoolOf]
theorem keyIs_str (x : Str) (t : Tok) : keyIs (.inr x) (.str x t) = true := by simp [keyIs, Value.isStrOf]
theorem key_ll (a b : Bool) : decide ((Sum.inl a : Key) = Sum.inl b) = (a == b) := by cases a <;> cases b <;> rfl
theorem key_rr (a b : Str) : decide ((Sum.inr a : Key) = Sum.inr b) = decide (a = b) := by
  by_cases e : a = b
  · subst e; simp
  · have h : ¬ (Sum.inr a : Key) = Sum.inr b := fun q => e (Sum.inr.inj q)
    rw [decide_eq_false h, decide_eq_false e]
theorem key_lr (a : Bool) (b : Str) : decide ((Sum.inl a : Key) = Sum.inr b) = false := decide_eq_false (fun q => nomatch q)
theorem key_rl (a : Str) (b : Bool) : decide ((Sum.inr a : Key) = Sum.inl b) = false := decide_eq_false (fun q => nomatch q)
theorem pyHash_bool {prog : Program} {w : World} {A : Around} {E : Value → Shared → Prop} {s : Shared} {b : Bool} {Q : Int → Shared → Prop} (h : Q (hashInt (if b then 1 else 0)) { s with toks := s.toks + 1 }) :
    wpAny (model prog w) A (pyHash (.bool b)) Q E s := by
  have hr := rawHash_range (if b then 1 else 0)
  have hT : s.TypeIs (.bool b) "bool" := rfl
  unfold pyHash
  have hv : [Value.bool b].any Value.onHeap = false := rfl
  refine wpAny_bind ?_
  rw [cRoomFor, if_neg (by rw [hv]; exact Bool.false_ne_true)]; refine wpAny_pure ?_
  refine wpAny_bind (wpAny_specialOf hT F.slot_bool_hash.lookup ?_)
  show wpAny _ _ (if (some (Value.builtin "int.__hash__") == some Value.none) = true then _ else _) Q E s
  rw [if_neg (by rw [beq_builtin_none]; exact Bool.false_ne_true)]
  refine wpAny_bind (wpAny_specialOf hT F.slot_bool_hash.lookup ?_)
  show wpAny _ _ (callSpecialIfBoundUnlessNone? (.bool b) "__hash__" _ >>= _) Q E s
  refine wpAny_bind (wpAny_callSpecialIfBoundUnlessNone?_slot hT F.slot_bool_hash
    (wpAny_call_entry F.slot_bool_hash hT entry_int_hash
      (show wpAny _ _ (do ret (← mkInt (rawHash (if b then 1 else 0)))) _ _ s from wpAny_ret_mkInt ?_) (args_int_hash _)))
  show wpAny _ _ (if (decide (-(2 : Int) ^ 63 ≤ rawHash (if b then 1 else 0)) && decide (rawHash (if b then 1 else 0) < 2 ^ 63)) = true then _ else _) Q E _
  rw [if_pos (by rw [decide_eq_true hr.1, decide_eq_true hr.2]; rfl)]
  exact wpAny_pure h

def mixKind (prog : Program) (w : World) : PySem.KeyKind prog w Key where
  is := keyIs
  hash := keyH w
  inj := fun v a b ha hb => by
    rcases keyIs_shape ha with ⟨i, rfl, rfl⟩ | ⟨x, t, rfl, rfl⟩
    · rcases keyIs_shape hb with ⟨j, rfl, e⟩ | ⟨y, u, rfl, e⟩
      · injection e with e1; rw [e1]
      · exact nomatch e
    · rcases keyIs_shape hb with ⟨j, rfl, e⟩ | ⟨y, u, rfl, e⟩
      · exact nomatch e
      · injection e with e1 _; rw [e1]
  byValue := fun k v h => by
    rcases keyIs_shape h with ⟨i, rfl, rfl⟩ | ⟨x, t, rfl, rfl⟩ <;> rfl
  pyHash := fun hv h => by
    rcases keyIs_shape hv with ⟨i, rfl, rfl⟩ | ⟨x, t, rfl, rfl⟩
    · exact pyHash_bool h
    · exact wpAny_pyHash_str h
  eqBool := fun hu hv h => by
    rcases keyIs_shape hu with ⟨i, rfl, rfl⟩ | ⟨x, t, rfl, rfl⟩
    · rcases keyIs_shape hv with ⟨j, rfl, rfl⟩ | ⟨y, u, rfl, rfl⟩
      · rw [key_ll] at h; exact SeqAt.EqAt.bool_bool i j _ _ _ _ h
      · rw [key_lr] at h; exact SeqAt.EqAt.bool_str i y u _ _ _ _ h
    · rcases keyIs_shape hv with ⟨j, rfl, rfl⟩ | ⟨y, u, rfl, rfl⟩
      · rw [key_rl] at h; exact SeqAt.EqAt.str_bool x t j _ _ _ _ h
      · rw [key_rr] at h; exact wpAny_eqBool_str h
  «strs» := fun k x t v h => by
    rcases keyIs_shape h with ⟨i, rfl, e⟩ | ⟨y, u, rfl, e⟩
    · exact nomatch e
    · injection e with e1 _
      subst e1
      cases v <;> rfl

theorem mixKind_bool (prog : Program) (w : World) (i : Bool) : (mixKind prog w).is (.inl i) (.bool i) = true := keyIs_bool i
theorem mixKind_str (prog : Program) (w : World) (x : Str) (t : Tok) : (mixKind prog w).is (.inr x) (.str x t) = true := keyIs_str x t
end L2

namespace L2
open PySem PySem.Spec PyProof.Rows

/-- a value, without the heap -/
inductive V where
  | non | bl (b : Bool) | int (i : Int) | str (x : Str) | byt (b : Array UInt8) | flt (b : UInt64) | ref (a : Addr) | ty (n : String)
  deriving DecidableEq

def RelV : V → Value → Prop
  | .non, u => u = Value.none
  | .bl b, u => u = Value.bool b
  | .int i, u => ∃ t, u = Value.int i t
  | .str x, u => ∃ t, u = Value.str x t
  | .byt b, u => ∃ t, u = Value.bytes b t
  | .flt b, u => ∃ t, u = Value.float b t
  | .ref a, u => u = Value.ref a
  | .ty n, u => u = Value.type n

abbrev Vals : List V → List Value → Prop := Paired RelV
theorem Vals.length {xs : List V} {us : List Value} (r : Vals xs us) : xs.length = us.length := Paired.length r
theorem Vals.get : ∀ {xs : List V} {us : List Value} {i : Nat} {x : V}, Vals xs us → xs[i]? = some x → ∃ u, us[i]? = some u ∧ RelV x u
  | _, _, _, _, .nil, e => by simp at e
  | _, _, 0, _, .cons r _, e => by simp at e; subst e; exact ⟨_, rfl, r⟩
  | _, _, i + 1, x, .cons _ t, e => by
    obtain ⟨u, h1, h2⟩ := Vals.get (i := i) (x := x) t (by simpa using e)
    exact ⟨u, by simpa using h1, h2⟩
theorem Vals.set {x : V} {u : Value} (r : RelV x u) : ∀ {xs : List V} {us : List Value} (i : Nat), Vals xs us → Vals (xs.set i x) (us.set i u)
  | _, _, _, .nil => .nil
  | _, _, 0, .cons _ t => .cons r t
  | _, _, i + 1, .cons q t => .cons q (Vals.set r i t)
theorem Vals.append : ∀ {xs ys : List V} {us ws : List Value}, Vals xs us → Vals ys ws → Vals (xs ++ ys) (us ++ ws)
  | _, _, _, _, .nil, s => s
  | _, _, _, _, .cons r t, s => .cons r (Vals.append t s)
theorem Vals.take : ∀ {xs : List V} {us : List Value} (n : Nat), Vals xs us → Vals (xs.take n) (us.take n)
  | _, _, 0, _ => .nil
  | _, _, _ + 1, .nil => .nil
  | _, _, n + 1, .cons r t => .cons r (Vals.take n t)
theorem Vals.drop : ∀ {xs : List V} {us : List Value} (n : Nat), Vals xs us → Vals (xs.drop n) (us.drop n)
  | _, _, 0, r => r
  | _, _, _ + 1, .nil => .nil
  | _, _, n + 1, .cons _ t => Vals.drop n t
def RelO : Option V → Option Value → Prop
  | some v, some u => RelV v u
  | none, none => True
  | _, _ => False
def KV {κ : Type} : List (κ × V) → List (κ × Value) → Prop := Paired fun (p : κ × V) (q : κ × Value) => p.1 = q.1 ∧ RelV p.2 q.2

/-- a key of a dict (00_mix): an int or a text -/
def kV : Key → V
  | .inl i => .bl i
  | .inr x => .str x

/-- what stands at a tracked address -/
inductive HO where
  /-- a list -/
  | lst (xs : List V)
  /-- a tuple (never changes) -/
  | tup (xs : List V)
  /-- a dict whose keys are ints and texts; one whose keys are tuples of ints and texts (the empty one is both) -/
  | dK (kvs : List (Key × V)) | dT (kvs : List (List Key × V))
  /-- a set of ints: its members, its size -/
  | set (S : Int → Bool) (n : Nat)
  /-- an instance of the class at C, its dict at dx, its attributes -/
  | ins (C dx : Addr) (fs : List (Str × V))
  /-- the dict of the instance at x -/
  | own (x : Addr)
  /-- the dict of an exception -/
  | xd (fs : List (Str × V))
  /-- a bound method, f of x -/
  | met (f x : Addr)
  /-- a range object lo, lo + 1, .. below hi -/
  | rng (lo hi : Int)
  /-- a thing that is known to the object (the script; a dict while a loop walks it): read, never written while it is so -/
  | frz (o : Obj) (u : HO)
  /-- a code object's table -/
  | tbl (ps : Array Value)
  /-- any other thing, by what is true of its one object (a def of one's own: SetO a S n := HO.ext fun h => ..) -/
  | ext (φ : Heap → Prop)

abbrev Hp := Addr → Option HO
def upd (H : Hp) (a : Addr) (o : HO) : Hp := fun b => if b = a then some o else H b
theorem upd_same {H : Hp} {a : Addr} {o : HO} : upd H a o a = some o := by unfold upd; rw [if_pos rfl]
theorem upd_ne {H : Hp} {a b : Addr} {o : HO} (h : b ≠ a) : upd H a o b = H b := by unfold upd; rw [if_neg h]
/-- two objects of different content stand apart -/
theorem ne_of {H : Hp} {a b : Addr} {o u : HO} (h : H a = some o) (h' : H b = some u) (d : o ≠ u) : a ≠ b := by
  intro e; subst e; rw [h] at h'; exact d (Option.some.inj h')
theorem ne_of_none {H : Hp} {a b : Addr} {o : HO} (h : H a = some o) (h' : H b = none) : a ≠ b := by
  intro e; subst e; rw [h] at h'; cases h'

section
variable (P : Program) (w : World)
def ObjOk (H : Hp) (h : Heap) (a : Addr) : HO → Prop
  | .lst xs => xs.length ≤ sizeLine ∧ ∃ (its : List Value) (n : Nat), Vals xs its ∧ h.get? a = some { cls := .type "list", data := .seq its.toArray n }
  | .tup xs => xs.length ≤ sizeLine ∧ ∃ its : List Value, Vals xs its ∧ IsTup h a its.toArray
  | .dK kvs => kvs.length ≤ sizeLine ∧ (a == sysModules) = false ∧ ∃ vs, KV kvs vs ∧ h.DictOf (mixKind P w) a vs
  | .dT kvs => kvs.length ≤ sizeLine ∧ (a == sysModules) = false ∧ ∃ xs : List (List Key × Addr × Value),
      Paired (fun (p : List Key × V) (q : List Key × Addr × Value) => p.1 = q.1 ∧ H q.2.1 = some (.tup (p.1.map kV)) ∧ RelV p.2 q.2.2) kvs xs ∧
      ∃ o es ep, h.get? a = some o ∧ o.ExactDict ∧ o.data = .dict es ep ∧ es.toList = xs.map (entryOfKey (tupleKind (mixKind P w))) ∧ (xs.map (·.1)).Nodup
  | .set S n => h.SetOf (intKind P w) a S n
  | .ins C dx fs => H dx = some (.own a) ∧ fs.length ≤ 1000 ∧ dx ≠ a ∧ h.get? a = some (PySem.W.instObj C dx) ∧
      ∃ mA, h.Ns1 dx mA ∧ (∀ f, RelO (fs.lookup f) (mA f)) ∧ PySem.Within mA (fs.map (·.1))
  | .own _ => ∃ o, h.get? a = some o
  | .xd fs => ∃ mA, h.Ns1 a mA ∧ ∀ f, RelO (fs.lookup f) (mA f)
  | .rng lo hi => ∃ t u v, h.get? a = some { cls := .type "range", data := .fields #[.int lo t, .int hi u, .int 1 v] }
  | .frz o u => h.get? a = some o ∧ ObjOk H h a u
  | .tbl ps => h.get? a = some { cls := .none, data := .fields ps }
  | .met f x => h.get? a = some (PySem.W.methodObj (.ref f) (.ref x))
  | .ext φ => φ h ∧ (∃ o, h.get? a = some o) ∧ ∀ h1 h2 : Heap, φ h1 → (∀ o, h1.get? a = some o → h2.get? a = some o) → φ h2
/-- the abstract heap is held -/
def HOk (H : Hp) (h : Heap) : Prop := ∀ a o, H a = some o → ObjOk P w H h a o
end

section
variable {P : Program} {w : World} {H H' : Hp} {h h' : Heap} {a : Addr} {o : HO}
theorem ObjOk.lt (x : ObjOk P w H h a o) : a < h.objs.size := by
  cases o with
  | lst xs => obtain ⟨_, _, _, _, e⟩ := x; exact Heap.lt_size e
  | tup xs => obtain ⟨_, _, _, p⟩ := x; exact p.lt
  | dK kvs => obtain ⟨_, _, _, _, o, _, _, e, _⟩ := x; exact Heap.lt_size e
  | dT kvs => obtain ⟨_, _, _, _, o, _, _, e, _⟩ := x; exact Heap.lt_size e
  | set S n => obtain ⟨o, _, _, _, e, _⟩ := x; exact Heap.lt_size e
  | ins C dx fs => obtain ⟨_, _, _, e, _⟩ := x; exact Heap.lt_size e
  | own y => obtain ⟨_, e⟩ := x; exact Heap.lt_size e
  | xd fs => obtain ⟨_, ⟨_, _, _, e, _⟩, _⟩ := x; exact Heap.lt_size e
  | rng lo hi => obtain ⟨_, _, _, e⟩ := x; exact Heap.lt_size e
  | frz ob u => obtain ⟨e, _⟩ := x; exact Heap.lt_size e
  | tbl ps => exact Heap.lt_size (show h.get? a = some _ from x)
  | met f y => exact Heap.lt_size (show h.get? a = some _ from x)
  | ext φ => obtain ⟨_, ⟨_, e⟩, _⟩ := x; exact Heap.lt_size e
theorem Paired.mapP {α β : Type} {F G : α → β → Prop} : ∀ {l₁ : List α} {l₂ : List β}, Paired F l₁ l₂ → (∀ a b, F a b → G a b) → Paired G l₁ l₂
  | _, _, .nil, _ => .nil
  | _, _, .cons r t, f => .cons (f _ _ r) (Paired.mapP t f)
/-- what an object's description leans on: its own object, its own dict, the tuples -/
theorem ObjOk.stay (x : ObjOk P w H h a o) (k : ∀ b u, (b = a ∨ H b = some (.own a)) → h.get? b = some u → h'.get? b = some u)
    (ho : ∀ b, H b = some (.own a) → H' b = some (.own a)) (ht : ∀ b xs, H b = some (.tup xs) → H' b = some (.tup xs)) : ObjOk P w H' h' a o := by
  induction o with
  | lst xs => obtain ⟨z, its, n, r, e⟩ := x; exact ⟨z, its, n, r, k _ _ (.inl rfl) e⟩
  | tup xs => obtain ⟨z, its, r, ob, e, c⟩ := x; exact ⟨z, its, r, ob, k _ _ (.inl rfl) e, c⟩
  | dK kvs => obtain ⟨z, y, vs, r, ob, es, ep, e, c⟩ := x; exact ⟨z, y, vs, r, ob, es, ep, k _ _ (.inl rfl) e, c⟩
  | dT kvs =>
    obtain ⟨z, y, xs, r, ob, es, ep, e, c⟩ := x
    exact ⟨z, y, xs, Paired.mapP r fun p q z => ⟨z.1, ht _ _ z.2.1, z.2.2⟩, ob, es, ep, k _ _ (.inl rfl) e, c⟩
  | set S n => obtain ⟨ob, es, ep, t, e, c⟩ := x; exact ⟨ob, es, ep, t, k _ _ (.inl rfl) e, c⟩
  | ins C dx fs =>
    obtain ⟨d, z, ne, e, mA, ⟨od, es, ep, e2, c⟩, r⟩ := x
    exact ⟨ho _ d, z, ne, k _ _ (.inl rfl) e, mA, ⟨od, es, ep, k _ _ (.inr d) e2, c⟩, r⟩
  | own y => obtain ⟨ob, e⟩ := x; exact ⟨ob, k _ _ (.inl rfl) e⟩
  | xd fs => obtain ⟨mA, ⟨od, es, ep, e, c⟩, r⟩ := x; exact ⟨mA, ⟨od, es, ep, k _ _ (.inl rfl) e, c⟩, r⟩
  | rng lo hi => obtain ⟨t, u, v, e⟩ := x; exact ⟨t, u, v, k _ _ (.inl rfl) e⟩
  | frz ob u ih => obtain ⟨e, q⟩ := x; exact ⟨k _ _ (.inl rfl) e, ih q⟩
  | tbl ps =>
    have e : h.get? a = some { cls := .none, data := .fields ps } := x
    show h'.get? a = some { cls := .none, data := .fields ps }
    exact k a _ (.inl rfl) e
  | met f y =>
    have e : h.get? a = some (PySem.W.methodObj (.ref f) (.ref y)) := x
    show h'.get? a = some (PySem.W.methodObj (.ref f) (.ref y))
    exact k a _ (.inl rfl) e
  | ext φ => obtain ⟨p, ⟨o, e⟩, st⟩ := x; exact ⟨st _ _ p fun o q => k _ _ (.inl rfl) q, ⟨o, k _ _ (.inl rfl) e⟩, st⟩
theorem HOk.lt (x : HOk P w H h) (e : H a = some o) : a < h.objs.size := (x a o e).lt
theorem HOk.fresh (x : HOk P w H h) (e : h.objs.size ≤ a) : H a = none := by
  cases q : H a with
  | none => rfl
  | some u => exact absurd (Nat.lt_of_lt_of_le (x.lt q) e) (Nat.lt_irrefl _)
/-- every object of the heap is kept -/
theorem HOk.kept (x : HOk P w H h) (k : ∀ b u, h.get? b = some u → h'.get? b = some u) : HOk P w H h' := fun a o e =>
  (x a o e).stay (fun b u _ q => k b u q) (fun _ q => q) fun _ _ q => q
/-- a new object is laid and tracked -/
theorem HOk.laid (x : HOk P w H h) (k : ∀ b u, h.get? b = some u → h'.get? b = some u) (hp : h.objs.size ≤ a) (new : ObjOk P w (upd H a o) h' a o) : HOk P w (upd H a o) h' := fun b u e => by
  have hn := x.fresh hp
  by_cases hb : b = a
  · subst hb; rw [upd_same] at e; cases e; exact new
  · rw [upd_ne hb] at e
    exact (x b u e).stay (fun c v _ q => k c v q) (fun c q => by rw [upd_ne (ne_of_none q hn)]; exact q) fun c xs q => by rw [upd_ne (ne_of_none q hn)]; exact q
end

/-- what may be read as u: it is u, or a known u -/
def Rd (H : Hp) (a : Addr) (u : HO) : Prop := H a = some u ∨ ∃ o, H a = some (.frz o u)
theorem Rd.ok {P : Program} {w : World} {H : Hp} {h : Heap} {a : Addr} {u : HO} (r : Rd H a u) (x : HOk P w H h) : ObjOk P w H h a u := by
  rcases r with r | ⟨o, r⟩
  · exact x a u r
  · obtain ⟨_, q⟩ := x a _ r
    exact q
/-- what may be written -/
def Mut : Option HO → Prop
  | some (.lst _) => True
  | some (.dK _) => True
  | some (.dT _) => True
  | some (.set _ _) => True
  | some (.ins _ _ _) => True
  | some (.ext _) => True
  | _ => False
section
variable {P : Program} {w : World} {H : Hp} {h h' : Heap} {x e : Addr} {o' : HO}
/-- the object at e is changed: x itself, or the dict of the instance x -/
theorem HOk.write (ok : HOk P w H h) (mu : Mut (H x)) (he : e = x ∨ H e = some (.own x)) (k : ∀ b u, b ≠ e → h.get? b = some u → h'.get? b = some u) (heo : ∃ u, h'.get? e = some u)
    (new : ObjOk P w (upd H x o') h' x o') : HOk P w (upd H x o') h' := fun b u q => by
  have nown : ∀ c y, H c = some (.own y) → c ≠ x := fun c y r z => by subst z; rw [r] at mu; exact mu
  have ntup : ∀ c xs, H c = some (.tup xs) → c ≠ x := fun c xs r z => by subst z; rw [r] at mu; exact mu
  by_cases hb : b = x
  · subst hb; rw [upd_same] at q; cases q; exact new
  · rw [upd_ne hb] at q
    by_cases hbe : b = e
    · have q' : H b = some (.own x) := by
        rcases he with z | z
        · exact absurd (hbe.trans z) hb
        · rw [hbe]; exact z
      rw [q] at q'; cases q'
      obtain ⟨v, hv⟩ := heo
      exact ⟨v, by rw [hbe]; exact hv⟩
    · refine (ok b u q).stay (fun c v hc r => k c v ?_ r) (fun c r => by rw [upd_ne (nown c b r)]; exact r) fun c xs r => by rw [upd_ne (ntup c xs r)]; exact r
      rcases hc with rfl | hc
      · exact hbe
      · rintro rfl
        rcases he with z | z
        · exact nown c b hc z
        · rw [hc] at z; cases z; exact hb rfl
end

structure Un (fs ex : List Addr) (H H' : Hp) (h h' : Heap) : Prop where
  keep : ∀ b o, h.get? b = some o → H b = none → b ∉ fs → b ∉ ex → h'.get? b = some o
  slot : ∀ b o, h.get? b = some o → H b = none → b ∈ fs → b ∉ ex → ∃ sl, h'.get? b = some { o with slots := sl }
  free : ∀ b o, h.get? b = some o → H b = none → b ∉ ex → H' b = none
  there : ∀ b o, h.get? b = some o → b ∉ ex → ∃ o', h'.get? b = some o'
  tups : ∀ b xs, H b = some (.tup xs) → H' b = some (.tup xs)
  frzs : ∀ b o u, H b = some (.frz o u) → H' b = some (.frz o u)
  tbls : ∀ b ps, H b = some (.tbl ps) → ∃ more, H' b = some (.tbl (ps ++ more))
section
variable {fs fs' ex ex' : List Addr} {H H1 H2 : Hp} {h h1 h2 h' : Heap} {a x e : Addr} {o : HO}
theorem Un.any (u : Un fs ex H H1 h h1) {b : Addr} {ob : Obj} (q : h.get? b = some ob) (n : H b = none) (hx : b ∉ ex) : ∃ sl, h1.get? b = some { ob with slots := sl } := by
  by_cases hb : b ∈ fs
  · exact u.slot b ob q n hb hx
  · exact ⟨ob.slots, u.keep b ob q n hb hx⟩
theorem Un.trans (a : Un fs ex H H1 h h1) (b : Un fs ex H1 H2 h1 h2) : Un fs ex H H2 h h2 where
  keep := fun c ob q n hc hx => b.keep c ob (a.keep c ob q n hc hx) (a.free c ob q n hx) hc hx
  slot := fun c ob q n hc hx => by
    obtain ⟨sl, e1⟩ := a.slot c ob q n hc hx
    obtain ⟨sl', e2⟩ := b.slot c _ e1 (a.free c ob q n hx) hc hx
    exact ⟨sl', e2⟩
  free := fun c ob q n hx => by
    obtain ⟨o', e1⟩ := a.there c ob q hx
    exact b.free c o' e1 (a.free c ob q n hx) hx
  there := fun c ob q hx => by
    obtain ⟨o', e1⟩ := a.there c ob q hx
    exact b.there c o' e1 hx
  tups := fun c xs q => b.tups c xs (a.tups c xs q)
  frzs := fun c ob xs q => b.frzs c ob xs (a.frzs c ob xs q)
  tbls := fun c ps q => by
    obtain ⟨m1, e1⟩ := a.tbls c ps q
    obtain ⟨m2, e2⟩ := b.tbls c _ e1
    exact ⟨m1 ++ m2, by rw [e2, Array.append_assoc]⟩
theorem Un.kept (k : ∀ b u, h.get? b = some u → h'.get? b = some u) : Un fs ex H H h h' :=
  ⟨fun b ob q _ _ _ => k b ob q, fun b ob q _ _ _ => ⟨ob.slots, k b ob q⟩, fun _ _ _ n _ => n, fun b ob q _ => ⟨ob, k b ob q⟩, fun _ _ q => q, fun _ _ _ q => q, fun _ ps q => ⟨#[], by rw [q]; simp⟩⟩
theorem Un.refl : Un fs ex H H h h := Un.kept fun _ _ q => q
theorem Un.laid (k : ∀ b u, h.get? b = some u → h'.get? b = some u) (hp : h.objs.size ≤ a) (hn : H a = none) : Un fs ex H (upd H a o) h h' where
  keep := fun b u q _ _ _ => k b u q
  slot := fun b u q _ _ _ => ⟨u.slots, k b u q⟩
  free := fun b u q n _ => by rw [upd_ne (Nat.ne_of_lt (Nat.lt_of_lt_of_le (Heap.lt_size q) hp))]; exact n
  there := fun b u q _ => ⟨u, k b u q⟩
  tups := fun b xs q => by rw [upd_ne (ne_of_none q hn)]; exact q
  frzs := fun b u xs q => by rw [upd_ne (ne_of_none q hn)]; exact q
  tbls := fun b ps q => ⟨#[], by rw [upd_ne (ne_of_none q hn), q]; simp⟩
theorem Un.write (mu : Mut (H x)) (he : e = x ∨ H e = some (.own x)) (k : ∀ b u, b ≠ e → h.get? b = some u → h'.get? b = some u) (heo : ∃ u, h'.get? e = some u) : Un fs ex H (upd H x o) h h' := by
  have hx : ∀ b, H b = none → b ≠ x := fun b n z => by subst z; rw [n] at mu; exact mu
  have hb : ∀ b, H b = none → b ≠ e := fun b n z => by
    subst z
    rcases he with r | r
    · exact hx b n r
    · rw [n] at r; cases r
  have hm : ∀ b u, H b = some u → ¬ Mut (some u) → b ≠ x := fun b u q nm z => by subst z; rw [q] at mu; exact nm mu
  refine ⟨fun b u q n _ _ => k b u (hb b n) q, fun b u q n _ _ => ⟨u.slots, k b u (hb b n) q⟩, fun b u q n _ => by rw [upd_ne (hx b n)]; exact n, fun b u q _ => ?_,
    fun b xs q => by rw [upd_ne (hm b _ q fun z => z)]; exact q, fun b u xs q => by rw [upd_ne (hm b _ q fun z => z)]; exact q, fun b ps q => ⟨#[], by rw [upd_ne (hm b _ q fun z => z), q]; simp⟩⟩
  by_cases hbe : b = e
  · subst hbe; exact heo
  · exact ⟨u, k b u hbe q⟩
end

def trk (h : Heap) (H : Hp) : List Addr := (List.range h.objs.size).filter fun a => (H a).isSome
def hidT (h : Heap) (H : Hp) : Heap := PySem.W.hideAll h (trk h H)
theorem hidT_size (h : Heap) (H : Hp) : (hidT h H).objs.size = h.objs.size := PySem.W.hideAll_size _ _
theorem hidT_get {h : Heap} {H : Hp} {b : Addr} {o : Obj} (e : h.get? b = some o) (n : H b = none) : (hidT h H).get? b = some o :=
  PySem.W.hideAll_get _ e fun hm => by
    have q : (H b).isSome = true := (List.mem_filter.mp hm).2
    rw [n] at q; simp at q
theorem of_hidT {h : Heap} {H : Hp} {b : Addr} {o : Obj} (e : (hidT h H).get? b = some o) : h.get? b = some o ∧ H b = none := by
  have e' : h.get? b = some o := PySem.W.of_hideAll (trk h H) e
  refine ⟨e', ?_⟩
  cases q : H b with
  | none => rfl
  | some x =>
    have hm : b ∈ trk h H := List.mem_filter.mpr ⟨List.mem_range.mpr (Heap.lt_size e'), by simp [q]⟩
    have z : (hidT h H).get? b = none := PySem.W.hideAll_none (trk h H) hm
    rw [z] at e; cases e

def allNews (g h : Heap) (L : Addr) : List (Addr × Obj) := (List.range h.objs.size).filterMap fun a => if a = L ∨ (g.get? a).isSome = true then none else (h.get? a).map fun o => (a, o)
def rest (g h : Heap) (L d : Addr) : List (Addr × Obj) := (allNews g h L).filter fun p => decide (p.1 ≠ d)
end L2

namespace L2
open PySem PySem.Spec PyProof.Rows

/-- the module's facts, over the base: the heap at the law's entry without what is tracked there -/
structure Mod (K : PySem.W.Frag) (mg : Str → Option Value) (base : Heap) : Prop where
  kin : K.In base
  glob : base.Ns mainGlobals mg
  blt : ∃ mb, base.Ns builtinsNs mb ∧ ∀ x : Str, x ≠ "__name__" → mb x = bootBuiltins x
  nolimit : base.NoLimit

/-- the context: a def's body (or a comprehension's block) running. base: fixed through the whole law; s₀, H₀: the entry; outer: the frames whose slots others may change (a def's callers); stack: all frames that run;
   ex: iterators that were made ahead of the entry and are walked here (a comprehension's); fn: the names whose cells were made at the entry (a def: all; a comprehension's block: its own); calm: not within an except suite; pn: pins that every state bears; xe: what is wanted of an exception that leaves the code -/
structure Cx where
  prog : Program
  w : World
  K : PySem.W.Frag
  mg : Str → Option Value
  base : Heap
  A : Around
  N : List Str
  s₀ : Shared
  H₀ : Hp
  env : Env
  outer : List Env
  stack : List Env
  ex : List Addr
  fn : Str → Bool
  calm : Bool
  pn : List (Addr × Obj)
  xe : Value → Shared → Prop
/-- the callers' frames -/
def frs (l : List Env) : List Addr := l.filterMap (·.frame)
abbrev Cx.fs (X : Cx) : List Addr := frs X.outer

def Vis (sc : Scope) (x : Str) : Prop := sc.names.lookup x = some .local ∨ sc.names.lookup x = some .cell ∨ sc.names.lookup x = some .free
def Loc (sc : Scope) (x : Str) : Prop := sc.names.lookup x = some .local ∨ sc.names.lookup x = some .cell
def Look (env : Env) (h : Heap) (m : Str → Option Value) (x : Str) (u : Value) : Prop :=
  (env.kindOf x = some .local ∧ m x = some u) ∨ ((env.kindOf x = some .cell ∨ env.kindOf x = some .free) ∧ ∃ c, env.cells.lookup x = some c ∧ h.IsCell c (some u))

structure Cx.Ok (X : Cx) : Prop where
  mod : Mod X.K X.mg X.base
  kind : X.env.scope.kind = .function
  glob : X.env.globals = mainGlobals
  blt : X.env.builtins = builtinsNs
  above : X.s₀.heap.objs.size ≤ X.env.locals
  inj : ∀ x y c, X.env.cells.lookup x = some c → X.env.cells.lookup y = some c → x = y
  has : ∀ x, (X.env.kindOf x = some .cell ∨ X.env.kindOf x = some .free) → ∃ c, X.env.cells.lookup x = some c
  cab : ∀ x c, X.fn x = true → X.env.cells.lookup x = some c → X.s₀.heap.objs.size ≤ c
  hd : X.calm = true → X.A.handled = none
  frames : X.A.frames = some X.stack
  stk : X.stack = X.outer ∨ (X.stack = X.env :: X.outer ∧ X.env.frame = some X.env.locals)
  exf : ∀ b ∈ X.ex, b ≠ X.env.locals ∧ ∀ x c, X.env.cells.lookup x = some c → c ≠ b
  bs : ∀ b o, X.base.get? b = some o → X.s₀.heap.get? b = some o ∧ X.H₀ b = none
  bsz : X.base.objs.size ≤ X.s₀.heap.objs.size
  noex : ∀ b o, X.base.get? b = some o → b ∉ X.ex
  exfs : ∀ b ∈ X.ex, b ∉ X.fs
  funs : X.s₀.heap.FunFrames X.base X.outer
  frf : ∀ b ∈ X.fs, X.H₀ b = none

structure Inv (X : Cx) (pins : List (Addr × Obj)) (σ : List (Option V)) (H : Hp) (s : Shared) : Prop where
  ok : X.Ok
  os : s.os = X.s₀.os
  bare : AllBare s.gens
  base : Un X.fs X.ex X.H₀ H X.s₀.heap s.heap
  loc : ∃ m, s.heap.Ns X.env.locals m ∧ ∀ (i : Nat) (x : Str) (v : V), X.N[i]? = some x → σ[i]? = some (some v) → Vis X.env.scope x → ∃ u, RelV v u ∧ Look X.env s.heap m x u
  cell : ∀ x c, X.env.cells.lookup x = some c → ∃ v, s.heap.IsCell c v
  free : H X.env.locals = none
  freeC : ∀ x c, X.env.cells.lookup x = some c → H c = none
  pin : ∀ p ∈ X.pn ++ pins, s.heap.get? p.1 = some p.2 ∧ H p.1 = none ∧ p.1 ≠ X.env.locals ∧ p.1 ∉ X.fs ∧ ∀ v, p.2.data ≠ .cell v
  hok : HOk X.prog X.w H s.heap
  len : σ.length = X.N.length

section
variable {X : Cx} {pins : List (Addr × Obj)} {σ : List (Option V)} {H H' : Hp} {s : Shared} {h' : Heap}

theorem Cx.Ok.nofr (ok : X.Ok) {b : Addr} {o : Obj} (e : X.base.get? b = some o) : b ∉ X.fs := fun hb => by
  have := (ok.funs.mem hb).1
  rw [e] at this; cases this
theorem Inv.bs (I : Inv X pins σ H s) : ∀ b o, X.base.get? b = some o → s.heap.get? b = some o ∧ H b = none := fun b o e =>
  ⟨I.base.keep b o (I.ok.bs b o e).1 (I.ok.bs b o e).2 (I.ok.nofr e) (I.ok.noex b o e), I.base.free b o (I.ok.bs b o e).1 (I.ok.bs b o e).2 (I.ok.noex b o e)⟩
theorem Inv.bk (I : Inv X pins σ H s) : ∀ b o, X.base.get? b = some o → s.heap.get? b = some o := fun b o e => (I.bs b o e).1
theorem Inv.mod (I : Inv X pins σ H s) : Mod X.K X.mg X.base := I.ok.mod
theorem Inv.kIn (I : Inv X pins σ H s) : X.K.In s.heap := I.ok.mod.kin.keeps I.bk
/-- the frame over the base: for OpenK's rules (K.In X.base is I.mod.kin) -/
theorem Inv.fr (I : Inv X pins σ H s) : ∃ m, Fr X.base X.env.locals s.heap m :=
  let ⟨m, hn, _⟩ := I.loc
  ⟨m, hn, I.bk, Nat.le_trans I.ok.bsz I.ok.above⟩
theorem Inv.lt (I : Inv X pins σ H s) : X.env.locals < s.heap.objs.size := let ⟨_, hn, _⟩ := I.loc; hn.lt
theorem Inv.sz (I : Inv X pins σ H s) : X.s₀.heap.objs.size ≤ s.heap.objs.size := Nat.le_trans I.ok.above (Nat.le_of_lt I.lt)
theorem Inv.nofs (I : Inv X pins σ H s) {a : Addr} (h : s.heap.objs.size ≤ a) : a ∉ X.fs := fun hb => by
  obtain ⟨_, o, ho, _⟩ := I.ok.funs.mem hb
  exact absurd (Nat.lt_of_lt_of_le (Heap.lt_size ho) (Nat.le_trans I.sz h)) (Nat.lt_irrefl _)
theorem Inv.cne (I : Inv X pins σ H s) : ∀ x c, X.env.cells.lookup x = some c → c ≠ X.env.locals := fun x c e z => by
  obtain ⟨v, o, ho, hd⟩ := I.cell x c e
  obtain ⟨m, ⟨o', es, ep, ho', hd', _⟩, _⟩ := I.loc
  rw [z, ho'] at ho; cases ho; rw [hd'] at hd; cases hd
theorem Inv.funs (I : Inv X pins σ H s) : s.heap.FunFrames X.base X.outer := by
  have all : ∀ (l : List Env), (∀ b ∈ frs l, b ∈ X.fs) → X.s₀.heap.FunFrames X.base l → s.heap.FunFrames X.base l := by
    intro l
    induction l with
    | nil => intro _ _; trivial
    | cons env r ih =>
      intro hs hl
      obtain ⟨hk, ⟨L, o, hf, hn, ho, hd⟩, hr⟩ := hl
      have hL : L ∈ X.fs := hs L (by unfold frs; rw [List.filterMap_cons, hf]; exact List.mem_cons_self)
      obtain ⟨sl, e⟩ := I.base.slot L o ho (I.ok.frf L hL) hL fun z => I.ok.exfs L z hL
      exact ⟨hk, ⟨L, _, hf, hn, e, hd⟩, ih (fun b hb => hs b (by unfold frs; rw [List.filterMap_cons, hf]; exact List.mem_cons_of_mem _ hb)) hr⟩
  exact all X.outer (fun _ hb => hb) I.ok.funs

/-- the frames that run, for a call -/
theorem Inv.stack (I : Inv X pins σ H s) : s.heap.FunFrames X.base X.stack := by
  rcases I.ok.stk with e | ⟨e, hf⟩
  · rw [e]; exact I.funs
  · rw [e]
    obtain ⟨m, hn, _⟩ := I.loc
    refine .cons (by rw [I.ok.kind]; decide) hf hn ?_ I.funs
    exact Heap.get?_none_of_le (Nat.le_trans I.ok.bsz I.ok.above)
theorem Inv.stkSub (I : Inv X pins σ H s) : ∀ b ∈ frs X.stack, b ∈ X.env.locals :: X.fs := fun b hb => by
  rcases I.ok.stk with e | ⟨e, hf⟩
  · rw [e] at hb; exact List.mem_cons_of_mem _ hb
  · rw [e] at hb
    unfold frs at hb
    rw [List.filterMap_cons, hf] at hb
    exact hb
theorem Inv.stkFree (I : Inv X pins σ H s) : ∀ b ∈ frs X.stack, H b = none := fun b hb => by
  rcases List.mem_cons.mp (I.stkSub b hb) with e | hb
  · rw [e]; exact I.free
  · obtain ⟨_, o, ho, _⟩ := I.ok.funs.mem hb
    exact I.base.free b o ho (I.ok.frf b hb) fun z => I.ok.exfs b z hb

/-- THE STEP: the untracked objects but the frame and the records at ch are kept (the callers' frames up to slots), the frame's map is kept, the new abstract heap is held -/
theorem Inv.step {g' : Array GenState} {t' : Nat} {d' : Drawn} {ch : List Addr} (I : Inv X pins σ H s)
    (hch : ∀ b ∈ ch, (b ∈ X.ex ∨ X.s₀.heap.objs.size ≤ b) ∧ b ≠ X.env.locals ∧ (∀ x c, X.env.cells.lookup x = some c → c ≠ b) ∧ ∀ p ∈ X.pn ++ pins, p.1 ≠ b)
    (keep : ∀ b o, b ≠ X.env.locals → b ∉ X.fs → b ∉ ch → s.heap.get? b = some o → H b = none → h'.get? b = some o)
    (slot : ∀ b o, b ≠ X.env.locals → b ∈ X.fs → b ∉ ch → s.heap.get? b = some o → H b = none → ∃ sl, h'.get? b = some { o with slots := sl }) (free : ∀ b o, b ∉ ch → s.heap.get? b = some o → H b = none → H' b = none)
    (there : ∀ b o, b ∉ ch → s.heap.get? b = some o → ∃ o', h'.get? b = some o')
    (tups : ∀ b xs, H b = some (.tup xs) → H' b = some (.tup xs)) (frzs : ∀ b o u, H b = some (.frz o u) → H' b = some (.frz o u)) (tbls : ∀ b ps, H b = some (.tbl ps) → ∃ more, H' b = some (.tbl (ps ++ more)))
    (ns : ∀ m, s.heap.Ns X.env.locals m → h'.Ns X.env.locals m) (hok : HOk X.prog X.w H' h') (hg : AllBare g') :
    Inv X pins σ H' { s with heap := h', gens := g', drawn := d', toks := t' } := by
  have neL : ∀ b o, X.s₀.heap.get? b = some o → b ≠ X.env.locals := fun b o e => Nat.ne_of_lt (Nat.lt_of_lt_of_le (Heap.lt_size e) I.ok.above)
  have neC : ∀ b o, X.s₀.heap.get? b = some o → b ∉ X.ex → b ∉ ch := fun b o e hx hb => by
    rcases (hch b hb).1 with z | z
    · exact hx z
    · exact absurd (Nat.lt_of_lt_of_le (Heap.lt_size e) z) (Nat.lt_irrefl _)
  have cellK : ∀ x c, X.env.cells.lookup x = some c → ∀ v, s.heap.IsCell c v → h'.IsCell c v := fun x c e v ⟨o, ho, hd⟩ => by
    have nch : c ∉ ch := fun z => (hch c z).2.2.1 x c e rfl
    by_cases hc : c ∈ X.fs
    · obtain ⟨sl, q⟩ := slot c o (I.cne x c e) hc nch ho (I.freeC x c e)
      exact ⟨_, q, hd⟩
    · exact ⟨o, keep c o (I.cne x c e) hc nch ho (I.freeC x c e), hd⟩
  refine ⟨I.ok, I.os, hg, ⟨fun b o e n hb hx => ?_, fun b o e n hb hx => ?_, fun b o e n hx => ?_, fun b o e hx => ?_, fun b xs e => tups b xs (I.base.tups b xs e), fun b o xs e => frzs b o xs (I.base.frzs b o xs e), fun b ps e => ?_⟩, ?_, fun x c e => ?_, ?_, fun x c e => ?_, fun p hp => ?_, hok, I.len⟩
  · exact keep b o (neL b o e) hb (neC b o e hx) (I.base.keep b o e n hb hx) (I.base.free b o e n hx)
  · obtain ⟨sl, e1⟩ := I.base.slot b o e n hb hx
    obtain ⟨sl', e2⟩ := slot b _ (neL b o e) hb (neC b o e hx) e1 (I.base.free b o e n hx)
    exact ⟨sl', e2⟩
  · obtain ⟨o', e1⟩ := I.base.there b o e hx
    exact free b o' (neC b o e hx) e1 (I.base.free b o e n hx)
  · obtain ⟨o', e1⟩ := I.base.there b o e hx
    exact there b o' (neC b o e hx) e1
  · obtain ⟨m1, e1⟩ := I.base.tbls b ps e
    obtain ⟨m2, e2⟩ := tbls b _ e1
    exact ⟨m1 ++ m2, by rw [e2, Array.append_assoc]⟩
  · obtain ⟨m, hn, hl⟩ := I.loc
    refine ⟨m, ns m hn, fun i x v e1 e2 e3 => ?_⟩
    obtain ⟨u, r, l⟩ := hl i x v e1 e2 e3
    refine ⟨u, r, ?_⟩
    rcases l with l | ⟨k, c, e, z⟩
    · exact .inl l
    · exact .inr ⟨k, c, e, cellK x c e _ z⟩
  · obtain ⟨v, z⟩ := I.cell x c e
    exact ⟨v, cellK x c e v z⟩
  · obtain ⟨m, ⟨o, _, _, ho, _⟩, _⟩ := I.loc
    exact free _ o (fun z => (hch _ z).2.1 rfl) ho I.free
  · obtain ⟨v, o, ho, hd⟩ := I.cell x c e
    exact free c o (fun z => (hch c z).2.2.1 x c e rfl) ho (I.freeC x c e)
  · obtain ⟨e, n, ne, nf, d⟩ := I.pin p hp
    have nch : p.1 ∉ ch := fun z => (hch p.1 z).2.2.2 p hp rfl
    exact ⟨keep p.1 p.2 ne nf nch e n, free p.1 p.2 nch e n, ne, nf, d⟩
/-- .. where the frame's own object is kept too -/
theorem Inv.un {t' : Nat} (I : Inv X pins σ H s) (u : Un X.fs [] H H' s.heap h') (hok : HOk X.prog X.w H' h') : Inv X pins σ H' { s with heap := h', toks := t' } := by
  obtain ⟨m, ⟨o, es, ep, ho, r⟩, _⟩ := id I.loc
  obtain ⟨sl, hL⟩ := u.any ho I.free (by simp)
  exact I.step (g' := s.gens) (d' := s.drawn) (ch := []) (fun _ z => nomatch z) (fun b o _ hb _ e n => u.keep b o e n hb (by simp)) (fun b o _ hb _ e n => u.slot b o e n hb (by simp)) (fun b o _ e n => u.free b o e n (by simp)) (fun b o _ e => u.there b o e (by simp)) u.tups u.frzs u.tbls (fun m' hm => by
    obtain ⟨o', es', ep', ho', r'⟩ := hm
    rw [ho] at ho'; cases ho'
    exact ⟨_, es', ep', hL, r'⟩) hok I.bare
/-- behind a call (or a comprehension's block): the slots of this frame may have changed too, the records at ch may have turned -/
theorem Inv.call {g' : Array GenState} {t' : Nat} {d' : Drawn} {ch : List Addr} (I : Inv X pins σ H s) (u : Un (frs X.stack) ch H H' s.heap h') (hok : HOk X.prog X.w H' h') (hg : AllBare g')
    (hch : ∀ b ∈ ch, (b ∈ X.ex ∨ X.s₀.heap.objs.size ≤ b) ∧ b ≠ X.env.locals ∧ (∀ x c, X.env.cells.lookup x = some c → c ≠ b) ∧ ∀ p ∈ X.pn ++ pins, p.1 ≠ b) :
    Inv X pins σ H' { s with heap := h', gens := g', drawn := d', toks := t' } := by
  obtain ⟨m, ⟨o, es, ep, ho, r⟩, _⟩ := id I.loc
  obtain ⟨sl, hL⟩ := u.any ho I.free fun z => (hch _ z).2.1 rfl
  exact I.step (ch := ch) hch (fun b o hL hb hc e n => u.keep b o e n (fun z => (List.mem_cons.mp (I.stkSub b z)).elim hL hb) hc) (fun b o _ _ hc e n => u.any e n hc) (fun b o hc e n => u.free b o e n hc) (fun b o hc e => u.there b o e hc) u.tups u.frzs u.tbls (fun m' hm => by
    obtain ⟨o', es', ep', ho', r'⟩ := hm
    rw [ho] at ho'; cases ho'
    exact ⟨_, es', ep', hL, r'⟩) hok hg
/-- an untracked record of ours (an iterator) has turned -/
theorem Inv.turned {t' : Nat} {it : Addr} (I : Inv X pins σ H s) (k : ∀ b o, b ≠ it → s.heap.get? b = some o → h'.get? b = some o) (hn : H it = none) (hL : it ≠ X.env.locals)
    (h1 : it ∈ X.ex ∨ X.s₀.heap.objs.size ≤ it) (h2 : ∀ x c, X.env.cells.lookup x = some c → c ≠ it) (h3 : ∀ p ∈ X.pn ++ pins, p.1 ≠ it) : Inv X pins σ H { s with heap := h', toks := t' } := by
  have nit : ∀ b u, H b = some u → b ≠ it := fun b u e z => by rw [z, hn] at e; cases e
  refine I.step (g' := s.gens) (d' := s.drawn) (ch := [it]) (fun b hb => ?_) (fun b o _ _ hc e _ => k b o (fun z => hc (by simp [z])) e) (fun b o _ _ hc e _ => ⟨o.slots, k b o (fun z => hc (by simp [z])) e⟩) (fun _ _ _ _ n => n)
    (fun b o hc e => ⟨o, k b o (fun z => hc (by simp [z])) e⟩) (fun _ _ e => e) (fun _ _ _ e => e) (fun b ps e => ⟨#[], by rw [e]; simp⟩) (fun m hm => ?_) (fun b u e => ?_) I.bare
  · have e : b = it := by simpa using hb
    subst e
    exact ⟨h1, hL, h2, h3⟩
  · obtain ⟨o, es, ep, ho, r⟩ := hm
    exact ⟨o, es, ep, k _ o (Ne.symm hL) ho, r⟩
  · refine (I.hok b u e).stay (fun c v hc q => k c v ?_ q) (fun _ q => q) fun _ _ q => q
    rcases hc with z | z
    · rw [z]; exact nit b u e
    · exact nit c _ z
theorem Inv.tok (I : Inv X pins σ H s) (t : Nat) : Inv X pins σ H { s with toks := t } := I.un (h' := s.heap) (t' := t) Un.refl I.hok
/-- all objects kept -/
theorem Inv.kept {t' : Nat} (I : Inv X pins σ H s) (k : ∀ b u, s.heap.get? b = some u → h'.get? b = some u) : Inv X pins σ H { s with heap := h', toks := t' } := I.un (Un.kept k) (I.hok.kept k)
/-- a new object laid and tracked -/
theorem Inv.laid {a : Addr} {o : HO} {t' : Nat} (I : Inv X pins σ H s) (k : ∀ b u, s.heap.get? b = some u → h'.get? b = some u) (hp : s.heap.objs.size ≤ a) (new : ObjOk X.prog X.w (upd H a o) h' a o) :
    Inv X pins σ (upd H a o) { s with heap := h', toks := t' } := I.un (Un.laid k hp (I.hok.fresh hp)) (I.hok.laid k hp new)
/-- an object written -/
theorem Inv.write {x e : Addr} {o : HO} {t' : Nat} (I : Inv X pins σ H s) (mu : Mut (H x)) (he : e = x ∨ H e = some (.own x)) (k : ∀ b u, b ≠ e → s.heap.get? b = some u → h'.get? b = some u) (heo : ∃ u, h'.get? e = some u)
    (new : ObjOk X.prog X.w (upd H x o) h' x o) : Inv X pins σ (upd H x o) { s with heap := h', toks := t' } := I.un (Un.write mu he k heo) (I.hok.write mu he k heo new)
theorem Inv.pins_of {pins' : List (Addr × Obj)} (I : Inv X pins σ H s) (h : ∀ p ∈ pins', s.heap.get? p.1 = some p.2 ∧ H p.1 = none ∧ p.1 ≠ X.env.locals ∧ p.1 ∉ X.fs ∧ ∀ v, p.2.data ≠ .cell v) : Inv X pins' σ H s :=
  ⟨I.ok, I.os, I.bare, I.base, I.loc, I.cell, I.free, I.freeC, fun p hp => (List.mem_append.mp hp).elim (fun z => I.pin p (List.mem_append_left _ z)) (h p), I.hok, I.len⟩

theorem nodup_ix {N : List Str} (hN : N.Nodup) {i j : Nat} {x : Str} (a : N[i]? = some x) (b : N[j]? = some x) : i = j := by
  obtain ⟨h1, e1⟩ := List.getElem?_eq_some_iff.mp a
  obtain ⟨h2, e2⟩ := List.getElem?_eq_some_iff.mp b
  exact (List.getElem_inj hN).mp (e1.trans e2.symm)

/-- a name is stored; what changed -/
theorem store_ok2 {M : Model} {A : Around} {E : Value → Shared → Prop} {i : Nat} {x : Str} {v : V} {u : Value} {Q : Unit → Shared → Prop} (I : Inv X pins σ H s) (hN : X.N.Nodup) (hi : X.N[i]? = some x) (hx : Loc X.env.scope x) (r : RelV v u)
    (h : ∀ s', Inv X pins (σ.set i (some v)) H s' → (∃ a, Heap.SameBut a s.heap s'.heap ∧ (a = X.env.locals ∨ X.env.cells.lookup x = some a)) → Q () s') (hf : X.fn x = true ∨ X.env.scope.names.lookup x = some .local := by first | exact .inl rfl | exact .inr rfl | assumption) : wpAny M A (storeName X.env x u) Q E s := by
  obtain ⟨m, hn, hl⟩ := id I.loc
  have hcls : (X.env.scope.kind == .class || (X.env.scope.kind == .module && X.env.locals != X.env.globals)) = false := by rw [I.ok.kind]; rfl
  have hiσ : i < σ.length := by rw [I.len]; exact (List.getElem?_eq_some_iff.mp hi).1
  have cne := I.cne
  have tracked : ∀ {a : Addr} {h' : Heap}, (∃ o, s.heap.get? a = some o ∧ H a = none) → Heap.SameBut a s.heap h' → HOk X.prog X.w H h' := fun {a h'} ha hs b ob e => by
    obtain ⟨_, _, hfree⟩ := ha
    refine (I.hok b ob e).stay (fun c w' hc q => (hs.2 c ?_).trans q) (fun _ q => q) fun _ _ q => q
    rintro rfl
    rcases hc with rfl | hc
    · rw [hfree] at e; cases e
    · rw [hfree] at hc; cases hc
  rcases hx with hk | hk
  · refine wpAny_storeName_local hk hn (fun h' hn' hs => ?_) hcls
    obtain ⟨oL, _, _, hoL, _⟩ := id hn
    refine h _ ⟨I.ok, I.os, I.bare, ⟨fun b o e n hb hx => ?_, fun b o e n hb hx => ?_, I.base.free, fun b o e hx => ?_, I.base.tups, I.base.frzs, I.base.tbls⟩, ⟨_, hn', fun j y v' e1 e2 e3 => ?_⟩, fun y c e => ?_, I.free, I.freeC, fun p hp => ?_, tracked ⟨oL, hoL, I.free⟩ hs, by simpa using I.len⟩ ⟨_, hs, .inl rfl⟩
    · exact (hs.2 b (Nat.ne_of_lt (Nat.lt_of_lt_of_le (Heap.lt_size e) I.ok.above))).trans (I.base.keep b o e n hb hx)
    · obtain ⟨sl, e1⟩ := I.base.slot b o e n hb hx
      exact ⟨sl, (hs.2 b (Nat.ne_of_lt (Nat.lt_of_lt_of_le (Heap.lt_size e) I.ok.above))).trans e1⟩
    · obtain ⟨o', e1⟩ := I.base.there b o e hx
      exact ⟨o', (hs.2 b (Nat.ne_of_lt (Nat.lt_of_lt_of_le (Heap.lt_size e) I.ok.above))).trans e1⟩
    · by_cases hj : j = i
      · subst hj
        rw [hi] at e1; cases e1
        rw [List.getElem?_set_self hiσ] at e2
        cases e2
        exact ⟨u, r, .inl ⟨hk, by simp⟩⟩
      · rw [List.getElem?_set_ne (Ne.symm hj)] at e2
        obtain ⟨u', r', q⟩ := hl j y v' e1 e2 e3
        refine ⟨u', r', ?_⟩
        rcases q with ⟨k, e⟩ | ⟨k, c, e, z⟩
        · refine .inl ⟨k, ?_⟩
          have : y ≠ x := fun e => hj (nodup_ix hN e1 (e ▸ hi))
          simp [this, e]
        · exact .inr ⟨k, c, e, z.sameBut hs (cne y c e)⟩
    · obtain ⟨w', z⟩ := I.cell y c e
      exact ⟨w', z.sameBut hs (cne y c e)⟩
    · obtain ⟨e, n, ne, nf, d⟩ := I.pin p hp
      exact ⟨(hs.2 p.1 ne).trans e, n, ne, nf, d⟩
  · have hfn : X.fn x = true := by
      rcases hf with z | z
      · exact z
      · rw [z] at hk; cases hk
    obtain ⟨c, hc⟩ := I.ok.has x (.inl hk)
    obtain ⟨w', z⟩ := I.cell x c hc
    refine wpAny_storeName_cell I.ok.kind hk hc z (fun h' hc' hs => ?_)
    obtain ⟨oc, hoc, hocd⟩ := id z
    refine h { s with heap := h' } ⟨I.ok, I.os, I.bare, ⟨fun b o e n hb hx => ?_, fun b o e n hb hx => ?_, I.base.free, fun b o e hx => ?_, I.base.tups, I.base.frzs, I.base.tbls⟩, ⟨m, hn.sameBut hs (Ne.symm (cne x c hc)), fun j y v' e1 e2 e3 => ?_⟩, fun y c' e => ?_, I.free, I.freeC, fun p hp => ?_, tracked ⟨oc, hoc, I.freeC x c hc⟩ hs, by simpa using I.len⟩ ⟨c, hs, .inr hc⟩
    · exact (hs.2 b (Nat.ne_of_lt (Nat.lt_of_lt_of_le (Heap.lt_size e) (I.ok.cab x c hfn hc)))).trans (I.base.keep b o e n hb hx)
    · obtain ⟨sl, e1⟩ := I.base.slot b o e n hb hx
      exact ⟨sl, (hs.2 b (Nat.ne_of_lt (Nat.lt_of_lt_of_le (Heap.lt_size e) (I.ok.cab x c hfn hc)))).trans e1⟩
    · obtain ⟨o', e1⟩ := I.base.there b o e hx
      exact ⟨o', (hs.2 b (Nat.ne_of_lt (Nat.lt_of_lt_of_le (Heap.lt_size e) (I.ok.cab x c hfn hc)))).trans e1⟩
    · by_cases hj : j = i
      · subst hj
        rw [hi] at e1; cases e1
        rw [List.getElem?_set_self hiσ] at e2
        cases e2
        exact ⟨u, r, .inr ⟨.inl hk, c, hc, hc'⟩⟩
      · rw [List.getElem?_set_ne (Ne.symm hj)] at e2
        obtain ⟨u', r', q⟩ := hl j y v' e1 e2 e3
        refine ⟨u', r', ?_⟩
        rcases q with q | ⟨k, c', e, z'⟩
        · exact .inl q
        · refine .inr ⟨k, c', e, z'.sameBut hs ?_⟩
          rintro rfl
          exact hj (nodup_ix hN e1 (I.ok.inj _ _ _ e hc ▸ hi))
    · by_cases hcc : c' = c
      · subst hcc; exact ⟨_, hc'⟩
      · obtain ⟨w2, z2⟩ := I.cell y c' e
        exact ⟨w2, z2.sameBut hs hcc⟩
    · obtain ⟨e, n, ne, nf, d⟩ := I.pin p hp
      refine ⟨(hs.2 p.1 ?_).trans e, n, ne, nf, d⟩
      intro q
      rw [q, hoc] at e
      have q' : oc = p.2 := Option.some.inj e
      exact d w' (by rw [← q']; exact hocd)
theorem store_ok {M : Model} {A : Around} {E : Value → Shared → Prop} {i : Nat} {x : Str} {v : V} {u : Value} {Q : Unit → Shared → Prop} (I : Inv X pins σ H s) (hN : X.N.Nodup) (hi : X.N[i]? = some x) (hx : Loc X.env.scope x) (r : RelV v u)
    (h : ∀ s', Inv X pins (σ.set i (some v)) H s' → Q () s') (hf : X.fn x = true ∨ X.env.scope.names.lookup x = some .local := by first | exact .inl rfl | exact .inr rfl | assumption) : wpAny M A (storeName X.env x u) Q E s :=
  store_ok2 I hN hi hx r (fun s' I' _ => h s' I') hf
/-- behind a call or a block, the state as it is -/
theorem Inv.call' {s' : Shared} {ch : List Addr} (I : Inv X pins σ H s) (ho : s'.os = s.os) (u : Un (frs X.stack) ch H H' s.heap s'.heap) (hok : HOk X.prog X.w H' s'.heap) (hg : AllBare s'.gens)
    (hch : ∀ b ∈ ch, (b ∈ X.ex ∨ X.s₀.heap.objs.size ≤ b) ∧ b ≠ X.env.locals ∧ (∀ x c, X.env.cells.lookup x = some c → c ≠ b) ∧ ∀ p ∈ X.pn ++ pins, p.1 ≠ b) : Inv X pins σ H' s' := by
  obtain ⟨h', g', d', t', o'⟩ := s'
  have e : o' = s.os := ho
  subst e
  exact I.call (g' := g') (t' := t') (d' := d') u hok hg hch
end

/-- an exception: its class, its own dict's address (where it has one), the abstract heap behind it -/
abbrev XK := Value → Option Addr → Hp → Prop
abbrev St := List (Option V)
abbrev VK := V → Hp → Prop
/-- an expression's reading; a test's; an argument list's -/
abbrev TE := St → Hp → VK → Prop
abbrev TT := St → Hp → (Bool → Hp → Prop) → Prop
abbrev TA := St → Hp → (List V → Hp → Prop) → Prop
/-- what is wanted behind a statement -/
structure Ends where
  nx : St → Hp → Prop
  rt : VK
  bk : St → Hp → Prop := fun _ _ => False
  ct : St → Hp → Prop := fun _ _ => False
abbrev TS := Ends → St → Hp → Prop

def EP (X : Cx) (pins : List (Addr × Obj)) (σ : St) (Q : VK) (u : Value) (s' : Shared) : Prop := ∃ v H', Inv X pins σ H' s' ∧ RelV v u ∧ Q v H'
def TP (X : Cx) (pins : List (Addr × Obj)) (σ : St) (Q : Bool → Hp → Prop) (b : Bool) (s' : Shared) : Prop := ∃ H', Inv X pins σ H' s' ∧ Q b H'
def AP (X : Cx) (pins : List (Addr × Obj)) (σ : St) (Q : List V → Hp → Prop) (us : List Value) (s' : Shared) : Prop := ∃ vs H', Inv X pins σ H' s' ∧ Vals vs us ∧ Q vs H'
def SP (X : Cx) (pins : List (Addr × Obj)) (D : Ends) (f : Flow) (s' : Shared) : Prop :=
  match f with
  | .next => ∃ σ' H', Inv X pins σ' H' s' ∧ D.nx σ' H'
  | .brk => ∃ σ' H', Inv X pins σ' H' s' ∧ D.bk σ' H'
  | .cont => ∃ σ' H', Inv X pins σ' H' s' ∧ D.ct σ' H'
  | .ret u => ∃ v σ' H', Inv X pins σ' H' s' ∧ RelV v u ∧ D.rt v H'

def PE (X : Cx) (e : Expr) (t : TE) : Prop :=
  ∀ (pins : List (Addr × Obj)) (s : Shared) (σ : St) (H : Hp) (Q : VK), Inv X pins σ H s → t σ H Q → wpAny (model X.prog X.w) X.A (eval e X.env) (EP X pins σ Q) X.xe s
def PT (X : Cx) (e : Expr) (t : TT) : Prop :=
  ∀ (pins : List (Addr × Obj)) (s : Shared) (σ : St) (H : Hp) (Q : Bool → Hp → Prop), Inv X pins σ H s → t σ H Q → wpAny (model X.prog X.w) X.A (isTrue e X.env (eval e X.env)) (TP X pins σ Q) X.xe s
/-- a test whatever its 'whole' is (and, or) -/
def PW (X : Cx) (e : Expr) (t : TT) : Prop :=
  ∀ (whole : Sem Value) (pins : List (Addr × Obj)) (s : Shared) (σ : St) (H : Hp) (Q : Bool → Hp → Prop), Inv X pins σ H s → t σ H Q → wpAny (model X.prog X.w) X.A (isTrue e X.env whole) (TP X pins σ Q) X.xe s
theorem PW.pt {X : Cx} {e : Expr} {t : TT} (h : PW X e t) : PT X e t := h _
/-- an argument list (no star), from the left -/
def PA (X : Cx) (es : List Expr) (t : TA) : Prop :=
  ∀ (pos : Pos) (pins : List (Addr × Obj)) (s : Shared) (σ : St) (H : Hp) (Q : List V → Hp → Prop), Inv X pins σ H s → t σ H Q → wpAny (model X.prog X.w) X.A (spliced (backTo pos (starEach es X.env))) (AP X pins σ Q) X.xe s
def PS (X : Cx) (st : Stmt) (t : TS) : Prop :=
  ∀ (pins : List (Addr × Obj)) (s : Shared) (σ : St) (H : Hp) (D : Ends), Inv X pins σ H s → t D σ H → wpAny (model X.prog X.w) X.A (exec st X.env) (SP X pins D) X.xe s
def PSs (X : Cx) (st : List Stmt) (t : TS) : Prop :=
  ∀ (pins : List (Addr × Obj)) (s : Shared) (σ : St) (H : Hp) (D : Ends), Inv X pins σ H s → t D σ H → wpAny (model X.prog X.w) X.A (execs st X.env) (SP X pins D) X.xe s
/-- weaken the end -/
theorem thn {α : Type} {t : Sem α} {Q Q' : α → Shared → Prop} {M : Model} {A : Around} {E : Value → Shared → Prop} {s : Shared} (h : wpAny M A t Q E s) (hQ : ∀ a s, Q a s → Q' a s) : wpAny M A t Q' E s := wpAny_mono h hQ fun _ _ x => x
end L2

namespace L2
open PySem PySem.Spec PyProof.Rows
section
variable {X : Cx}

/-- two expressions in a row -/
theorem bin {a b : Expr} {ta tb : TE} (ha : PE X a ta) (hb : PE X b tb) {pins : List (Addr × Obj)} {s : Shared} {σ : St} {H : Hp} {R : V → V → Hp → Prop} (I : Inv X pins σ H s) (h : ta σ H fun x H1 => tb σ H1 fun y H2 => R x y H2)
    {α : Type} {Q : α → Shared → Prop} {f : Value → Value → Sem α}
    (hf : ∀ v u s2 x y H2, Inv X pins σ H2 s2 → RelV x v → RelV y u → R x y H2 → wpAny (model X.prog X.w) X.A (f v u) Q X.xe s2) :
    wpAny (model X.prog X.w) X.A (eval a X.env) (fun v s₁ => wpAny (model X.prog X.w) X.A (eval b X.env) (fun u s₂ => wpAny (model X.prog X.w) X.A (f v u) Q X.xe s₂) X.xe s₁) X.xe s := by
  refine thn (ha pins s σ H _ I h) fun v s1 ⟨x, H1, I1, r1, q1⟩ => ?_
  refine thn (hb pins s1 σ H1 _ I1 q1) fun u s2 ⟨y, H2, I2, r2, q2⟩ => ?_
  exact hf v u s2 x y H2 I2 r1 r2 q2

def tVar (i : Nat) : TE := fun σ H Q => ∃ v, σ[i]? = some (some v) ∧ Q v H
def tC (v : V) : TE := fun _ H Q => Q v H
theorem pe_var {i : Nat} {x : Str} {pos : Pos} (hN : X.N[i]? = some x) (hv : Vis X.env.scope x) (hd : (x == ("__debug__" : Str)) = false := by decide) (hcd : (x == ("__classdict__" : Str)) = false := by decide) : PE X (.Name x pos) (tVar i) := by
  intro pins s σ H Q I h
  obtain ⟨v, e, h⟩ := h
  obtain ⟨m, hn, hl⟩ := I.loc
  obtain ⟨u, r, l⟩ := hl i x v hN e hv
  have fin : EP X pins σ Q u s := ⟨v, H, I, r, h⟩
  rcases l with ⟨hk, hm⟩ | ⟨hk, c, hc, hcell⟩
  · exact wpAny_Name (wpAny_loadName_local I.ok.kind hk hn hm fin) hd
  · rcases hk with hk | hk
    · exact wpAny_Name (wpAny_loadName_cell I.ok.kind hk hc hcell fin) hd
    · exact wpAny_Name (wpAny_loadName_free I.ok.kind hk hc hcell fin hcd) hd
theorem pe_int {i j pos} : PE X (.Constant (.int i) j pos) (tC (.int i)) := fun _ _ _ H _ I h => wpAny_Constant_int ⟨.int i, H, I.tok _, ⟨_, rfl⟩, h⟩
theorem pe_bl {b j pos} : PE X (.Constant (.bool b) j pos) (tC (.bl b)) := fun _ _ _ H _ I h => Constant_bool ⟨.bl b, H, I, rfl, h⟩
theorem pe_non {j pos} : PE X (.Constant .none j pos) (tC .non) := fun _ _ _ H _ I h => Constant_none ⟨.non, H, I, rfl, h⟩
theorem pe_str {x j pos} : PE X (.Constant (.str x) j pos) (tC (.str x)) := fun _ _ _ H _ I h => Calls.Constant_str ⟨.str x, H, I.tok _, ⟨_, rfl⟩, h⟩

/-- a global name of the def -/
def Gl (X : Cx) (x : Str) : Prop := X.env.kindOf x = some .globalImplicit
theorem ld_glob {E : Value → Shared → Prop} {pins : List (Addr × Obj)} {s : Shared} {σ : St} {H : Hp} {x : Str} {u : Value} {pos : Pos} {Q : Value → Shared → Prop} (I : Inv X pins σ H s) (hg : Gl X x) (hm : X.mg x = some u) (h : Q u s)
    (hd : (x == ("__debug__" : Str)) = false := by decide) : wpAny (model X.prog X.w) X.A (eval (.Name x pos) X.env) Q E s :=
  Calls.Name_function_global I.ok.kind hg (Calls.loadGlobal_global (by rw [I.ok.glob]; exact I.mod.glob.keeps I.bk) hm h) hd
theorem ld_blt {E : Value → Shared → Prop} {pins : List (Addr × Obj)} {s : Shared} {σ : St} {H : Hp} {x : Str} {u : Value} {pos : Pos} {Q : Value → Shared → Prop} (I : Inv X pins σ H s) (hg : Gl X x) (hm : X.mg x = none) (hv : bootBuiltins x = some u) (h : Q u s)
    (hn : x ≠ "__name__" := by decide) (hd : (x == ("__debug__" : Str)) = false := by decide) : wpAny (model X.prog X.w) X.A (eval (.Name x pos) X.env) Q E s := by
  obtain ⟨mb, h1, h2⟩ := I.mod.blt
  exact Calls.Name_function_global I.ok.kind hg (Calls.loadGlobal_builtin (by rw [I.ok.glob]; exact I.mod.glob.keeps I.bk) hm (by rw [I.ok.blt]; exact h1.keeps I.bk) ((h2 x hn).trans hv) h) hd
/-- a module's constant, a class, a function, as a value -/
theorem pe_glob {x : Str} {v : V} {u : Value} {pos : Pos} (hg : Gl X x) (hm : X.mg x = some u) (r : RelV v u) (hd : (x == ("__debug__" : Str)) = false := by decide) : PE X (.Name x pos) (tC v) :=
  fun _ _ _ H _ I h => ld_glob I hg hm ⟨v, H, I, r, h⟩ hd
theorem pe_bltn {x : Str} {v : V} {u : Value} {pos : Pos} (hg : Gl X x) (hm : X.mg x = none) (hv : bootBuiltins x = some u) (r : RelV v u) (hn : x ≠ "__name__" := by decide) (hd : (x == ("__debug__" : Str)) = false := by decide) : PE X (.Name x pos) (tC v) :=
  fun _ _ _ H _ I h => ld_blt I hg hm hv ⟨v, H, I, r, h⟩ hn hd

variable {a b : Expr} {ta tb : TE} {pos : Pos}
def PC (X : Cx) (op : CmpOp) (a b : Expr) (t : TE) : Prop :=
  ∀ (pins : List (Addr × Obj)) (s : Shared) (σ : St) (H : Hp) (Q : VK), Inv X pins σ H s → t σ H Q →
    wpAny (model X.prog X.w) X.A (eval a X.env) (fun v s₁ => wpAny (model X.prog X.w) X.A (eval b X.env) (fun u s₂ => wpAny (model X.prog X.w) X.A (compareOp op v u) (EP X pins σ Q) X.xe s₂) X.xe s₁) X.xe s
theorem nobehind (b : Expr) {op : CmpOp} (h : op ≠ .In) (h2 : op ≠ .NotIn) : behindInMarks op b = false := by
  have e1 : (op == CmpOp.In) = false := by cases op <;> first | rfl | exact absurd rfl h
  have e2 : (op == CmpOp.NotIn) = false := by cases op <;> first | rfl | exact absurd rfl h2
  cases b <;> simp [behindInMarks, e1, e2]
/-- a comparison as a value, as a test -/
def tB (t : TE) : TT := fun σ H Q => t σ H fun x H1 => ∃ c, x = .bl c ∧ Q c H1
theorem pt_cmp {op : CmpOp} {t : TE} (h : PC X op a b t) (h1 : behindInMarks op b = false := by first | exact nobehind _ (by decide) (by decide) | rfl) : PT X (.Compare a [op] [b] pos) (tB t) := by
  intro pins s σ H Q I hw
  refine wpAny_isTrue_Compare1 (thn (h pins s σ H _ I hw) fun v s1 h1 => thn h1 fun u s2 h2 => thn h2 fun c s3 ⟨x, H1, I1, r1, q1⟩ => ?_) h1
  obtain ⟨d, rfl, q⟩ := q1
  cases r1
  exact wpAny_truthy_bool ⟨H1, I1, q⟩
/-- an expression whose value is a bool, as a test -/
theorem pt_val {e : Expr} {t : TE} (h : PE X e t) (he : ∀ whole, isTrue e X.env whole = (do let v ← whole; standAt e.pos; holding [v] (truthy v)) := by intro _; rfl) : PT X e (tB t) := by
  intro pins s σ H Q I hw
  refine isTrue_plain (thn (h pins s σ H _ I hw) fun v s1 ⟨x, H1, I1, r1, q1⟩ => ?_) (he _)
  obtain ⟨d, rfl, q⟩ := q1
  cases r1
  exact wpAny_truthy_bool ⟨H1, I1, q⟩

variable {tA tB' : TT} {rest : List Expr}
def tAnd (t u : TT) : TT := fun σ H Q => t σ H fun c H1 => if c = true then u σ H1 Q else Q false H1
def tOr (t u : TT) : TT := fun σ H Q => t σ H fun c H1 => if c = true then Q true H1 else u σ H1 Q
def tNot (t : TT) : TT := fun σ H Q => t σ H fun c H1 => Q (!c) H1
theorem pw_and1 (ha : PT X a tA) : PW X (.BoolOp .And [a] pos) tA := by
  intro wh pins s σ H Q I h
  refine isTrue_and (thn (ha pins s σ H Q I h) fun c s1 e => ?_)
  cases c with
  | true => exact isTrue_and_nil e
  | false => exact e
theorem pw_or1 (ha : PT X a tA) : PW X (.BoolOp .Or [a] pos) tA := by
  intro wh pins s σ H Q I h
  refine isTrue_or (thn (ha pins s σ H Q I h) fun c s1 e => ?_)
  cases c with
  | false => exact isTrue_or_nil e
  | true => exact e
theorem pw_and (ha : PT X a tA) (hb : PW X (.BoolOp .And (b :: rest) pos) tB') : PW X (.BoolOp .And (a :: b :: rest) pos) (tAnd tA tB') := by
  intro wh pins s σ H Q I h
  refine isTrue_and (thn (ha pins s σ H _ I h) fun c s1 ⟨H1, I1, q1⟩ => ?_)
  cases c with
  | true => exact hb wh pins s1 σ H1 Q I1 q1
  | false => exact ⟨H1, I1, q1⟩
theorem pw_or (ha : PT X a tA) (hb : PW X (.BoolOp .Or (b :: rest) pos) tB') : PW X (.BoolOp .Or (a :: b :: rest) pos) (tOr tA tB') := by
  intro wh pins s σ H Q I h
  refine isTrue_or (thn (ha pins s σ H _ I h) fun c s1 ⟨H1, I1, q1⟩ => ?_)
  cases c with
  | true => exact ⟨H1, I1, q1⟩
  | false => exact hb wh pins s1 σ H1 Q I1 q1
theorem pt_not (ha : PT X a tA) : PT X (.UnaryOp .Not a pos) (tNot tA) := by
  intro pins s σ H Q I h
  exact isTrue_not (ha pins s σ H (fun c H1 => Q (!c) H1) I h)
/-- .. as values (bools) -/
def tAndV (ta tb : TE) : TE := fun σ H Q => ta σ H fun x H1 => ∃ c, x = .bl c ∧ if c = true then tb σ H1 Q else Q (.bl false) H1
def tOrV (ta tb : TE) : TE := fun σ H Q => ta σ H fun x H1 => ∃ c, x = .bl c ∧ if c = true then Q (.bl true) H1 else tb σ H1 Q
def tNotV (ta : TE) : TE := fun σ H Q => ta σ H fun x H1 => ∃ c, x = .bl c ∧ Q (.bl (!c)) H1
theorem pe_one {op} {t : TE} (h : PE X a t) : PE X (.BoolOp op [a] pos) t := fun pins s σ H Q I hw => BoolOp_one (h pins s σ H Q I hw)
theorem pe_and (ha : PE X a ta) (hb : PE X (.BoolOp .And (b :: rest) pos) tb) : PE X (.BoolOp .And (a :: b :: rest) pos) (tAndV ta tb) := by
  intro pins s σ H Q I h
  refine BoolOp_and (thn (ha pins s σ H _ I h) fun v s1 ⟨x, H1, I1, r1, q1⟩ => ?_)
  obtain ⟨c, rfl, q1⟩ := q1
  cases r1
  refine wpAny_truthy_bool ?_
  cases c with
  | true => exact hb pins s1 σ H1 Q I1 q1
  | false => exact ⟨.bl false, H1, I1, rfl, q1⟩
theorem pe_or (ha : PE X a ta) (hb : PE X (.BoolOp .Or (b :: rest) pos) tb) : PE X (.BoolOp .Or (a :: b :: rest) pos) (tOrV ta tb) := by
  intro pins s σ H Q I h
  refine BoolOp_or (thn (ha pins s σ H _ I h) fun v s1 ⟨x, H1, I1, r1, q1⟩ => ?_)
  obtain ⟨c, rfl, q1⟩ := q1
  cases r1
  refine wpAny_truthy_bool ?_
  cases c with
  | false => exact hb pins s1 σ H1 Q I1 q1
  | true => exact ⟨.bl true, H1, I1, rfl, q1⟩
theorem pe_not (ha : PE X a ta) : PE X (.UnaryOp .Not a pos) (tNotV ta) := by
  intro pins s σ H Q I h
  refine UnaryOp_ (thn (ha pins s σ H _ I h) fun v s1 ⟨x, H1, I1, r1, q1⟩ => ?_)
  obtain ⟨c, rfl, q1⟩ := q1
  cases r1
  exact not_of (wpAny_truthy_bool ⟨.bl (!c), H1, I1, rfl, q1⟩)
end
end L2

namespace L2
open PySem PySem.Spec PyProof.Rows

def SqL (K : PySem.W.Frag) (H : Hp) (a : Addr) (xs : List V) : Prop :=
  Rd H a (.lst xs) ∨
    ∃ (o : Obj) (its : Array Value) (n : Nat), K.lookup a = some o ∧ o.cls = .type "list" ∧ o.dict = none ∧ o.data = .seq its n ∧ its.size ≤ sizeLine ∧ Vals xs its.toList
def SqT (K : PySem.W.Frag) (H : Hp) (a : Addr) (xs : List V) : Prop :=
  Rd H a (.tup xs) ∨
    ∃ (o : Obj) (its : Array Value) (n : Nat), K.lookup a = some o ∧ o.cls = .type "tuple" ∧ o.data = .seq its n ∧ its.size ≤ sizeLine ∧ Vals xs its.toList
def absV : Value → Option V
  | .none => some .non
  | .bool b => some (.bl b)
  | .int i _ => some (.int i)
  | .str x _ => some (.str x)
  | .bytes b _ => some (.byt b)
  | .float b _ => some (.flt b)
  | .ref a => some (.ref a)
  | .type n => some (.ty n)
  | _ => none
theorem RelV.abs {x : V} {u : Value} (r : RelV x u) : absV u = some x := by
  cases x with
  | non => cases r; rfl
  | bl _ => cases r; rfl
  | int _ => obtain ⟨t, rfl⟩ := r; rfl
  | str _ => obtain ⟨t, rfl⟩ := r; rfl
  | byt _ => obtain ⟨t, rfl⟩ := r; rfl
  | flt _ => obtain ⟨t, rfl⟩ := r; rfl
  | ref _ => cases r; rfl
  | ty _ => cases r; rfl
theorem RelV.inj {x y : V} {u : Value} (r : RelV x u) (q : RelV y u) : x = y := Option.some.inj (r.abs.symm.trans q.abs)
theorem Vals.inj : ∀ {xs ys : List V} {us : List Value}, Vals xs us → Vals ys us → xs = ys
  | _, _, _, .nil, .nil => rfl
  | _, _, _, .cons r t, .cons r' t' => by rw [r.inj r', Vals.inj t t']
section
variable {X : Cx} {pins : List (Addr × Obj)} {σ : St} {H : Hp} {s : Shared} {a : Addr} {xs ys : List V}
theorem SqL.of {K : PySem.W.Frag} (h : H a = some (.lst xs)) : SqL K H a xs := .inl (.inl h)
theorem SqT.of {K : PySem.W.Frag} (h : H a = some (.tup xs)) : SqT K H a xs := .inl (.inl h)
theorem Inv.list (I : Inv X pins σ H s) (h : SqL X.K H a xs) : ∃ its : List Value, Vals xs its ∧ PlainL s.heap a its.toArray ∧ xs.length ≤ sizeLine := by
  rcases h with h | ⟨o, its, n, hk, hc, hd, hs, hz, r⟩
  · obtain ⟨z, its, n, r, e⟩ := h.ok I.hok
    exact ⟨its, r, ⟨_, n, e, rfl, rfl, rfl⟩, z⟩
  · refine ⟨its.toList, r, ⟨o, n, I.kIn a o hk, hc, hd, by simpa using hs⟩, ?_⟩
    have e := r.length
    simp only [Array.length_toList] at e
    omega
theorem Inv.tuple (I : Inv X pins σ H s) (h : SqT X.K H a xs) : ∃ its : List Value, Vals xs its ∧ IsTup s.heap a its.toArray ∧ xs.length ≤ sizeLine := by
  rcases h with h | ⟨o, its, n, hk, hc, hs, hz, r⟩
  · obtain ⟨z, its, r, p⟩ := h.ok I.hok
    exact ⟨its, r, p, z⟩
  · refine ⟨its.toList, r, ⟨o, I.kIn a o hk, hc, n, by simpa using hs⟩, ?_⟩
    have e := r.length
    simp only [Array.length_toList] at e
    omega
theorem Inv.list_inj (I : Inv X pins σ H s) (h : SqL X.K H a xs) (h' : SqL X.K H a ys) : xs = ys := by
  obtain ⟨its, r, ⟨o, n, e, _, _, d⟩, _⟩ := I.list h
  obtain ⟨its', r', ⟨o', n', e', _, _, d'⟩, _⟩ := I.list h'
  rw [e] at e'; cases e'
  rw [d] at d'
  injection d' with d1 _
  have : its = its' := by simpa using congrArg Array.toList d1
  subst this
  exact r.inj r'
theorem Inv.tuple_inj (I : Inv X pins σ H s) (h : SqT X.K H a xs) (h' : SqT X.K H a ys) : xs = ys := by
  obtain ⟨its, r, ⟨o, e, _, n, d⟩, _⟩ := I.tuple h
  obtain ⟨its', r', ⟨o', e', _, n', d'⟩, _⟩ := I.tuple h'
  rw [e] at e'; cases e'
  rw [d] at d'
  injection d' with d1 _
  have : its = its' := by simpa using congrArg Array.toList d1
  subst this
  exact r.inj r'
end

abbrev Cx.wish (X : Cx) (E : Value → Shared → Prop) : Cx := { X with xe := E }
/-- no exception leaves -/
abbrev Cx.nox (X : Cx) : Cx := X.wish fun _ _ => False
theorem Cx.Ok.wish {X : Cx} (ok : X.Ok) (E : Value → Shared → Prop) : (X.wish E).Ok :=
  ⟨ok.mod, ok.kind, ok.glob, ok.blt, ok.above, ok.inj, ok.has, ok.cab, ok.hd, ok.frames, ok.stk, ok.exf, ok.bs, ok.bsz, ok.noex, ok.exfs, ok.funs, ok.frf⟩
theorem Cx.Ok.unwish {X : Cx} {E : Value → Shared → Prop} (ok : (X.wish E).Ok) : X.Ok :=
  ⟨ok.mod, ok.kind, ok.glob, ok.blt, ok.above, ok.inj, ok.has, ok.cab, ok.hd, ok.frames, ok.stk, ok.exf, ok.bs, ok.bsz, ok.noex, ok.exfs, ok.funs, ok.frf⟩
section
variable {X : Cx} {pins : List (Addr × Obj)} {σ : St} {H : Hp} {s : Shared} {E : Value → Shared → Prop}
theorem Inv.wish (I : Inv X pins σ H s) (E : Value → Shared → Prop) : Inv (X.wish E) pins σ H s := ⟨I.ok.wish E, I.os, I.bare, I.base, I.loc, I.cell, I.free, I.freeC, I.pin, I.hok, I.len⟩
theorem Inv.unwish (I : Inv (X.wish E) pins σ H s) : Inv X pins σ H s := ⟨I.ok.unwish, I.os, I.bare, I.base, I.loc, I.cell, I.free, I.freeC, I.pin, I.hok, I.len⟩
theorem SP.unwish {D : Ends} {f : Flow} {s' : Shared} (h : SP (X.wish E) pins D f s') : SP X pins D f s' := by
  cases f with
  | next => obtain ⟨σ', H', I, q⟩ := h; exact ⟨σ', H', I.unwish, q⟩
  | brk => obtain ⟨σ', H', I, q⟩ := h; exact ⟨σ', H', I.unwish, q⟩
  | cont => obtain ⟨σ', H', I, q⟩ := h; exact ⟨σ', H', I.unwish, q⟩
  | ret u => obtain ⟨v, σ', H', I, r, q⟩ := h; exact ⟨v, σ', H', I.unwish, r, q⟩
theorem PSs.nox {st : List Stmt} {t : TS} (h : PSs X.nox st t) : PSs X st t := fun pins s σ H D I hw =>
  wpAny_mono (h pins s σ H D (I.wish _) hw) (fun _ _ q => q.unwish) fun _ _ z => False.elim z
end

section
variable {X : Cx} {st : Stmt} {rest : List Stmt} {t u : TS} {e : Expr} {te : TE} {pos : Pos}
def tNext : TS := fun D σ H => D.nx σ H
def tSeq (t u : TS) : TS := fun D σ H => t { D with nx := u D } σ H
theorem pss_nil : PSs X [] tNext := fun _ _ σ H _ I h => wpAny_execs_nil ⟨σ, H, I, h⟩
theorem pss_cons (h1 : PS X st t) (h2 : PSs X rest u) : PSs X (st :: rest) (tSeq t u) := by
  intro pins s σ H D I h
  refine wpAny_execs_cons (thn (h1 pins s σ H { D with nx := u D } I h) fun f s1 q => ?_)
  cases f with
  | next =>
    obtain ⟨σ', H', I', q⟩ := q
    exact h2 pins s1 σ' H' D I' q
  | ret v => exact q
  | brk => exact q
  | cont => exact q
theorem pss_one (h1 : PS X st t) : PSs X [st] t := by
  intro pins s σ H D I h
  refine wpAny_execs_cons (thn (h1 pins s σ H D I h) fun f s1 q => ?_)
  cases f with
  | next => exact wpAny_execs_nil q
  | ret v => exact q
  | brk => exact q
  | cont => exact q
/-- in a def's body nothing is shown -/
theorem Inv.quiet {pins : List (Addr × Obj)} {σ : St} {H : Hp} {s : Shared} (I : Inv X pins σ H s) : interactive X.env = false := by simp [interactive, I.ok.kind]
/-- an expression whose value is dropped -/
def tDrop (te : TE) : TS := fun D σ H => te σ H fun _ H1 => D.nx σ H1
theorem ps_expr (he : PE X e te) (hs : swapsWith e none pos.line X.env = pure false := by rfl) : PS X (.Expr e pos) (tDrop te) := by
  intro pins s σ H D I h
  exact wpAny_Expr_any (thn (he pins s σ H _ I h) fun v s1 ⟨x, H1, I1, r1, q1⟩ => ⟨σ, H1, I1, q1⟩) I.quiet hs
def tRet (te : TE) : TS := fun D σ H => te σ H D.rt
theorem ps_ret (he : PE X e te) : PS X (.Return (some e) pos) (tRet te) := by
  intro pins s σ H D I h
  exact wpAny_Return_some (thn (he pins s σ H _ I h) fun v s1 ⟨x, H1, I1, r1, q1⟩ => ⟨x, σ, H1, I1, r1, q1⟩)
def tRetN : TS := fun D _ H => D.rt .non H
def tIfS (c : TT) (t u : TS) : TS := fun D σ H => c σ H fun b H1 => if b = true then t D σ H1 else u D σ H1
theorem ps_if {c : Expr} {a b : List Stmt} {tc : TT} (hc : PT X c tc) (ha : PSs X a t) (hb : PSs X b u) : PS X (.If c a b pos) (tIfS tc t u) := by
  intro pins s σ H D I h
  refine wpAny_If (thn (hc pins s σ H _ I h) fun d s1 ⟨H1, I1, q1⟩ => ?_)
  cases d with
  | true => exact ha pins s1 σ H1 D I1 q1
  | false => exact hb pins s1 σ H1 D I1 q1
end

abbrev TG := V → St → Hp → (St → Hp → Prop) → Prop
abbrev TGs := List V → St → Hp → (St → Hp → Prop) → Prop
def PG (X : Cx) (target : Expr) (t : TG) : Prop :=
  ∀ (pins : List (Addr × Obj)) (s : Shared) (σ : St) (H : Hp) (v : V) (u : Value) (Q : St → Hp → Prop), Inv X pins σ H s → RelV v u → t v σ H Q →
    wpAny (model X.prog X.w) X.A (assign target X.env u) (fun _ s' => ∃ σ' H', Inv X pins σ' H' s' ∧ Q σ' H') X.xe s
/-- several targets, one after another -/
def PGs (X : Cx) (ts : List Expr) (t : TGs) : Prop :=
  ∀ (pins : List (Addr × Obj)) (s : Shared) (σ : St) (H : Hp) (vs : List V) (us : List Value) (Q : St → Hp → Prop), Inv X pins σ H s → Vals vs us → t vs σ H Q →
    wpAny (model X.prog X.w) X.A (assignInOrder ((assignEach ts X.env).map (·.2)) us) (fun _ s' => ∃ σ' H', Inv X pins σ' H' s' ∧ Q σ' H') X.xe s
/-- o[i] = v, by values -/
abbrev TSet := V → V → V → Hp → (Hp → Prop) → Prop
def PSet (X : Cx) (t : TSet) : Prop :=
  ∀ (pins : List (Addr × Obj)) (s : Shared) (σ : St) (H : Hp) (o i v : V) (ov iv u : Value) (Q : Hp → Prop), Inv X pins σ H s → RelV o ov → RelV i iv → RelV v u → t o i v H Q →
    wpAny (model X.prog X.w) X.A (setItem ov iv u) (fun _ s' => ∃ H', Inv X pins σ H' s' ∧ Q H') X.xe s
section
variable {X : Cx} {pos : Pos}
def gName (i : Nat) : TG := fun v σ H Q => Q (σ.set i (some v)) H
theorem pg_name {i : Nat} {x : Str} (hN : X.N.Nodup) (hi : X.N[i]? = some x) (hx : Loc X.env.scope x) (hf : X.fn x = true ∨ X.env.scope.names.lookup x = some .local := by first | exact .inl rfl | exact .inr rfl | assumption) : PG X (.Name x pos) (gName i) := by
  intro pins s σ H v u Q I r h
  exact wpAny_assign_Name (store_ok I hN hi hx r (fun s' I' => ⟨_, H, I', h⟩) hf)
def gNil : TGs := fun vs σ H Q => vs = [] ∧ Q σ H
def gCons (t : TG) (u : TGs) : TGs := fun vs σ H Q => ∃ v r, vs = v :: r ∧ t v σ H fun σ' H' => u r σ' H' Q
theorem pgs_nil : PGs X [] gNil := by
  intro pins s σ H vs us Q I r h
  obtain ⟨e, h⟩ := h
  subst e
  cases r
  exact assignInOrder_nil ⟨σ, H, I, h⟩
theorem pgs_cons {e : Expr} {es : List Expr} {t : TG} {u : TGs} (h1 : PG X e t) (h2 : PGs X es u)
    (hs : (assignEach (e :: es) X.env).map (·.2) = assign e X.env :: (assignEach es X.env).map (·.2) := by rfl) : PGs X (e :: es) (gCons t u) := by
  intro pins s σ H vs us Q I r h
  obtain ⟨v, vr, e1, h⟩ := h
  subst e1
  cases r with
  | cons r rr =>
    rw [hs]
    refine assignInOrder_cons (thn (h1 pins s σ H _ _ _ I r h) fun _ s1 ⟨σ1, H1, I1, q1⟩ => ?_)
    exact h2 pins s1 σ1 H1 _ _ Q I1 rr q1
/-- (a, b, ..) = a tuple of that length -/
def gTup (K : PySem.W.Frag) (n : Nat) (t : TGs) : TG := fun v σ H Q => ∃ a xs, v = .ref a ∧ SqT K H a xs ∧ xs.length = n ∧ t xs σ H Q
theorem pg_tup {es : List Expr} {k : Nat} {t : TGs} {n : Nat} (hc : X.calm = true) (h : PGs X es t)
    (hn : (assignEach es X.env).length = n := by rfl) (hst : (assignEach es X.env).findIdx? (·.1) = none := by rfl) : PG X (.Tuple es k pos) (gTup X.K n t) := by
  intro pins s σ H v u Q I r hw
  obtain ⟨a, xs, e1, hq, hl, hw⟩ := hw
  subst e1
  cases r
  obtain ⟨its, rv, ht, hz⟩ := I.tuple hq
  refine assign_Tuple_tuple (I.ok.hd hc) ht (by simp [hn, ← hl, rv.length]) hst fun h' hx => ?_
  have I1 : Inv X pins σ H { s with heap := h' } := I.kept (t' := s.toks) fun b o e => hx b o (Nat.ne_of_lt (Heap.lt_size e)) e
  exact h pins _ σ H xs _ Q I1 (by simpa using rv) hw
/-- o[i] = .. -/
def gSub (to ti : TE) (t : TSet) : TG := fun v σ H Q => to σ H fun o H1 => ti σ H1 fun i H2 => t o i v H2 fun H3 => Q σ H3
theorem pg_sub {o i : Expr} {to ti : TE} {t : TSet} (ho : PE X o to) (hi : PE X i ti) (hs : PSet X t)
    (ha : ∀ v, assign (.Subscript o i pos) X.env v = (do
      let ov ← holding [v] (eval o X.env)
      let iv ← holding [v, ov] (eval i X.env)
      standAt pos
      holding [v, ov, iv] (setItem ov iv v)
      release [v, ov, iv] []) := by intro _; rfl) : PG X (.Subscript o i pos) (gSub to ti t) := by
  intro pins s σ H v u Q I r h
  rw [ha]
  refine wpAny_bind (wpAny_holding (thn (ho pins s σ H _ I h) fun ov s1 ⟨x, H1, I1, r1, q1⟩ => ?_))
  refine wpAny_bind (wpAny_holding (thn (hi pins s1 σ H1 _ I1 q1) fun iv s2 ⟨y, H2, I2, r2, q2⟩ => ?_))
  refine wpAny_bind (wpAny_standAt (wpAny_bind (wpAny_holding (thn (hs pins s2 σ H2 x y v ov iv u _ I2 r1 r2 r q2) fun _ s3 ⟨H3, I3, q3⟩ => ?_))))
  exact wpAny_release ⟨σ, H3, I3, q3⟩
/-- target = value -/
def tAsg (te : TE) (g : TG) : TS := fun D σ H => te σ H fun x H1 => g x σ H1 D.nx
theorem ps_asg {tg e : Expr} {te : TE} {g : TG} (he : PE X e te) (hg : PG X tg g) (hs : swapsWithSole [tg] e pos.line X.env = pure false := by rfl) (hw : swappedStores [tg] e X.env = pure none := by rfl)
    (h1 : (assignEach [tg] X.env).map (·.2) = [assign tg X.env] := by rfl) : PS X (.Assign [tg] e pos) (tAsg te g) := by
  intro pins s σ H D I h
  refine wpAny_Assign_stores (thn (he pins s σ H _ I h) fun v s1 ⟨x, H1, I1, r1, q1⟩ => ?_) hs hw
  rw [h1]
  exact thn (hg pins s1 σ H1 x v _ I1 r1 q1) fun _ s2 q => q
/-- name = value -/
theorem ps_set {i : Nat} {x : Str} {e : Expr} {te : TE} {pos' : Pos} (hN : X.N.Nodup) (hi : X.N[i]? = some x) (hx : Loc X.env.scope x) (he : PE X e te) (hs : swapsWith e (some (.Name x pos')) pos.line X.env = pure false := by rfl) (hf : X.fn x = true ∨ X.env.scope.names.lookup x = some .local := by first | exact .inl rfl | exact .inr rfl | assumption) :
    PS X (.Assign [.Name x pos'] e pos) (tAsg te (gName i)) := by
  intro pins s σ H D I h
  refine wpAny_Assign_Name (thn (he pins s σ H _ I h) fun v s1 ⟨y, H1, I1, r1, q1⟩ => ?_) hs
  exact store_ok I1 hN hi hx r1 (fun s2 I2 => ⟨_, H1, I2, q1⟩) hf
end

section
variable {X : Cx} {pos : Pos}
/-- the invariant W with its measure -/
def tWhile (c : TT) (tb : TS) : TS := fun D σ H => ∃ W : Nat → St → Hp → Prop, (∃ m, W m σ H) ∧ ∀ m σ H, W m σ H →
  c σ H fun b H1 => if b = true then ∃ N : St → Hp → Prop, (∀ σ' H', N σ' H' → ∃ m', m' < m ∧ W m' σ' H') ∧ tb { D with nx := N, ct := N, bk := D.nx } σ H1 else D.nx σ H1
theorem ps_while {c : Expr} {body : List Stmt} {tc : TT} {tb : TS} (hp : PassesOwn (model X.prog X.w) X.A X.env X.xe) (hc : PT X c tc) (hb : PSs X body tb) : PS X (.While c body [] pos) (tWhile tc tb) := by
  intro pins s σ H D I h
  obtain ⟨W, ⟨m0, w0⟩, turn⟩ := h
  refine wpAny_While (codeAny_whileLoop (fun n s' => ∃ σ' H', Inv X pins σ' H' s' ∧ W n σ' H') ?_ m0 ⟨σ, H, I, w0⟩)
  rintro n s1 ⟨σ1, H1, I1, w1⟩
  refine wpAny_passesOwn hp (thn (hc pins s1 σ1 H1 _ I1 (turn n σ1 H1 w1)) fun b s2 ⟨H2, I2, q2⟩ => ?_)
  cases b with
  | true =>
    obtain ⟨N, hN, q2⟩ := q2
    rw [if_pos rfl]
    refine wpAny_passesOwn hp (thn (hb pins s2 σ1 H2 _ I2 q2) fun f s3 q3 => ?_)
    cases f with
    | next =>
      obtain ⟨σ3, H3, I3, n3⟩ := q3
      obtain ⟨m', hm, w3⟩ := hN σ3 H3 n3
      exact ⟨m', hm, σ3, H3, I3, w3⟩
    | cont =>
      obtain ⟨σ3, H3, I3, n3⟩ := q3
      obtain ⟨m', hm, w3⟩ := hN σ3 H3 n3
      exact ⟨m', hm, σ3, H3, I3, w3⟩
    | brk => exact q3
    | ret v => exact q3
  | false =>
    rw [if_neg Bool.false_ne_true]
    exact wpAny_execs_nil ⟨σ1, H2, I2, q2⟩
end

/-- at turn i: it yields x (the heap may grow), or it stops -/
structure It where
  go : Nat → Hp → Prop
  yld : Nat → Hp → V → Hp → Prop
  stop : Nat → Hp → Prop
/-- the iterator's own objects may turn: they are not the frame's, not pinned, younger than the entry (or a comprehension's own) -/
def FpOk (X : Cx) (pins : List (Addr × Obj)) (H : Hp) (b : Addr) : Prop :=
  H b = none ∧ b ≠ X.env.locals ∧ b ∉ X.fs ∧ (b ∈ X.ex ∨ X.s₀.heap.objs.size ≤ b) ∧ (∀ x c, X.env.cells.lookup x = some c → c ≠ b) ∧ ∀ p ∈ X.pn ++ pins, p.1 ≠ b
theorem Inv.fpOk {X : Cx} {pins : List (Addr × Obj)} {σ : St} {H H' : Hp} {s : Shared} {b : Addr} (I : Inv X pins σ H s) (hb : s.heap.objs.size ≤ b) (hn : H' b = none) : FpOk X pins H' b := by
  refine ⟨hn, Nat.ne_of_gt (Nat.lt_of_lt_of_le I.lt hb), I.nofs hb, .inr (Nat.le_trans I.sz hb), fun x c e z => ?_, fun p hp z => ?_⟩
  · obtain ⟨v, q⟩ := I.cell x c e
    exact absurd (Nat.lt_of_lt_of_le q.lt (by rw [z]; exact hb)) (Nat.lt_irrefl _)
  · exact absurd (Nat.lt_of_lt_of_le (Heap.lt_size (I.pin p hp).1) (by rw [z]; exact hb)) (Nat.lt_irrefl _)
structure Turn (P : Program) (w : World) (K : PySem.W.Frag) (tg : Expr) (J : It) (fp : List Addr) (it : Addr) (tn : Nat → Heap → Prop) : Prop where
  mem : it ∈ fp
  obj : ∀ i h, tn i h → ∀ b ∈ fp, ∃ o, h.get? b = some o ∧ ∀ v, o.data ≠ .cell v
  keep : ∀ i h h', tn i h → (∀ b ∈ fp, ∀ o, h.get? b = some o → h'.get? b = some o) → tn i h'
  item : ∀ (X : Cx), X.prog = P → X.w = w → X.K = K → X.calm = true → ∀ (i : Nat) (pins : List (Addr × Obj)) (s : Shared) (σ : St) (H : Hp) (E : Value → Shared → Prop), Inv X pins σ H s → (∀ b ∈ fp, FpOk X pins H b) → tn i s.heap → J.go i H →
    wpAny (model P w) X.A (pyNext (.ref it)) (fun r s1 => ∃ u, r = some u ∧
      wpAny (model P w) X.A (letOwnedTupleGo tg (.ref it) u) (fun _ s2 => ∃ x H', Inv X pins σ H' s2 ∧ RelV x u ∧ J.yld i H x H' ∧ tn (i + 1) s2.heap ∧ ∀ b ∈ fp, H' b = none) E s1) E s
  done : ∀ (X : Cx), X.prog = P → X.w = w → X.K = K → X.calm = true → ∀ (i : Nat) (pins : List (Addr × Obj)) (s : Shared) (σ : St) (H : Hp) (E : Value → Shared → Prop), Inv X pins σ H s → (∀ b ∈ fp, FpOk X pins H b) → tn i s.heap → J.stop i H →
    wpAny (model P w) X.A (pyNext (.ref it)) (fun r s1 => r = none ∧ Inv X pins σ H s1) E s
  self : ∀ (A : Around) (i : Nat) (s : Shared) (Q : Value → Shared → Prop) (E : Value → Shared → Prop), tn i s.heap → Q (.ref it) s → wpAny (model P w) A (pyIter (.ref it)) Q E s
abbrev TI := St → Hp → (It → Hp → Prop) → Prop
/-- an iterator has come -/
def PIE (X : Cx) (pins : List (Addr × Obj)) (σ : St) (tg : Expr) (R : It → Hp → Prop) (itv : Value) (s2 : Shared) : Prop :=
  ∃ (it : Addr) (fp : List Addr) (tn : Nat → Heap → Prop) (J : It) (H' : Hp), itv = .ref it ∧ Inv X pins σ H' s2 ∧ Turn X.prog X.w X.K tg J fp it tn ∧ tn 0 s2.heap ∧ (∀ b ∈ fp, FpOk X pins H' b) ∧ R J H'
def PI (X : Cx) (tg iter : Expr) (wi : TI) : Prop :=
  ∀ (pins : List (Addr × Obj)) (s : Shared) (σ : St) (H : Hp) (R : It → Hp → Prop), Inv X pins σ H s → wi σ H R →
    wpAny (model X.prog X.w) X.A (eval iter X.env) (fun v s1 => wpAny (model X.prog X.w) X.A (pyIter v) (PIE X pins σ tg R) X.xe s1) X.xe s

/-- the step ahead of the store is nothing for an iterator that keeps no tuple -/
theorem go_of {M : Model} {A : Around} {E : Value → Shared → Prop} {s : Shared} {tg : Expr} {it : Addr} {u : Value} {o : Obj} {n : String} {vs : Array Value} {Q : Unit → Shared → Prop} (ho : s.heap.get? it = some o) (hc : o.cls = .type n) (hd : o.data = .fields vs)
    (hn : ["enumerate", "zip", "dict_itemiterator", "dict_reverseitemiterator", "odict_iterator", "itertools.zip_longest", "itertools.pairwise"].contains n = false) (hQ : Q () s) : wpAny M A (letOwnedTupleGo tg (.ref it) u) Q E s := by
  unfold letOwnedTupleGo
  cases tg <;> first
    | exact wpAny_pure hQ
    | (cases u <;> first
        | exact wpAny_pure hQ
        | (refine wpAny_bind (wpAny_load ho ?_)
           rw [hc, hd]
           show wpAny M A (if (["enumerate", "zip", "dict_itemiterator", "dict_reverseitemiterator", "odict_iterator", "itertools.zip_longest", "itertools.pairwise"].contains n && vs[0]? == some (rawInt _)) = true then _ else _) Q E s
           rw [if_neg (by intro h; rw [hn, Bool.false_and] at h; cases h)]
           exact wpAny_pure hQ))

/-- the list at a, as it stands at each turn (a loop may append to it) -/
def Itl (K : PySem.W.Frag) (a : Addr) : It :=
  ⟨fun i H => ∃ xs x, SqL K H a xs ∧ xs[i]? = some x, fun i H x H' => H' = H ∧ ∀ xs, SqL K H a xs → xs[i]? = some x, fun i H => ∃ xs, SqL K H a xs ∧ xs.length ≤ i⟩
def Itt (K : PySem.W.Frag) (a : Addr) : It :=
  ⟨fun i H => ∃ xs x, SqT K H a xs ∧ xs[i]? = some x, fun i H x H' => H' = H ∧ ∀ xs, SqT K H a xs → xs[i]? = some x, fun i H => ∃ xs, SqT K H a xs ∧ xs.length ≤ i⟩
/-- lo, lo + 1, .. (n of them) -/
def Itr (lo : Int) (n : Nat) : It := ⟨fun i _ => i < n, fun i H x H' => H' = H ∧ x = .int (lo + i), fun i _ => n ≤ i⟩
theorem turn_list {P : Program} {w : World} {K : PySem.W.Frag} {tg : Expr} (a it : Addr) : Turn P w K tg (Itl K a) [it] it (fun i h => h.IsListIter it a i) where
  mem := by simp
  obj := fun i h st b hb => by
    have e : b = it := by simpa using hb
    subst e
    obtain ⟨o, e, c, d⟩ := st
    exact ⟨o, e, fun v z => by rw [d] at z; cases z⟩
  keep := fun i h h' st k => st.at fun o e => k it (by simp) o e
  item := by
    intro X hP hw hK hc i pins s σ H E I hf st hg
    subst hP hw hK
    obtain ⟨xs, x, hq, hx⟩ := hg
    obtain ⟨its, rv, p, hz⟩ := I.list hq
    obtain ⟨u, hu, ru⟩ := rv.get hx
    obtain ⟨f0, f1, f2, f3, f4, f5⟩ := hf it (by simp)
    refine wpAny_pyNext_list_item st p.isList (x := u) (by simpa using hu) fun h' st' sb => ?_
    have I1 : Inv X pins σ H { s with heap := h' } := I.turned (t' := s.toks) (fun b o hb e => (sb.2 b hb).trans e) f0 f1 f3 f4 f5
    obtain ⟨o, e, c, d⟩ := id st'
    exact ⟨u, rfl, go_of (s := { s with heap := h' }) e c d (by decide) ⟨x, H, I1, ru, ⟨rfl, fun ys hy => by rw [I.list_inj hy hq]; exact hx⟩, st', fun b hb => (hf b hb).1⟩⟩
  done := by
    intro X hP hw hK hc i pins s σ H E I hf st hg
    subst hP hw hK
    obtain ⟨xs, hq, hx⟩ := hg
    obtain ⟨its, rv, p, hz⟩ := I.list hq
    obtain ⟨f0, f1, f2, f3, f4, f5⟩ := hf it (by simp)
    have hl := rv.length
    exact wpAny_pyNext_list_end (I.ok.hd hc) st p.isList (by simp; omega) fun h' eb => ⟨rfl, I.turned (t' := s.toks) (fun b o hb e => eb b o hb e) f0 f1 f3 f4 f5⟩
  self := fun _ _ _ _ _ st h => wpAny_pyIter_listiter st h
theorem turn_tuple {P : Program} {w : World} {K : PySem.W.Frag} {tg : Expr} (a it : Addr) : Turn P w K tg (Itt K a) [it] it (fun i h => h.IsTupleIter it a i) where
  mem := by simp
  obj := fun i h st b hb => by
    have e : b = it := by simpa using hb
    subst e
    obtain ⟨o, e, c, d⟩ := st
    exact ⟨o, e, fun v z => by rw [d] at z; cases z⟩
  keep := fun i h h' st k => st.at fun o e => k it (by simp) o e
  item := by
    intro X hP hw hK hc i pins s σ H E I hf st hg
    subst hP hw hK
    obtain ⟨xs, x, hq, hx⟩ := hg
    obtain ⟨its, rv, p, hz⟩ := I.tuple hq
    obtain ⟨u, hu, ru⟩ := rv.get hx
    obtain ⟨f0, f1, f2, f3, f4, f5⟩ := hf it (by simp)
    refine wpAny_pyNext_tuple_item st (show s.heap.IsTuple a its.toArray from p) (x := u) (by simpa using hu) fun h' st' sb => ?_
    have I1 : Inv X pins σ H { s with heap := h' } := I.turned (t' := s.toks) (fun b o hb e => (sb.2 b hb).trans e) f0 f1 f3 f4 f5
    obtain ⟨o, e, c, d⟩ := id st'
    exact ⟨u, rfl, go_of (s := { s with heap := h' }) e c d (by decide) ⟨x, H, I1, ru, ⟨rfl, fun ys hy => by rw [I.tuple_inj hy hq]; exact hx⟩, st', fun b hb => (hf b hb).1⟩⟩
  done := by
    intro X hP hw hK hc i pins s σ H E I hf st hg
    subst hP hw hK
    obtain ⟨xs, hq, hx⟩ := hg
    obtain ⟨its, rv, p, hz⟩ := I.tuple hq
    obtain ⟨f0, f1, f2, f3, f4, f5⟩ := hf it (by simp)
    have hl := rv.length
    exact wpAny_pyNext_tuple_end (I.ok.hd hc) st (show s.heap.IsTuple a its.toArray from p) (by simp; omega) fun h' eb => ⟨rfl, I.turned (t' := s.toks) (fun b o hb e => eb b o hb e) f0 f1 f3 f4 f5⟩
  self := fun _ _ _ _ _ st h => wpAny_pyIter_tupleiter st h
theorem turn_range {P : Program} {w : World} {K : PySem.W.Frag} {tg : Expr} (it : Addr) (lo : Int) (n : Nat) : Turn P w K tg (Itr lo n) [it] it (fun i h => IsRangeIter h it (lo + (i : Nat) * 1) ((n : Int) - (i : Nat)) 1) where
  mem := by simp
  obj := fun i h st b hb => by
    have e : b = it := by simpa using hb
    subst e
    exact ⟨_, st, fun v z => by
      have z' : Data.fields _ = Data.cell v := z
      cases z'⟩
  keep := fun i h h' st k => k it (by simp) _ st
  item := by
    intro X hP hw hK hc i pins s σ H E I hf st hg
    subst hP hw hK
    obtain ⟨f0, f1, f2, f3, f4, f5⟩ := hf it (by simp)
    have W := Walks.range (prog := X.prog) (w := X.w) (I.ok.hd hc) it lo 1 n
    refine W.item i s _ _ hg st fun v h' tk hv st' kk => ?_
    obtain ⟨t, rfl⟩ := hv
    have I1 : Inv X pins σ H { s with heap := h', toks := tk } := I.turned (fun b o hb e => kk b o (by simpa using hb) e) f0 f1 f3 f4 f5
    refine ⟨_, rfl, go_of (s := { s with heap := h', toks := tk }) (n := "range_iterator") st' rfl rfl (by decide) ⟨.int (lo + i), H, I1, ⟨t, ?_⟩, ⟨rfl, rfl⟩, st', fun b hb => (hf b hb).1⟩⟩
    rw [Int.mul_one]
  done := by
    intro X hP hw hK hc i pins s σ H E I hf st hg
    subst hP hw hK
    obtain ⟨f0, f1, f2, f3, f4, f5⟩ := hf it (by simp)
    exact wpAny_pyNext_range_end (I.ok.hd hc) st (by have : n ≤ i := hg; omega) fun h' eb => ⟨rfl, I.turned (t' := s.toks) (fun b o hb e => eb b o hb e) f0 f1 f3 f4 f5⟩
  self := fun _ _ _ _ _ st h => wpAny_pyIter_rangeiter st h
end L2

namespace L2
open PySem PySem.Spec PyProof.Rows
section
variable {X : Cx} {tg : Expr}
/-- a range object just made, walked -/
theorem range_it {pins : List (Addr × Obj)} {σ : St} {H : Hp} {s : Shared} {R : It → Hp → Prop} {E : Value → Shared → Prop} {lo hi : Int} {t u v : Tok} {tk : Nat} (I : Inv X pins σ H s) (h1 : -(2 ^ 62) ≤ lo) (h2 : lo < 2 ^ 62) (h3 : -(2 ^ 62) ≤ hi) (h4 : hi < 2 ^ 62)
    (q : R (Itr lo (hi - lo).toNat) H) : wpAny (model X.prog X.w) X.A (pyIter (.ref s.heap.objs.size)) (PIE X pins σ tg R) E { s with heap := s.heap.push { cls := .type "range", data := .fields #[.int lo t, .int hi u, .int 1 v] }, toks := tk } := by
  refine wpAny_pyIter_range (IsRange.new ..) (small_one h1 h2 h3 h4) ?_
  have I1 : Inv X pins σ H { s with heap := s.heap.push { cls := .type "range", data := .fields #[.int lo t, .int hi u, .int 1 v] }, toks := tk } := I.kept fun b o e => Heap.get?_push_of_some _ e
  refine ⟨(s.heap.push { cls := .type "range", data := .fields #[.int lo t, .int hi u, .int 1 v] }).objs.size, [(s.heap.push { cls := .type "range", data := .fields #[.int lo t, .int hi u, .int 1 v] }).objs.size], _, _, H, rfl,
    I1.kept (t' := tk) fun b o e => Heap.get?_push_of_some _ e, turn_range _ lo (hi - lo).toNat, ?_, fun b hb => ?_, q⟩
  · have e1 : lo + ((0 : Nat) : Int) * 1 = lo := by simp
    have e2 : (((hi - lo).toNat : Nat) : Int) - ((0 : Nat) : Int) = Builtin.Range.rangeSize lo hi 1 := by rw [rangeSize_one]; split <;> omega
    show IsRangeIter _ _ (lo + ((0 : Nat) : Int) * 1) ((((hi - lo).toNat : Nat) : Int) - ((0 : Nat) : Int)) 1
    rw [e1, e2]
    exact Heap.get?_push_size _ rfl
  · have e : b = (s.heap.push { cls := .type "range", data := .fields #[.int lo t, .int hi u, .int 1 v] }).objs.size := by simpa using hb
    subst e
    exact I1.fpOk (Nat.le_refl _) (I1.hok.fresh (Nat.le_refl _))
def iRng1 (ta : TA) : TI := fun σ H R => ta σ H fun vs H1 => ∃ j : Int, vs = [.int j] ∧ -(2 ^ 62) ≤ j ∧ j < 2 ^ 62 ∧ R (Itr 0 j.toNat) H1
def iRng2 (ta : TA) : TI := fun σ H R => ta σ H fun vs H1 => ∃ i j : Int, vs = [.int i, .int j] ∧ (-(2 ^ 62) ≤ i ∧ i < 2 ^ 62 ∧ -(2 ^ 62) ≤ j ∧ j < 2 ^ 62) ∧ R (Itr i (j - i).toNat) H1
theorem pi_range1 {a : Expr} {ta : TA} {p pos : Pos} (hg : Gl X "range") (hm : X.mg "range" = none) (ha : PA X [a] ta) (hs : starEach [a] X.env = [(false, eval a X.env)] := by rfl) : PI X tg (.Call (.Name "range" p) [a] [] pos) (iRng1 ta) := by
  intro pins s σ H R I h
  refine Call_ (ld_blt I hg hm boot_range (PyProof.Rows.callWith_type1 (thn (ha pos pins s σ H _ I h) fun us s1 ⟨vs, H1, I1, r1, q1⟩ => ?_) hs rfl))
  obtain ⟨j, e, q1, q2, q⟩ := q1
  subst e
  cases r1 with
  | cons r rr =>
    cases rr
    obtain ⟨t, rfl⟩ := r
    exact call_range_1 (range_it I1 (by omega) (by omega) q1 q2 (by simpa using q))
/-- W: the invariant by the turn and a measure; N: what the body is to reach -/
def tFor (wi : TI) (g : TG) (tb : TS) : TS := fun D σ H => wi σ H fun J H1 => ∃ W : Nat → Nat → St → Hp → Prop, (∃ m, W 0 m σ H1) ∧ ∀ i m σ H, W i m σ H →
  (J.stop i H ∧ D.nx σ H) ∨ (J.go i H ∧ ∃ N : St → Hp → Prop, (∀ σ' H', N σ' H' → ∃ m', m' < m ∧ W (i + 1) m' σ' H') ∧ ∀ x H', J.yld i H x H' → g x σ H' fun σ2 H2 => tb { D with nx := N, ct := N, bk := D.nx } σ2 H2)
/-- the records at fp as they stand -/
def pinsAt (fp : List Addr) (h : Heap) : List (Addr × Obj) := fp.filterMap fun b => (h.get? b).map fun o => (b, o)
theorem mem_pinsAt {fp : List Addr} {h : Heap} {b : Addr} {o : Obj} (hb : b ∈ fp) (e : h.get? b = some o) : (b, o) ∈ pinsAt fp h := List.mem_filterMap.mpr ⟨b, hb, by rw [e]; rfl⟩
theorem of_pinsAt {fp : List Addr} {h : Heap} {p : Addr × Obj} (hp : p ∈ pinsAt fp h) : p.1 ∈ fp ∧ h.get? p.1 = some p.2 := by
  obtain ⟨b, hb, e⟩ := List.mem_filterMap.mp hp
  cases q : h.get? b with
  | none => rw [q] at e; cases e
  | some o =>
    rw [q] at e
    have e' : (b, o) = p := Option.some.inj e
    subst e'
    exact ⟨hb, q⟩
theorem Inv.pinned {pins : List (Addr × Obj)} {σ : St} {H : Hp} {s : Shared} {fp : List Addr} (I : Inv X pins σ H s) (hf : ∀ b ∈ fp, FpOk X pins H b) (ho : ∀ b ∈ fp, ∃ o, s.heap.get? b = some o ∧ ∀ v, o.data ≠ .cell v) : Inv X (pins ++ pinsAt fp s.heap) σ H s :=
  I.pins_of fun p hp => (List.mem_append.mp hp).elim (fun z => I.pin p (List.mem_append_right _ z)) fun z => by
    obtain ⟨hb, e⟩ := of_pinsAt z
    obtain ⟨f0, f1, f2, _⟩ := hf p.1 hb
    obtain ⟨o, e', d⟩ := ho p.1 hb
    rw [e] at e'; cases e'
    exact ⟨e, f0, f1, f2, d⟩
theorem Inv.unpinned {pins pl : List (Addr × Obj)} {σ : St} {H : Hp} {s : Shared} (I : Inv X (pins ++ pl) σ H s) : Inv X pins σ H s := I.pins_of fun p hp => I.pin p (List.mem_append_right _ (List.mem_append_left _ hp))
theorem ps_for {iter : Expr} {body : List Stmt} {wi : TI} {g : TG} {tb : TS} {pos : Pos} (hp : PassesOwn (model X.prog X.w) X.A X.env X.xe) (hc : X.calm = true) (hi : PI X tg iter wi) (hg : PG X tg g) (hb : PSs X body tb)
    (hs : ∀ x, foldedSetIterable iter X.env x = pure x := by intro _; rfl) : PS X (.For tg iter body [] pos) (tFor wi g tb) := by
  intro pins s σ H D I h
  refine wpAny_For (thn (hi pins s σ H _ I h) fun v s1 h1 => thn h1 fun itv s2 h2 => ?_) hs
  obtain ⟨it, fp, tn, J, H2, e, I2, T, st2, f2, W, ⟨m0, w0⟩, turn⟩ := h2
  subst e
  -- what stays true of the iterator's objects through the loop
  have stat : ∀ {H' : Hp}, (∀ b ∈ fp, H' b = none) → ∀ b ∈ fp, FpOk X pins H' b := fun hn b hb => ⟨hn b hb, (f2 b hb).2⟩
  refine codeAny_forLoop_any (fun n s' => ∃ i σ' H', Inv X pins σ' H' s' ∧ tn i s'.heap ∧ (∀ b ∈ fp, H' b = none) ∧ W i n σ' H') ?_ m0 ⟨0, σ, H2, I2, st2, fun b hb => (f2 b hb).1, w0⟩
  rintro n s3 ⟨i, σ3, H3, I3, st3, fr3, w3⟩
  rcases turn i n σ3 H3 w3 with ⟨stop, qn⟩ | ⟨go, N, hN, step⟩
  · refine wpAny_passesOwn hp (thn (T.done X rfl rfl rfl hc i pins s3 σ3 H3 X.xe I3 (stat fr3) st3 stop) fun r s4 ⟨hr, I4⟩ => ?_)
    subst hr
    exact wpAny_execs_nil ⟨σ3, H3, I4, qn⟩
  · refine wpAny_passesOwn hp (thn (T.item X rfl rfl rfl hc i pins s3 σ3 H3 X.xe I3 (stat fr3) st3 go) fun r s4 ⟨u, hr, h4⟩ => ?_)
    subst hr
    refine wpAny_passesOwn hp (thn h4 fun _ s5 ⟨x, H5, I5, r5, y5, st5, fr5⟩ => ?_)
    have I5' := I5.pinned (stat fr5) (T.obj _ _ st5)
    refine wpAny_passesOwn hp (thn (hg _ s5 σ3 H5 x u _ I5' r5 (step x H5 y5)) fun _ s6 ⟨σ6, H6, I6, q6⟩ => ?_)
    refine wpAny_passesOwn hp (thn (hb _ s6 σ6 H6 _ I6 q6) fun f s7 q7 => ?_)
    have again : ∀ {σ7 : St} {H7 : Hp}, Inv X (pins ++ pinsAt fp s5.heap) σ7 H7 s7 → N σ7 H7 → ∃ m, m < n ∧ ∃ i σ' H', Inv X pins σ' H' s7 ∧ tn i s7.heap ∧ (∀ b ∈ fp, H' b = none) ∧ W i m σ' H' := fun {σ7 H7} I7 n7 => by
      obtain ⟨m', hm, w7⟩ := hN σ7 H7 n7
      refine ⟨m', hm, i + 1, σ7, H7, I7.unpinned, T.keep _ _ _ st5 fun b hb o e => (I7.pin (b, o) (List.mem_append_right _ (List.mem_append_right _ (mem_pinsAt hb e)))).1, fun b hb => ?_, w7⟩
      obtain ⟨o, e, d⟩ := T.obj _ _ st5 b hb
      exact (I7.pin (b, o) (List.mem_append_right _ (List.mem_append_right _ (mem_pinsAt hb e)))).2.1
    cases f with
    | next => obtain ⟨σ7, H7, I7, n7⟩ := q7; exact again I7 n7
    | cont => obtain ⟨σ7, H7, I7, n7⟩ := q7; exact again I7 n7
    | brk => obtain ⟨σ7, H7, I7, q7⟩ := q7; exact ⟨σ7, H7, I7.unpinned, q7⟩
    | ret v => obtain ⟨x7, σ7, H7, I7, r7, q7⟩ := q7; exact ⟨x7, σ7, H7, I7.unpinned, r7, q7⟩
end

/-- over a list that the body leaves as it is -/
theorem for_list {K : PySem.W.Frag} {a : Addr} {xs : List V} {g : TG} {tb : TS} {D : Ends} {σ : St} {H : Hp} (Pv : Nat → St → Hp → Prop) (h0 : Pv 0 σ H) (hl : ∀ i σ H, i ≤ xs.length → Pv i σ H → SqL K H a xs)
    (hs : ∀ i x σ H, xs[i]? = some x → Pv i σ H → g x σ H fun σ2 H2 => tb { D with nx := Pv (i + 1), ct := Pv (i + 1), bk := D.nx } σ2 H2) (hd : ∀ σ H, Pv xs.length σ H → D.nx σ H) :
    ∃ W : Nat → Nat → St → Hp → Prop, (∃ m, W 0 m σ H) ∧ ∀ i m σ H, W i m σ H →
      ((Itl K a).stop i H ∧ D.nx σ H) ∨ ((Itl K a).go i H ∧ ∃ N : St → Hp → Prop, (∀ σ' H', N σ' H' → ∃ m', m' < m ∧ W (i + 1) m' σ' H') ∧ ∀ x H', (Itl K a).yld i H x H' → g x σ H' fun σ2 H2 => tb { D with nx := N, ct := N, bk := D.nx } σ2 H2) := by
  refine ⟨fun i m σ H => m = xs.length - i ∧ i ≤ xs.length ∧ Pv i σ H, ⟨xs.length, by simp, Nat.zero_le _, h0⟩, ?_⟩
  rintro i m σ H ⟨rfl, hi, p⟩
  have q := hl i σ H hi p
  by_cases hlt : i < xs.length
  · refine .inr ⟨⟨xs, xs[i], q, by simp [hlt]⟩, Pv (i + 1), fun σ' H' p' => ⟨xs.length - (i + 1), by omega, rfl, hlt, p'⟩, fun x H' y => ?_⟩
    obtain ⟨e, y⟩ := y
    subst e
    exact hs i x σ _ (y xs q) p
  · have e : i = xs.length := by omega
    subst e
    exact .inl ⟨⟨xs, q, Nat.le_refl _⟩, hd σ H p⟩
theorem for_tup {K : PySem.W.Frag} {a : Addr} {xs : List V} {g : TG} {tb : TS} {D : Ends} {σ : St} {H : Hp} (Pv : Nat → St → Hp → Prop) (h0 : Pv 0 σ H) (hl : ∀ i σ H, i ≤ xs.length → Pv i σ H → SqT K H a xs)
    (hs : ∀ i x σ H, xs[i]? = some x → Pv i σ H → g x σ H fun σ2 H2 => tb { D with nx := Pv (i + 1), ct := Pv (i + 1), bk := D.nx } σ2 H2) (hd : ∀ σ H, Pv xs.length σ H → D.nx σ H) :
    ∃ W : Nat → Nat → St → Hp → Prop, (∃ m, W 0 m σ H) ∧ ∀ i m σ H, W i m σ H →
      ((Itt K a).stop i H ∧ D.nx σ H) ∨ ((Itt K a).go i H ∧ ∃ N : St → Hp → Prop, (∀ σ' H', N σ' H' → ∃ m', m' < m ∧ W (i + 1) m' σ' H') ∧ ∀ x H', (Itt K a).yld i H x H' → g x σ H' fun σ2 H2 => tb { D with nx := N, ct := N, bk := D.nx } σ2 H2) := by
  refine ⟨fun i m σ H => m = xs.length - i ∧ i ≤ xs.length ∧ Pv i σ H, ⟨xs.length, by simp, Nat.zero_le _, h0⟩, ?_⟩
  rintro i m σ H ⟨rfl, hi, p⟩
  have q := hl i σ H hi p
  by_cases hlt : i < xs.length
  · refine .inr ⟨⟨xs, xs[i], q, by simp [hlt]⟩, Pv (i + 1), fun σ' H' p' => ⟨xs.length - (i + 1), by omega, rfl, hlt, p'⟩, fun x H' y => ?_⟩
    obtain ⟨e, y⟩ := y
    subst e
    exact hs i x σ _ (y xs q) p
  · have e : i = xs.length := by omega
    subst e
    exact .inl ⟨⟨xs, q, Nat.le_refl _⟩, hd σ H p⟩
theorem for_range {lo : Int} {n : Nat} {g : TG} {tb : TS} {D : Ends} {σ : St} {H : Hp} (Pv : Nat → St → Hp → Prop) (h0 : Pv 0 σ H)
    (hs : ∀ i σ H, i < n → Pv i σ H → g (.int (lo + i)) σ H fun σ2 H2 => tb { D with nx := Pv (i + 1), ct := Pv (i + 1), bk := D.nx } σ2 H2) (hd : ∀ σ H, Pv n σ H → D.nx σ H) :
    ∃ W : Nat → Nat → St → Hp → Prop, (∃ m, W 0 m σ H) ∧ ∀ i m σ H, W i m σ H →
      ((Itr lo n).stop i H ∧ D.nx σ H) ∨ ((Itr lo n).go i H ∧ ∃ N : St → Hp → Prop, (∀ σ' H', N σ' H' → ∃ m', m' < m ∧ W (i + 1) m' σ' H') ∧ ∀ x H', (Itr lo n).yld i H x H' → g x σ H' fun σ2 H2 => tb { D with nx := N, ct := N, bk := D.nx } σ2 H2) := by
  refine ⟨fun i m σ H => m = n - i ∧ i ≤ n ∧ Pv i σ H, ⟨n, by simp, Nat.zero_le _, h0⟩, ?_⟩
  rintro i m σ H ⟨rfl, hi, p⟩
  by_cases hlt : i < n
  · refine .inr ⟨hlt, Pv (i + 1), fun σ' H' p' => ⟨n - (i + 1), by omega, rfl, hlt, p'⟩, fun x H' y => ?_⟩
    obtain ⟨e, y⟩ := y
    subst e y
    exact hs i σ _ hlt p
  · have e : i = n := by omega
    subst e
    exact .inl ⟨Nat.le_refl _, hd σ H p⟩
end L2

namespace L2
open PySem PySem.Spec PyProof.Rows

abbrev R2 := V → V → Hp → VK → Prop
/-- a two-place operation on values: f is binaryOp op, inplaceOp op or compareOp op -/
def OpR (X : Cx) (f : Value → Value → Sem Value) (r : R2) : Prop :=
  ∀ (pins : List (Addr × Obj)) (s : Shared) (σ : St) (H : Hp) (x y : V) (v u : Value) (Q : VK), Inv X pins σ H s → RelV x v → RelV y u → r x y H Q →
    wpAny (model X.prog X.w) X.A (f v u) (EP X pins σ Q) X.xe s
/-- a one-place operation -/
def UnR (X : Cx) (f : Value → Sem Value) (r : V → Hp → VK → Prop) : Prop :=
  ∀ (pins : List (Addr × Obj)) (s : Shared) (σ : St) (H : Hp) (x : V) (v : Value) (Q : VK), Inv X pins σ H s → RelV x v → r x H Q →
    wpAny (model X.prog X.w) X.A (f v) (EP X pins σ Q) X.xe s
/-- a call of a value that is known (a builtin, a type) with values -/
def CallR (X : Cx) (f : Value) (r : List V → Hp → VK → Prop) : Prop :=
  ∀ (pins : List (Addr × Obj)) (s : Shared) (σ : St) (H : Hp) (xs : List V) (us : List Value) (Q : VK), Inv X pins σ H s → Vals xs us → r xs H Q →
    wpAny (model X.prog X.w) X.A (call f us) (EP X pins σ Q) X.xe s
def tOp (r : R2) (ta tb : TE) : TE := fun σ H Q => ta σ H fun x H1 => tb σ H1 fun y H2 => r x y H2 Q
def tUn (r : V → Hp → VK → Prop) (ta : TE) : TE := fun σ H Q => ta σ H fun x H1 => r x H1 Q
/-- ints in, under C, and a value out -/
def rI (C : Int → Int → Prop) (g : Int → Int → V) : R2 := fun x y H Q => ∃ i j, x = .int i ∧ y = .int j ∧ C i j ∧ Q (g i j) H
def rI0 (g : Int → Int → V) : R2 := fun x y H Q => ∃ i j, x = .int i ∧ y = .int j ∧ Q (g i j) H
def rU (g : Int → V) : V → Hp → VK → Prop := fun x H Q => ∃ i, x = .int i ∧ Q (g i) H

section
variable {X : Cx} {a b c : Expr} {ta tb tc : TE} {pos : Pos}

theorem binT (ha : PE X a ta) (hb : PE X b tb) {pins : List (Addr × Obj)} {s : Shared} {σ : St} {H : Hp} {R : V → V → Hp → Prop} (I : Inv X pins σ H s)
    (h : ta σ H fun x H1 => tb σ H1 fun y H2 => R x y H2) {Q : Value → Shared → Prop} {f : Value → Value → Sem Value}
    (hf : ∀ v u s2 x y H2, Inv X pins σ H2 s2 → RelV x v → RelV y u → R x y H2 → wpAny (model X.prog X.w) X.A (f v u) Q X.xe s2) :
    wpAny (model X.prog X.w) X.A (eval a X.env) (fun v s₁ => wpAny (model X.prog X.w) X.A (eval b X.env) (fun u s₂ => wpAny (model X.prog X.w) X.A (f v u) Q X.xe s₂) X.xe s₁) X.xe s := by
  refine thn (ha pins s σ H _ I h) fun v s1 ⟨x, H1, I1, r1, q1⟩ => ?_
  refine thn (hb pins s1 σ H1 _ I1 q1) fun u s2 ⟨y, H2, I2, r2, q2⟩ => ?_
  exact hf v u s2 x y H2 I2 r1 r2 q2

theorem pe_op {op : Operator} {r : R2} (ho : OpR X (binaryOp op) r) (ha : PE X a ta) (hb : PE X b tb) : PE X (.BinOp a op b pos) (tOp r ta tb) := by
  intro pins s σ H Q I h
  exact wpAny_BinOp (binT ha hb I h fun v u s2 x y H2 I2 rx ry q => ho pins s2 σ H2 x y v u Q I2 rx ry q)
theorem pe_un {op : UnaryOp} {r : V → Hp → VK → Prop} (ho : UnR X (unaryOp op) r) (ha : PE X a ta) : PE X (.UnaryOp op a pos) (tUn r ta) := by
  intro pins s σ H Q I h
  exact UnaryOp_ (thn (ha pins s σ H _ I h) fun v s1 ⟨x, H1, I1, r1, q1⟩ => ho pins s1 σ H1 x v Q I1 r1 q1)
theorem opI {f : Value → Value → Sem Value} {C : Int → Int → Prop} {g : Int → Int → Int}
    (rule : ∀ (i j : Int) (t u : Tok) (s : Shared) (Q : Value → Shared → Prop) (E : Value → Shared → Prop), C i j → Q (.int (g i j) s.toks) { s with toks := s.toks + 1 } → wpAny (model X.prog X.w) X.A (f (.int i t) (.int j u)) Q E s) :
    OpR X f (rI C fun i j => .int (g i j)) := by
  intro pins s σ H x y v u Q I rx ry h
  obtain ⟨i, j, rfl, rfl, hc, q⟩ := h
  obtain ⟨t, rfl⟩ := rx
  obtain ⟨t', rfl⟩ := ry
  exact rule i j t t' s _ _ hc ⟨.int (g i j), H, I.tok _, ⟨_, rfl⟩, q⟩
theorem opI0 {f : Value → Value → Sem Value} {g : Int → Int → Int}
    (rule : ∀ (i j : Int) (t u : Tok) (s : Shared) (Q : Value → Shared → Prop) (E : Value → Shared → Prop), Q (.int (g i j) s.toks) { s with toks := s.toks + 1 } → wpAny (model X.prog X.w) X.A (f (.int i t) (.int j u)) Q E s) :
    OpR X f (rI0 fun i j => .int (g i j)) := by
  intro pins s σ H x y v u Q I rx ry h
  obtain ⟨i, j, rfl, rfl, q⟩ := h
  obtain ⟨t, rfl⟩ := rx
  obtain ⟨t', rfl⟩ := ry
  exact rule i j t t' s _ _ ⟨.int (g i j), H, I.tok _, ⟨_, rfl⟩, q⟩
theorem opB0 {f : Value → Value → Sem Value} {g : Int → Int → Bool}
    (rule : ∀ (i j : Int) (t u : Tok) (s : Shared) (Q : Value → Shared → Prop) (E : Value → Shared → Prop), Q (.bool (g i j)) s → wpAny (model X.prog X.w) X.A (f (.int i t) (.int j u)) Q E s) :
    OpR X f (rI0 fun i j => .bl (g i j)) := by
  intro pins s σ H x y v u Q I rx ry h
  obtain ⟨i, j, rfl, rfl, q⟩ := h
  obtain ⟨t, rfl⟩ := rx
  obtain ⟨t', rfl⟩ := ry
  exact rule i j t t' s _ _ ⟨.bl (g i j), H, I, rfl, q⟩

def CPow (i j : Int) : Prop := 0 ≤ j ∧ j ≤ 1000000 ∧ i.natAbs < 2 ^ 64
theorem op_add : OpR X (binaryOp .Add) (rI0 fun i j => .int (i + j)) := opI0 fun _ _ _ _ _ _ _ q => add_int q
theorem op_sub : OpR X (binaryOp .Sub) (rI0 fun i j => .int (i - j)) := opI0 fun _ _ _ _ _ _ _ q => sub_int q
theorem op_modN : OpR X (binaryOp .Mod) (rI (fun _ j => j ≠ 0) fun i j => .int (i.fmod j)) := opI fun _ _ _ _ _ _ _ hc q => mod_int' hc q
theorem op_pow : OpR X (binaryOp .Pow) (rI CPow fun i j => .int (i ^ j.toNat)) := opI fun _ _ _ _ _ _ _ hc q => pow_int_small hc.1 hc.2.1 hc.2.2 q
theorem unI {f : Value → Sem Value} {g : Int → Int}
    (rule : ∀ (i : Int) (t : Tok) (s : Shared) (Q : Value → Shared → Prop) (E : Value → Shared → Prop), Q (.int (g i) s.toks) { s with toks := s.toks + 1 } → wpAny (model X.prog X.w) X.A (f (.int i t)) Q E s) :
    UnR X f (rU fun i => .int (g i)) := by
  intro pins s σ H x v Q I rx h
  obtain ⟨i, rfl, q⟩ := h
  obtain ⟨t, rfl⟩ := rx
  exact rule i t s _ _ ⟨.int (g i), H, I.tok _, ⟨_, rfl⟩, q⟩
theorem un_neg : UnR X (unaryOp .USub) (rU fun i => .int (-i)) := unI fun _ _ _ _ _ q => neg_int q
end

/-- the scalars that == tells apart as data does -/
def scal : V → V → Bool
  | .non, .non => true | .non, .int _ => true | .int _, .non => true | .non, .bl _ => true | .bl _, .non => true | .non, .str _ => true | .str _, .non => true
  | .int _, .int _ => true | .bl _, .bl _ => true | .str _, .str _ => true | .byt _, .byt _ => true
  | .int _, .str _ => true | .str _, .int _ => true | .bl _, .str _ => true | .str _, .bl _ => true
  | _, _ => false
def rEq : R2 := fun x y H Q => scal x y = true ∧ Q (.bl (decide (x = y))) H
def rNe : R2 := fun x y H Q => scal x y = true ∧ Q (.bl (!decide (x = y))) H

theorem dec_int {i j : Int} : decide (V.int i = V.int j) = (i == j) := by
  rw [Bool.eq_iff_iff]
  simp
theorem dec_bl {i j : Bool} : decide (V.bl i = V.bl j) = (i == j) := by
  rw [Bool.eq_iff_iff]
  simp
theorem dec_str {i j : Str} : decide (V.str i = V.str j) = (i == j) := by
  rw [Bool.eq_iff_iff]
  simp
theorem dec_byt {i j : Array UInt8} : decide (V.byt i = V.byt j) = (i.toList == j.toList) := by
  rw [Bool.eq_iff_iff]
  cases i
  cases j
  simp

section
variable {X : Cx} {a b c : Expr} {ta tb tc : TE} {pos : Pos}
theorem fin_bl {pins : List (Addr × Obj)} {σ : St} {H : Hp} {s : Shared} {Q : VK} {k k' : Bool} (I : Inv X pins σ H s) (q : Q (.bl k) H) (e : k = k') : EP X pins σ Q (.bool k') s := by
  subst e
  exact ⟨.bl k, H, I, rfl, q⟩
theorem op_eq : OpR X (compareOp .Eq) rEq := by
  intro pins s σ H x y v u Q I rx ry h
  obtain ⟨hs, q⟩ := h
  cases x with
  | non =>
    cases rx
    cases y with
    | non => cases ry; exact PySem.EqNone.eq_none_none (fin_bl I q (by simp))
    | bl j => cases ry; exact PySem.EqNone.eq_none_bool (fin_bl I q (by simp))
    | int j => obtain ⟨t', rfl⟩ := ry; exact PySem.EqNone.eq_none_int (fin_bl I q (by simp))
    | str j => obtain ⟨t', rfl⟩ := ry; exact PySem.EqNone.eq_none_str (fin_bl I q (by simp))
    | _ => exact absurd (show false = true from hs) Bool.false_ne_true
  | bl i =>
    cases rx
    cases y with
    | non => cases ry; exact PySem.EqNone.eq_bool_none (fin_bl I q (by simp))
    | bl j => cases ry; exact eq_bool (fin_bl I q dec_bl)
    | str j => obtain ⟨t', rfl⟩ := ry; exact PySem.EqMixed.eq_bool_str (fin_bl I q (by simp))
    | _ => exact absurd (show false = true from hs) Bool.false_ne_true
  | int i =>
    obtain ⟨t, rfl⟩ := rx
    cases y with
    | non => cases ry; exact PySem.EqNone.eq_int_none (fin_bl I q (by simp))
    | int j => obtain ⟨t', rfl⟩ := ry; exact eq_int (fin_bl I q dec_int)
    | str j => obtain ⟨t', rfl⟩ := ry; exact PySem.EqMixed.eq_int_str (fin_bl I q (by simp))
    | _ => exact absurd (show false = true from hs) Bool.false_ne_true
  | str i =>
    obtain ⟨t, rfl⟩ := rx
    cases y with
    | non => cases ry; exact PySem.EqNone.eq_str_none (fin_bl I q (by simp))
    | bl j => cases ry; exact PySem.EqMixed.eq_str_bool (fin_bl I q (by simp))
    | int j => obtain ⟨t', rfl⟩ := ry; exact PySem.EqMixed.eq_str_int (fin_bl I q (by simp))
    | str j => obtain ⟨t', rfl⟩ := ry; exact eq_str (fin_bl I q dec_str)
    | _ => exact absurd (show false = true from hs) Bool.false_ne_true
  | byt i =>
    obtain ⟨t, rfl⟩ := rx
    cases y with
    | byt j => obtain ⟨t', rfl⟩ := ry; exact PySem.W.eq_bytes (fin_bl I q dec_byt)
    | _ => exact absurd (show false = true from hs) Bool.false_ne_true
  | _ => cases y <;> exact absurd (show false = true from hs) Bool.false_ne_true
theorem op_ne : OpR X (compareOp .NotEq) rNe := by
  intro pins s σ H x y v u Q I rx ry h
  obtain ⟨hs, q⟩ := h
  cases x with
  | non =>
    cases rx
    cases y with
    | non => cases ry; exact PySem.EqNone.ne_none_none (fin_bl I q (by simp))
    | bl j => cases ry; exact PySem.EqNone.ne_none_bool (fin_bl I q (by simp))
    | int j => obtain ⟨t', rfl⟩ := ry; exact PySem.EqNone.ne_none_int (fin_bl I q (by simp))
    | str j => obtain ⟨t', rfl⟩ := ry; exact PySem.EqNone.ne_none_str (fin_bl I q (by simp))
    | _ => exact absurd (show false = true from hs) Bool.false_ne_true
  | bl i =>
    cases rx
    cases y with
    | non => cases ry; exact PySem.EqNone.ne_bool_none (fin_bl I q (by simp))
    | bl j => cases ry; exact ne_bool (fin_bl I q (congrArg not dec_bl))
    | str j => obtain ⟨t', rfl⟩ := ry; exact PySem.EqMixed.ne_bool_str (fin_bl I q (by simp))
    | _ => exact absurd (show false = true from hs) Bool.false_ne_true
  | int i =>
    obtain ⟨t, rfl⟩ := rx
    cases y with
    | non => cases ry; exact PySem.EqNone.ne_int_none (fin_bl I q (by simp))
    | int j => obtain ⟨t', rfl⟩ := ry; exact ne_int (fin_bl I q (congrArg not dec_int))
    | str j => obtain ⟨t', rfl⟩ := ry; exact PySem.EqMixed.ne_int_str (fin_bl I q (by simp))
    | _ => exact absurd (show false = true from hs) Bool.false_ne_true
  | str i =>
    obtain ⟨t, rfl⟩ := rx
    cases y with
    | non => cases ry; exact PySem.EqNone.ne_str_none (fin_bl I q (by simp))
    | bl j => cases ry; exact PySem.EqMixed.ne_str_bool (fin_bl I q (by simp))
    | int j => obtain ⟨t', rfl⟩ := ry; exact PySem.EqMixed.ne_str_int (fin_bl I q (by simp))
    | str j => obtain ⟨t', rfl⟩ := ry; exact ne_str (fin_bl I q (congrArg not dec_str))
    | _ => exact absurd (show false = true from hs) Bool.false_ne_true
  | byt i =>
    obtain ⟨t, rfl⟩ := rx
    cases y with
    | byt j => obtain ⟨t', rfl⟩ := ry; exact PySem.W.ne_bytes (fin_bl I q (congrArg not dec_byt))
    | _ => exact absurd (show false = true from hs) Bool.false_ne_true
  | _ => cases y <;> exact absurd (show false = true from hs) Bool.false_ne_true

theorem op_lt : OpR X (compareOp .Lt) (rI0 fun i j => .bl (decide (i < j))) := opB0 fun _ _ _ _ _ _ _ q => lt_int q
theorem op_gt : OpR X (compareOp .Gt) (rI0 fun i j => .bl (decide (j < i))) := opB0 fun _ _ _ _ _ _ _ q => gt_int q
theorem op_ge : OpR X (compareOp .GtE) (rI0 fun i j => .bl (decide (j ≤ i))) := opB0 fun _ _ _ _ _ _ _ q => ge_int q
/-- the one string within the other -/
theorem op_in_str : OpR X (compareOp .In) (fun x y H Q => ∃ i j, x = .str i ∧ y = .str j ∧ Q (.bl (!(Builtin.Str.occurrences j i 0 j.length 1).isEmpty)) H) := by
  intro pins s σ H x y v u Q I rx ry h
  obtain ⟨i, j, rfl, rfl, q⟩ := h
  obtain ⟨t, rfl⟩ := rx
  obtain ⟨t', rfl⟩ := ry
  exact in_str (fin_bl I q rfl)

/-- is None, is not None: the right side a value none -/
theorem op_isN : OpR X (compareOp .Is) (fun x y H Q => y = .non ∧ Q (.bl (decide (x = .non))) H) := by
  intro pins s σ H x y v u Q I rx ry h
  obtain ⟨rfl, q⟩ := h
  cases ry
  refine is_none_gen (fin_bl I q ?_)
  cases x <;> first
    | (cases rx; rfl)
    | (obtain ⟨t, rfl⟩ := rx; rfl)
theorem op_notN : OpR X (compareOp .IsNot) (fun x y H Q => y = .non ∧ Q (.bl (!decide (x = .non))) H) := by
  intro pins s σ H x y v u Q I rx ry h
  obtain ⟨rfl, q⟩ := h
  cases ry
  refine isnot_none_gen (fin_bl I q ?_)
  cases x <;> first
    | (cases rx; rfl)
    | (obtain ⟨t, rfl⟩ := rx; rfl)

theorem nomark (b : Expr) {op : CmpOp} (h : op ≠ .In := by decide) (h2 : op ≠ .NotIn := by decide) : behindInMarks op b = false := by
  have e1 : (op == CmpOp.In) = false := by cases op <;> first | rfl | exact absurd rfl h
  have e2 : (op == CmpOp.NotIn) = false := by cases op <;> first | rfl | exact absurd rfl h2
  cases b <;> simp [behindInMarks, e1, e2]
/-- a comparison as a value; hm: nomark b, or (for in, not in) by with_unfolding_all rfl -/
theorem pe_cmpR {op : CmpOp} {r : R2} (ho : OpR X (compareOp op) r) (ha : PE X a ta) (hb : PE X b tb) (hm : behindInMarks op b = false) : PE X (.Compare a [op] [b] pos) (tOp r ta tb) := by
  intro pins s σ H Q I h
  exact wpAny_Compare1 (binT ha hb I h fun v u s2 x y H2 I2 rx ry q => ho pins s2 σ H2 x y v u Q I2 rx ry q) hm
/-- a reading of a value as a test -/
def tTest (t : TE) : TT := fun σ H Q => t σ H fun x H' => ∃ k, x = .bl k ∧ Q k H'
theorem pt_cmpR {op : CmpOp} {r : R2} (ho : OpR X (compareOp op) r) (ha : PE X a ta) (hb : PE X b tb) (hm : behindInMarks op b = false) : PT X (.Compare a [op] [b] pos) (tTest (tOp r ta tb)) := by
  intro pins s σ H Q I h
  refine wpAny_isTrue_Compare1 (thn (ha pins s σ H _ I h) fun v s1 ⟨x, H1, I1, r1, q1⟩ => thn (hb pins s1 σ H1 _ I1 q1) fun u s2 ⟨y, H2, I2, r2, q2⟩ =>
    thn (ho pins s2 σ H2 x y v u _ I2 r1 r2 q2) fun c s3 ⟨z, H3, I3, r3, k, e, q3⟩ => ?_) hm
  subst e
  cases r3
  exact wpAny_truthy_bool ⟨H3, I3, q3⟩
/-- a op1 b op2 c -/
def tChain (r r' : R2) (ta tb tc : TE) : TE := fun σ H Q => ta σ H fun x H1 => tb σ H1 fun y H2 => r x y H2 fun z H3 => ∃ k, z = .bl k ∧
  (if k = true then tc σ H3 fun w' H4 => r' y w' H4 Q else Q (.bl false) H3)
theorem line63 : (sizeLine : Nat) < 2 ^ 63 := by rw [sizeLine_eq]; decide
theorem op_add_str : OpR X (binaryOp .Add) (fun x y H Q => ∃ i j, x = .str i ∧ y = .str j ∧ i.length + j.length ≤ sizeLine ∧ Q (.str (i ++ j)) H) := by
  intro pins s σ H x y v u Q I rx ry h
  obtain ⟨i, j, rfl, rfl, hz, q⟩ := h
  obtain ⟨t, rfl⟩ := rx
  obtain ⟨t', rfl⟩ := ry
  exact add_str (fun t' tk => ⟨.str (i ++ j), H, I.tok _, ⟨_, rfl⟩, q⟩) hz
theorem vals1 {x : V} {us : List Value} (r : Vals [x] us) : ∃ u, us = [u] ∧ RelV x u := by
  cases r with
  | cons r1 r2 => cases r2; exact ⟨_, rfl, r1⟩
theorem vals2 {x y : V} {us : List Value} (r : Vals [x, y] us) : ∃ u w', us = [u, w'] ∧ RelV x u ∧ RelV y w' := by
  cases r with
  | cons r1 r2 =>
    cases r2 with
    | cons r3 r4 => cases r4; exact ⟨_, _, rfl, r1, r3⟩
theorem call_abs : CallR X (.builtin "abs") (fun xs H Q => ∃ i, xs = [.int i] ∧ Q (.int (if i < 0 then -i else i)) H) := by
  intro pins s σ H xs us Q I r h
  obtain ⟨i, rfl, q⟩ := h
  obtain ⟨u, rfl, t, rfl⟩ := vals1 r
  exact call_abs_int fun u tk => ⟨.int (if i < 0 then -i else i), H, I.tok _, ⟨_, rfl⟩, q⟩
theorem call_int1 : CallR X (.type "int") (fun xs H Q => (∃ i, xs = [.int i] ∧ Q (.int i) H) ∨ ∃ k, xs = [.bl k] ∧ Q (.int (if k then 1 else 0)) H) := by
  intro pins s σ H xs us Q I r h
  rcases h with ⟨i, rfl, q⟩ | ⟨k, rfl, q⟩
  · obtain ⟨u, rfl, t, rfl⟩ := vals1 r
    exact call_int_int ⟨.int i, H, I, ⟨_, rfl⟩, q⟩
  · obtain ⟨u, rfl, r1⟩ := vals1 r
    cases r1
    exact call_int_bool ⟨.int (if k then 1 else 0), H, I.tok _, ⟨_, rfl⟩, q⟩
end
end L2

namespace L2
open PySem PySem.Spec PyProof.Rows

structure ObjM (h : Heap) (x dx C : Addr) (mA : Str → Option Value) : Prop where
  obj : h.get? x = some (PySem.W.instObj C dx)
  ns : h.Ns1 dx mA
  ne : dx ≠ x

theorem lookIn_ns {h : Heap} {dx : Addr} {mA : Str → Option Value} (n : h.Ns1 dx mA) : ∃ od, h.get? dx = some od ∧ ∀ name, PySem.W.lookIn name od = some (mA name) := by
  obtain ⟨o, es, ep, ho, hd, hk, _, hm⟩ := n
  refine ⟨o, ho, fun name => ?_⟩
  have e := hm name
  unfold nsFind findBy at e
  rw [← Array.find?_toList] at e
  unfold PySem.W.lookIn
  rw [hd]
  dsimp only
  split
  · rename_i y q
    rw [q] at e
    exact congrArg some e
  · rename_i q
    rw [q] at e
    have a : es.toList.any (·.refKey) = false := by
      rw [List.any_eq_false]
      intro y hy
      obtain ⟨z, t, hkey⟩ := hk y (Array.mem_toList_iff.mp hy)
      simp [DictEntry.refKey, hkey]
    have a' : ¬ es.toList.any (·.refKey) = true := by rw [a]; exact Bool.false_ne_true
    rw [if_neg a']
    exact congrArg some e

theorem ObjM.look {h : Heap} {x dx C : Addr} {mA : Str → Option Value} (I : ObjM h x dx C mA) : ∃ od, PySem.W.InstAt h x (PySem.W.instObj C dx) C (some od) ∧ ∀ name, PySem.W.lookIn name od = some (mA name) :=
  let ⟨od, ho, hl⟩ := lookIn_ns I.ns
  ⟨od, ⟨I.obj, rfl, rfl, ho⟩, hl⟩

section
variable {prog : Program} {w : World} {A : Around} {E : Value → Shared → Prop} {s : Shared} {K : PySem.W.Frag} {x dx C f : Addr} {mA : Str → Option Value} {name : Str} {v : Value}

theorem get_map {expr : Bool} {Q : Value → Shared → Prop} (X : K.In s.heap) (I : ObjM s.heap x dx C mA) (hg : PySem.W.plainGet K C name = true) (hh : PySem.W.hasDictIn K C = true)
    (ha : PySem.W.findIn K (.ref C) name = some none) (hv : mA name = some v) (hv' : PySem.W.handedIn v = true) (h : Q v { s with toks := s.toks + 1 }) :
    wpAny (model prog w) A (getAttr (.ref x) name expr) Q E s := by
  obtain ⟨od, J, hl⟩ := I.look
  exact PySem.W.get_value X J (PySem.W.plainGet_of hg).1 (PySem.W.findObj_own hh ha rfl (by rw [hl, hv])) hv' h

theorem get_meth {pl : Sem Bool} {Q : Value × List Value → Shared → Prop} (X : K.In s.heap) (I : ObjM s.heap x dx C mA) (hg : PySem.W.plainGet K C name = true)
    (hf : PySem.W.findIn K (.ref C) name = some (some (.ref f))) (ht : PySem.W.isFn K (.ref f) = true) (hv : mA name = none) (h : Q (.ref f, [.ref x]) s) :
    wpAny (model prog w) A (getMethod (.ref x) name pl) Q E s := by
  obtain ⟨od, J, hl⟩ := I.look
  exact PySem.W.method_fn X J (PySem.W.plainGet_of hg).1 (PySem.W.plainGet_of hg).2 hf (beq_iff_eq.mp ht) (by show (PySem.W.lookIn name od).map (·.isSome) = some false; rw [hl, hv]; rfl) h

theorem set_map {ns : List Str} {Q : Unit → Shared → Prop} (X : K.In s.heap) (I : ObjM s.heap x dx C mA)
    (hs : PySem.W.findIn K (.ref C) "__setattr__" = some (some (.builtin "object.__setattr__"))) (hp : PySem.W.plainOver K C = true) (ht : PySem.W.takerIn K C name = some none) (hh : PySem.W.hasDictIn K C = true)
    (hw : PySem.Within mA ns) (hsz : ns.length ≤ sizeLine)
    (h : ∀ h', ObjM h' x dx C (fun y => if y = name then some v else mA y) → Heap.SameBut dx s.heap h' → Q () { s with heap := h', toks := s.toks + 2 }) :
    wpAny (model prog w) A (setAttr (.ref x) name v) Q E s := by
  obtain ⟨od, J, hl⟩ := I.look
  refine PySem.W.set_plain X J hs (PySem.W.osa_open (s := { s with toks := s.toks + 1 }) (r := none) X J hp ht fun b => ?_)
  obtain ⟨cd, hc, hd'⟩ := PySem.W.any_some hh
  have hx : s.heap.get? x = some ⟨.ref C, some dx, .plain, #[]⟩ := I.obj
  refine wpAny_bind (wpAny_pure (wpAny_bind (wpAny_bind (wpAny_loadPart hx (wpAny_bind (PySem.W.Looks.here (s := { s with toks := s.toks + 1 }) (PySem.W.looks_clsIn X hc) ?_))))))
  rw [hd']
  refine wpAny_pure (a := some dx) (wpAny_bind (wpAny_pure (wpAny_bind ?_)))
  refine wpAny_nsSet1 (s := { s with toks := s.toks + 1 }) I.ns fun h' hn2 hs2 => ?_
  obtain ⟨oD, esD, epD, hoD, hdD, hcD⟩ := hn2.count (PySem.Within.cons name v hw)
  refine wpAny_bind (wpAny_lookBehind hoD (by rw [hdD]; exact pastItsLine_dict (Nat.le_trans hcD (by rw [List.length_cons]; omega))) ?_)
  exact wpAny_pure (h _ ⟨(hs2.2 _ (Ne.symm I.ne)).trans I.obj, hn2, I.ne⟩ hs2)

/-- C(..): the dict at the heap's end, the instance behind it; then its __init__ -/
theorem make_map {R : Result → Shared → Prop} {vs : List Value} {kw : List (Str × Value)} (X : K.In s.heap) (hm : PySem.W.makesIn K C = true)
    (hi : PySem.W.findIn K (.ref C) "__init__" = some (some (.ref f))) (hf : PySem.W.typeIn K (.ref f) = some (.type "function"))
    (h : codeAny (model prog w) (A.under (.builtin "type.__call__" ⟨.ref C :: vs, kw⟩)) (.call (.ref f) ⟨.ref (s.heap.objs.size + 1) :: vs, kw⟩) (PySem.W.InitBack (s.heap.objs.size + 1) R)
      { s with heap := (s.heap.push PySem.W.emptyDict).push (PySem.W.instObj C s.heap.objs.size) }) :
    codeAny (model prog w) A (.call (.ref C) ⟨vs, kw⟩) R s := by
  obtain ⟨hh, g, d, t, os⟩ := s
  exact PySem.W.make_core (PySem.W.makes_of X hm) (PySem.W.looks_findIn X hi) (fun self => PySem.W.bind_fn X self hf) (.inl rfl) h
end

def putF (f : Str) (v : V) : List (Str × V) → List (Str × V)
  | [] => [(f, v)]
  | (g, x) :: r => if g = f then (g, v) :: r else (g, x) :: putF f v r
theorem lookup_putF (f g : Str) (v : V) : ∀ fs : List (Str × V), (putF f v fs).lookup g = if g = f then some v else fs.lookup g
  | [] => by
    show List.lookup g [(f, v)] = _
    by_cases h : g = f
    · have hb : (g == f) = true := beq_iff_eq.mpr h
      simp only [List.lookup, hb, if_pos h]
    · have hb : (g == f) = false := beq_eq_false_iff_ne.mpr h
      simp only [List.lookup, hb, if_neg h]
  | (k, x) :: r => by
    have ih := lookup_putF f g v r
    rw [show putF f v ((k, x) :: r) = (if k = f then (k, v) :: r else (k, x) :: putF f v r) from rfl]
    by_cases hk : k = f
    · rw [if_pos hk]
      by_cases h : g = k
      · have hb : (g == k) = true := beq_iff_eq.mpr h
        simp only [List.lookup, hb, if_pos (h.trans hk)]
      · have hb : (g == k) = false := beq_eq_false_iff_ne.mpr h
        simp only [List.lookup, hb, if_neg (fun e : g = f => h (e.trans hk.symm))]
    · rw [if_neg hk]
      by_cases h : g = k
      · have hb : (g == k) = true := beq_iff_eq.mpr h
        simp only [List.lookup, hb, if_neg (fun e : g = f => hk (h.symm.trans e))]
      · have hb : (g == k) = false := beq_eq_false_iff_ne.mpr h
        simp only [List.lookup, hb]
        exact ih
theorem keys_putF (f : Str) (v : V) : ∀ fs : List (Str × V), f ∈ (putF f v fs).map (·.1) ∧ ∀ g, g ∈ fs.map (·.1) → g ∈ (putF f v fs).map (·.1)
  | [] => ⟨by simp [putF], fun g h => by simp at h⟩
  | (k, x) :: r => by
    obtain ⟨i1, i2⟩ := keys_putF f v r
    rw [show putF f v ((k, x) :: r) = (if k = f then (k, v) :: r else (k, x) :: putF f v r) from rfl]
    by_cases hk : k = f
    · rw [if_pos hk]
      subst hk
      exact ⟨by simp, fun g h => by simpa using h⟩
    · rw [if_neg hk]
      refine ⟨?_, fun g h => ?_⟩
      · rw [List.map_cons]
        exact List.mem_cons_of_mem _ i1
      · rw [List.map_cons] at h ⊢
        rcases List.mem_cons.mp h with e | e
        · exact List.mem_cons.mpr (.inl e)
        · exact List.mem_cons_of_mem _ (i2 g e)
theorem length_putF (f : Str) (v : V) : ∀ fs : List (Str × V), (putF f v fs).length ≤ fs.length + 1
  | [] => by simp [putF]
  | (k, x) :: r => by
    have ih := length_putF f v r
    rw [show putF f v ((k, x) :: r) = (if k = f then (k, v) :: r else (k, x) :: putF f v r) from rfl]
    by_cases hk : k = f
    · rw [if_pos hk, List.length_cons, List.length_cons]; omega
    · rw [if_neg hk, List.length_cons, List.length_cons]; omega

theorem RelO.some_of {v : V} {o : Option Value} (r : RelO (some v) o) : ∃ u, o = some u ∧ RelV v u := by
  cases o with
  | none => exact (show False from r).elim
  | some u => exact ⟨u, rfl, r⟩
theorem RelO.none_of {o : Option Value} (r : RelO none o) : o = none := by
  cases o with
  | none => rfl
  | some u => exact (show False from r).elim
theorem handed_of {v : V} {u : Value} (r : RelV v u) : PySem.W.handedIn u = true := by
  cases v with
  | non => cases (show u = Value.none from r); rfl
  | bl b => cases (show u = Value.bool b from r); rfl
  | int i => obtain ⟨t, e⟩ := (show ∃ t, u = Value.int i t from r); cases e; rfl
  | str x => obtain ⟨t, e⟩ := (show ∃ t, u = Value.str x t from r); cases e; rfl
  | byt b => obtain ⟨t, e⟩ := (show ∃ t, u = Value.bytes b t from r); cases e; rfl
  | flt b => obtain ⟨t, e⟩ := (show ∃ t, u = Value.float b t from r); cases e; rfl
  | ref a => cases (show u = Value.ref a from r); rfl
  | ty n => cases (show u = Value.type n from r); rfl

section
variable {P : Program} {w : World} {H H' : Hp} {h h' : Heap} {a C dx : Addr} {fs fs' : List (Str × V)}
theorem ins_get (hok : HOk P w H h) (e : H a = some (.ins C dx fs)) : ∃ mA, ObjM h a dx C mA ∧ (∀ f, RelO (fs.lookup f) (mA f)) ∧ PySem.Within mA (fs.map (·.1)) ∧ fs.length ≤ 1000 ∧ H dx = some (.own a) := by
  obtain ⟨d, z, ne, ob, mA, n, r, q⟩ := (show ObjOk P w H h a (.ins C dx fs) from hok a _ e)
  exact ⟨mA, ⟨ob, n, ne⟩, r, q, z, d⟩
end

structure Cls (K : PySem.W.Frag) (C : Addr) : Prop where
  pg : PySem.W.plainGet K C Str.empty = true
  hd : PySem.W.hasDictIn K C = true
  po : PySem.W.plainOver K C = true
  sa : PySem.W.findIn K (.ref C) "__setattr__" = some (some (.builtin "object.__setattr__"))
theorem Cls.get {K : PySem.W.Frag} {C : Addr} (c : Cls K C) (f : Str) : PySem.W.plainGet K C f = true := c.pg
/-- no class of it has the name -/
def NoAttr (K : PySem.W.Frag) (C : Addr) (f : Str) : Prop := PySem.W.findIn K (.ref C) f = some none
theorem NoAttr.taker {K : PySem.W.Frag} {C : Addr} {f : Str} (n : NoAttr K C f) : PySem.W.takerIn K C f = some none := by
  unfold PySem.W.takerIn
  rw [show PySem.W.findIn K (.ref C) f = some none from n]
  rfl
/-- a method: a plain def of the class or of one above it -/
structure Meth (K : PySem.W.Frag) (C : Addr) (m : Str) (f : Addr) : Prop where
  at_ : PySem.W.findIn K (.ref C) m = some (some (.ref f))
  fn : PySem.W.isFn K (.ref f) = true
  kp : PySem.W.keepIn K (.ref f) = true

section
variable {X : Cx} {pins : List (Addr × Obj)} {σ : St} {H : Hp} {s : Shared} {a C dx : Addr} {fs : List (Str × V)} {f : Str} {v : V} {A : Around} {E : Value → Shared → Prop}

theorem getattr_ok {b : Bool} {Q : Value → Shared → Prop} (I : Inv X pins σ H s) (e : H a = some (.ins C dx fs)) (c : Cls X.K C) (n : NoAttr X.K C f) (l : fs.lookup f = some v)
    (h : ∀ u s', Inv X pins σ H s' → RelV v u → Q u s') : wpAny (model X.prog X.w) A (getAttr (.ref a) f b) Q E s := by
  obtain ⟨mA, O, r, _, _, _⟩ := ins_get I.hok e
  obtain ⟨u, hu, ru⟩ := RelO.some_of (v := v) (o := mA f) (by rw [← l]; exact r f)
  exact get_map I.kIn O (c.get f) c.hd n hu (handed_of ru) (h u _ (I.tok _) ru)

theorem getmeth_ok {m : Str} {g : Addr} {pl : Sem Bool} {Q : Value × List Value → Shared → Prop} (I : Inv X pins σ H s) (e : H a = some (.ins C dx fs)) (c : Cls X.K C) (k : Meth X.K C m g) (l : fs.lookup m = none)
    (h : Q (.ref g, [.ref a]) s) : wpAny (model X.prog X.w) A (getMethod (.ref a) m pl) Q E s := by
  obtain ⟨mA, O, r, _, _, _⟩ := ins_get I.hok e
  have hn : mA m = none := RelO.none_of (by rw [← l]; exact r m)
  exact get_meth I.kIn O (c.get m) k.at_ k.fn hn h

theorem setattr_ok {y : V} {u : Value} {Q : Unit → Shared → Prop} (I : Inv X pins σ H s) (e : H a = some (.ins C dx fs)) (c : Cls X.K C) (n : NoAttr X.K C f) (hl : fs.length < 1000) (ry : RelV y u)
    (h : ∀ s', Inv X pins σ (upd H a (.ins C dx (putF f y fs))) s' → Q () s') : wpAny (model X.prog X.w) A (setAttr (.ref a) f u) Q E s := by
  obtain ⟨mA, O, r, wi, _, ho⟩ := ins_get I.hok e
  have hz : (fs.map (·.1)).length ≤ sizeLine := by rw [List.length_map, sizeLine_eq]; omega
  refine set_map I.kIn O c.sa c.po n.taker c.hd wi hz fun h' O' sb => h _ ?_
  have hd : ∃ o, h'.get? dx = some o := let ⟨o, _, _, e', _⟩ := O'.ns; ⟨o, e'⟩
  refine I.write (x := a) (e := dx) (by rw [e]; exact True.intro) (.inr ho) (fun b q hb z => (sb.2 b hb).trans z) hd ?_
  refine ⟨by rw [upd_ne O.ne]; exact ho, ?_, O.ne, O'.obj, _, O'.ns, fun g => ?_, fun g hg => ?_⟩
  · have := length_putF f y fs; omega
  · show RelO ((putF f y fs).lookup g) (if g = f then some u else mA g)
    rw [lookup_putF]
    by_cases q : g = f
    · rw [if_pos q, if_pos q]; exact ry
    · rw [if_neg q, if_neg q]; exact r g
  · by_cases q : g = f
    · rw [q]; exact (keys_putF f y fs).1
    · refine (keys_putF f y fs).2 g (wi g fun z => hg ?_)
      show (if g = f then some u else mA g) = none
      rw [if_neg q]; exact z

/-- a new instance, tracked, without attributes -/
theorem Inv.made (I : Inv X pins σ H s) : Inv X pins σ (upd (upd H s.heap.objs.size (.own (s.heap.objs.size + 1))) (s.heap.objs.size + 1) (.ins C s.heap.objs.size []))
    { s with heap := (s.heap.push PySem.W.emptyDict).push (PySem.W.instObj C s.heap.objs.size) } := by
  have e1 : (s.heap.push PySem.W.emptyDict).get? s.heap.objs.size = some PySem.W.emptyDict := Heap.get?_push_size s.heap rfl
  have e2 : ((s.heap.push PySem.W.emptyDict).push (PySem.W.instObj C s.heap.objs.size)).get? (s.heap.objs.size + 1) = some (PySem.W.instObj C s.heap.objs.size) := by
    have := Heap.get?_push_size (s.heap.push PySem.W.emptyDict) (o := PySem.W.instObj C s.heap.objs.size) rfl
    rwa [Heap.size_push] at this
  have e3 : (s.heap.push PySem.W.emptyDict).Ns s.heap.objs.size (fun _ => none) := ⟨PySem.W.emptyDict, #[], _, e1, rfl, (fun e he => absurd he (by simp)), fun _ => rfl⟩
  have I1 := I.laid (a := s.heap.objs.size) (o := .own (s.heap.objs.size + 1)) (h' := s.heap.push PySem.W.emptyDict) (t' := s.toks) (fun b u q => Heap.get?_push_of_some _ q) (Nat.le_refl _) ⟨_, e1⟩
  refine I1.laid (a := s.heap.objs.size + 1) (o := .ins C s.heap.objs.size []) (t' := s.toks) (fun b u q => Heap.get?_push_of_some _ q) (Nat.le_of_eq (Heap.size_push _ _)) ?_
  have ne : s.heap.objs.size ≠ s.heap.objs.size + 1 := Nat.ne_of_lt (Nat.lt_succ_self _)
  refine ⟨by rw [upd_ne ne, upd_same], Nat.zero_le _, ne, e2, fun _ => none, (Heap.Ns1.of_empty e3).at fun o q => Heap.get?_push_of_some _ q, fun _ => True.intro, fun y hy => absurd rfl hy⟩

/-- e.f where nothing but the object is asked: through attributeBase (super) and the last hold -/
theorem attr_of {prog : Program} {w : World} {env : Env} {e : Expr} {f : Str} {pos : Pos} {s : Shared} {Q : Value → Shared → Prop} (hb : attributeBase e f env (eval e env) = eval e env)
    (h : wpAny (model prog w) A (eval e env) (fun o s₁ => wpAny (model prog w) A (getAttr o f true) Q E s₁) E s) : wpAny (model prog w) A (eval (.Attribute e f pos) env) Q E s :=
  Attribute_any_ h (by rw [arm_eval_Attribute, hb])
end

/-- e.f, an attribute of the instance -/
def tFld (K : PySem.W.Frag) (ta : TE) (f : Str) : TE := fun σ H Q => ta σ H fun x H1 => ∃ a C dx fs v, x = .ref a ∧ H1 a = some (.ins C dx fs) ∧ Cls K C ∧ NoAttr K C f ∧ fs.lookup f = some v ∧ Q v H1
/-- e.f = value -/
def sFld (K : PySem.W.Frag) (ta tv : TE) (f : Str) : TS := fun D σ H => tv σ H fun y H1 => ta σ H1 fun x H2 => ∃ a C dx fs, x = .ref a ∧ H2 a = some (.ins C dx fs) ∧ Cls K C ∧ NoAttr K C f ∧ fs.length < 1000 ∧
  D.nx σ (upd H2 a (.ins C dx (putF f y fs)))
section
variable {X : Cx} {o e value : Expr} {f : Str} {pos pos' tpos : Pos} {ta tv : TE}
theorem pe_fld (he : PE X e ta) (hb : attributeBase e f X.env (eval e X.env) = eval e X.env) : PE X (.Attribute e f pos) (tFld X.K ta f) := by
  intro pins s σ H Q I h
  refine attr_of hb (thn (he pins s σ H _ I h) fun u s1 ⟨x, H1, I1, rx, a, C, dx, fs, v, ex, ea, c, n, l, q⟩ => ?_)
  subst ex
  obtain rfl : u = Value.ref a := rx
  exact getattr_ok I1 ea c n l fun u' s2 I2 ru => ⟨v, H1, I2, ru, q⟩
theorem ps_fld (ha : PE X o ta) (hv : PE X value tv) (hs : swapsWith value (some (.Attribute o f pos')) pos.line X.env = pure false) : PS X (.Assign [.Attribute o f pos'] value pos) (sFld X.K ta tv f) := by
  intro pins s σ H D I h
  refine plainObj_wpAny_Assign_Attribute (thn (hv pins s σ H _ I h) fun u s1 ⟨y, H1, I1, ry, q⟩ => thn (ha pins s1 σ H1 _ I1 q) fun ov s2 ⟨x, H2, I2, rx, a, C, dx, fs, ex, ea, c, n, l, q2⟩ => ?_) hs
  subst ex
  obtain rfl : ov = Value.ref a := rx
  exact setattr_ok I2 ea c n l ry fun s3 I3 => ⟨σ, _, I3, q2⟩
end

section
variable {X : Cx} {pins : List (Addr × Obj)} {σ : St} {H : Hp} {s : Shared} {A : Around} {E : Value → Shared → Prop} {Q : Value → Shared → Prop} {c : Value} {b : Bool}
end
end L2

namespace L2
open PySem PySem.Spec PyProof.Rows

structure Room (k : Nat) (A : Around) : Prop where
  hd : A.handled = none
  dp : A.depth + 3 * k + 5 < recursionLimit
  un : A.units + 16 * k + 200 < cLine
theorem Room.mono {j k : Nat} {A : Around} (r : Room k A) (h : j ≤ k) : Room j A := ⟨r.hd, by have := r.dp; omega, by have := r.un; omega⟩
theorem Room.deeper {k : Nat} {A : Around} (r : Room (k + 1) A) (env : Env) : Room k (A.deeper env) :=
  ⟨r.hd, by have := r.dp; show A.depth + 1 + 3 * k + 5 < _; omega, by have := r.un; show A.units + 3 + 16 * k + 200 < _; omega⟩
theorem make_depth {A : Around} {C : Addr} {us : List Value} {kw : List (Str × Value)} : (A.under (.builtin "type.__call__" ⟨.ref C :: us, kw⟩)).depth = A.depth + 1 := by
  first | rfl | simp [Around.under, Code.weight, Code.isCreation, Code.isGuard, Code.isCaller, Code.frames, Code.isFrame, guardIds]
theorem make_units {A : Around} {C : Addr} {us : List Value} {kw : List (Str × Value)} : (A.under (.builtin "type.__call__" ⟨.ref C :: us, kw⟩)).units = A.units + 1 := by
  first | rfl | simp [Around.under, Code.cUnits, Code.frames, Code.isFrame]
theorem Room.make {k : Nat} {A : Around} (r : Room (k + 1) A) (C : Addr) (us : List Value) (kw : List (Str × Value)) : Room k (A.under (.builtin "type.__call__" ⟨.ref C :: us, kw⟩)) :=
  ⟨r.hd, by have := r.dp; rw [make_depth]; omega, by have := r.un; rw [make_units]; omega⟩
theorem Room.depth {k : Nat} {A : Around} (r : Room k A) : A.depth < recursionLimit := by have := r.dp; omega
theorem Room.units {k : Nat} {A : Around} (r : Room k A) : A.units + 64 < cLine := by have := r.un; omega
def tNil : TA := fun _ H Q => Q [] H
def tCons (ta : TE) (tr : TA) : TA := fun σ H Q => ta σ H fun x H1 => tr σ H1 fun xs H2 => Q (x :: xs) H2
section
variable {X : Cx} {e : Expr} {es : List Expr} {te : TE} {t : TA} {pos : Pos}
theorem pa_nil : PA X [] tNil := fun _ _ _ _ H Q I h => Calls.spliced_nil ⟨[], H, I, .nil, h⟩
theorem pa_cons (ha : PE X e te) (hr : PA X es t) (hs : starEach (e :: es) X.env = (false, eval e X.env) :: starEach es X.env := by rfl) : PA X (e :: es) (tCons te t) := by
  intro pos pins s σ H Q I h
  rw [hs]
  show wpAny _ _ (spliced ((false, eval e X.env) :: backTo pos (starEach es X.env))) _ _ s
  refine Calls.spliced_cons (thn (ha pins s σ H _ I h) fun u s1 ⟨x, H1, I1, r1, q1⟩ => ?_)
  exact thn (hr pos pins s1 σ H1 _ I1 q1) fun us s2 ⟨xs, H2, I2, r2, q2⟩ => ⟨x :: xs, H2, I2, .cons r1 r2, q2⟩

/-- a tuple, a list of written items -/
def tTup (t : TA) : TE := fun σ H Q => t σ H fun xs H1 => xs.length ≤ sizeLine ∧ ∀ p, H1 p = none → Q (.ref p) (upd H1 p (.tup xs))
def tLst (t : TA) : TE := fun σ H Q => t σ H fun xs H1 => xs.length ≤ sizeLine ∧ ∀ p, H1 p = none → Q (.ref p) (upd H1 p (.lst xs))
theorem pe_tup {x1} (h : PA X es t) : PE X (.Tuple es x1 pos) (tTup t) := by
  intro pins s σ H Q I hq
  refine wpAny_Tuple_spliced (thn (h pos pins s σ H _ I hq) fun us s1 ⟨xs, H1, I1, r, z, q⟩ => ⟨by rw [← r.length]; exact z, ?_⟩)
  have hf : H1 s1.heap.objs.size = none := I1.hok.fresh (Nat.le_refl _)
  refine ⟨.ref s1.heap.objs.size, upd H1 s1.heap.objs.size (.tup xs), I1.laid (t' := s1.toks) (fun b u e => Heap.get?_push_of_some _ e) (Nat.le_refl _) ?_, rfl, q _ hf⟩
  exact ⟨z, us, r, ⟨_, Heap.get?_push_size _ rfl, rfl, _, rfl⟩⟩
theorem pe_lst (h : PA X es t) : PE X (.List es pos) (tLst t) := by
  intro pins s σ H Q I hq
  refine wpAny_List_spliced (thn (h pos pins s σ H _ I hq) fun us s1 ⟨xs, H1, I1, r, z, q⟩ => ⟨by rw [← r.length]; exact z, ?_⟩)
  have hf : H1 s1.heap.objs.size = none := I1.hok.fresh (Nat.le_refl _)
  refine ⟨.ref s1.heap.objs.size, upd H1 s1.heap.objs.size (.lst xs), I1.laid (t' := s1.toks) (fun b u e => Heap.get?_push_of_some _ e) (Nat.le_refl _) ?_, rfl, q _ hf⟩
  exact ⟨z, us, 0, r, Heap.get?_push_size _ rfl⟩
end

/-- a def's promise: the bound arguments in the parameters' order, the heap, the wanted end, the wanted exception -/
abbrev Sp := List V → Hp → VK → XK → Prop
/-- how an exception lies behind a call (file 08 gives it): the callers' frames, abstract heap and state ahead of the call, the wish, the exception, the state -/
abbrev CXT := List Env → Hp → Shared → XK → Value → Shared → Prop

/-- the state at a call -/
structure Env0 (P : Program) (w : World) (K : PySem.W.Frag) (mg : Str → Option Value) (base : Heap) (A : Around) (outer : List Env) (s : Shared) (H : Hp) : Prop where
  frames : A.frames = some outer
  mod : Mod K mg base
  bs : ∀ b o, base.get? b = some o → s.heap.get? b = some o ∧ H b = none
  bsz : base.objs.size ≤ s.heap.objs.size
  funs : s.heap.FunFrames base outer
  frf : ∀ b ∈ frs outer, H b = none
  hok : HOk P w H s.heap
  bare : AllBare s.gens
/-- a call's end -/
def CE (outer : List Env) (P : Program) (w : World) (H : Hp) (s : Shared) (Q : VK) (u : Value) (s' : Shared) : Prop :=
  ∃ v H', s'.os = s.os ∧ AllBare s'.gens ∧ Un (frs outer) [] H H' s.heap s'.heap ∧ HOk P w H' s'.heap ∧ RelV v u ∧ Q v H'
def CR (CX : CXT) (outer : List Env) (P : Program) (w : World) (H : Hp) (s : Shared) (Q : VK) (E : XK) (r : Result) (s' : Shared) : Prop :=
  match r with
  | .ok (.ret u) => CE outer P w H s Q u s'
  | .ok _ => False
  | .error e => CX outer H s E e s'
structure FnOk (P : Program) (w : World) (K : PySem.W.Frag) (mg : Str → Option Value) (base : Heap) (CX : CXT) (k : Nat) (f : Addr) (fd : FuncData) (ps : List Str) (sp : Sp) : Prop where
  len : ∀ vs H Q E, sp vs H Q E → vs.length = ps.length
  run : ∀ (A : Around) (outer : List Env) (s : Shared) (H : Hp) (args : Args) (us : List Value) (vs : List V) (Q : VK) (E : XK), Room k A → Env0 P w K mg base A outer s H → BindsTo s fd args (ps.zip us) → Vals vs us → sp vs H Q E →
    codeAny (model P w) A (.call (.ref f) args) (CR CX outer P w H s Q E) s
theorem Env0.make {P : Program} {w : World} {K : PySem.W.Frag} {mg : Str → Option Value} {base : Heap} {A : Around} {outer : List Env} {s : Shared} {H : Hp} (e : Env0 P w K mg base A outer s H) (C : Addr) (us : List Value) (kw : List (Str × Value)) :
    Env0 P w K mg base (A.under (.builtin "type.__call__" ⟨.ref C :: us, kw⟩)) outer s H := ⟨by first | exact e.frames | (simpa [Around.under, Code.envs, Code.isFrame, pushEnvs] using e.frames), e.mod, e.bs, e.bsz, e.funs, e.frf, e.hok, e.bare⟩
section
variable {X : Cx} {pins : List (Addr × Obj)} {σ : St} {H : Hp} {s s' : Shared}
/-- from a body: what a callee wants -/
theorem Inv.env0 (I : Inv X pins σ H s) : Env0 X.prog X.w X.K X.mg X.base X.A X.stack s H :=
  ⟨I.ok.frames, I.ok.mod, I.bs, Nat.le_trans I.ok.bsz I.sz, I.stack, I.stkFree, I.hok, I.bare⟩
/-- behind a call -/
theorem Inv.after {Q : VK} {u : Value} (I : Inv X pins σ H s) (h : CE X.stack X.prog X.w H s Q u s') : EP X pins σ Q u s' := by
  obtain ⟨v, H', os, bare, un, hok, r, q⟩ := h
  obtain ⟨hh, g, d, t, os'⟩ := s'
  obtain rfl : os' = s.os := os
  exact ⟨v, H', I.call (h' := hh) (g' := g) (d' := d) (t' := t) (ch := []) un hok bare (fun b z => absurd z (by simp)), r, q⟩
end

/-- f(..): the written arguments, then the defaults dvs; E: what is wanted of an exception -/
def tCall (sp : Sp) (dvs : List V) (E : XK) (t : TA) : TE := fun σ H Q => t σ H fun vs H1 => sp (vs ++ dvs) H1 Q E
/-- C(..): a new instance and its dict, then __init__ -/
def tMake (C : Addr) (sp : Sp) (dvs : List V) (E : XK) (t : TA) : TE := fun σ H Q => t σ H fun vs H1 => ∀ x dx, H1 x = none → H1 dx = none → dx ≠ x →
  sp (.ref x :: (vs ++ dvs)) (upd (upd H1 dx (.own x)) x (.ins C dx [])) (fun v H2 => v = .non ∧ Q (.ref x) H2) E

/-- how the parameters are bound: us the positional arguments, kw the keywords' values by name, ds the defaults that fill up -/
def Binds (K : PySem.W.Frag) (fd : FuncData) (ps : List Str) (ds : List Value) : Prop :=
  ∀ (s : Shared) (us : List Value), K.In s.heap → (us ++ ds).length = ps.length → BindsTo s fd ⟨us, []⟩ (ps.zip (us ++ ds))
/-- every parameter is given -/
theorem Binds.all {K : PySem.W.Frag} {fd : FuncData} {ps : List Str} (h : ∀ us : List Value, us.length = ps.length → bindArgs fd ⟨us, []⟩ = pure (ps.zip us)) : Binds K fd ps [] := fun s us _ hl => by
  rw [List.append_nil] at hl ⊢
  exact .of_eq (h us hl)

/-- an exception of a callee reaches what this body wants of exceptions -/
def Passes (CX : CXT) (X : Cx) (E : XK) : Prop := ∀ (pins : List (Addr × Obj)) (σ : St) (H : Hp) (s : Shared) (e : Value) (s' : Shared), Inv X pins σ H s → CX X.stack H s E e s' → X.xe e s'

section
variable {X : Cx} {CX : CXT} {k : Nat} {f C : Addr} {fd : FuncData} {ps : List Str} {sp : Sp} {dvs : List V} {ds : List Value} {E : XK} {x m : Str} {p pos apos : Pos} {e o : Expr} {es : List Expr} {ta : TE} {t : TA}

/-- the callee runs -/
theorem run_fn {pins : List (Addr × Obj)} {σ : St} {H : Hp} {s : Shared} {Q : VK} {us : List Value} {vs : List V} (F : FnOk X.prog X.w X.K X.mg X.base CX k f fd ps sp) (hr : Room k X.A) (hb : Binds X.K fd ps ds) (hd : Vals dvs ds) (hx : Passes CX X E)
    (I : Inv X pins σ H s) (r : Vals vs us) (h : sp (vs ++ dvs) H Q E) : wpAny (model X.prog X.w) X.A (call (.ref f) us) (EP X pins σ Q) X.xe s := by
  have r2 : Vals (vs ++ dvs) (us ++ ds) := r.append hd
  have hl : (us ++ ds).length = ps.length := by rw [← r2.length]; exact F.len _ _ _ _ h
  refine wpAny_call (codeAny_mono (F.run X.A X.stack s H ⟨us, []⟩ (us ++ ds) (vs ++ dvs) Q E hr I.env0 (hb s us I.kIn hl) r2 h) fun r s' hq => ?_)
  cases r with
  | error e => exact hx pins σ H s e s' I hq
  | ok fl =>
    cases fl with
    | ret u => exact I.after hq
    | next => exact False.elim hq
    | brk => exact False.elim hq
    | cont => exact False.elim hq

theorem pe_call (F : FnOk X.prog X.w X.K X.mg X.base CX k f fd ps sp) (hr : Room k X.A) (hg : Gl X x) (hm : X.mg x = some (.ref f)) (hk : PySem.W.keepIn X.K (.ref f) = true) (hb : Binds X.K fd ps ds) (hd : Vals dvs ds) (hx : Passes CX X E)
    (ha : PA X (e :: es) t) (hdb : (x == ("__debug__" : Str)) = false := by decide) (he : starEach (e :: es) X.env = (false, eval e X.env) :: starEach es X.env := by rfl) (hpl : (backTo pos (starEach es X.env)).any (·.1) = false := by rfl) :
    PE X (.Call (.Name x p) (e :: es) [] pos) (tCall sp dvs E t) := by
  intro pins s σ H Q I h
  refine wpAny_Call_Name_kw (ld_glob I hg hm ?_ hdb)
  refine PySem.W.callWith_K (h₀ := X.base) I.ok.mod.kin hk (thn (ha pos pins s σ H _ I h) fun us s1 ⟨vs, H1, I1, r, q⟩ => ⟨I1.kIn, ?_⟩) he hpl
  exact run_fn F hr hb hd hx I1 r q
theorem pe_call0 (F : FnOk X.prog X.w X.K X.mg X.base CX k f fd ps sp) (hr : Room k X.A) (hg : Gl X x) (hm : X.mg x = some (.ref f)) (hk : PySem.W.keepIn X.K (.ref f) = true) (hb : Binds X.K fd ps ds) (hd : Vals dvs ds) (hx : Passes CX X E)
    (hdb : (x == ("__debug__" : Str)) = false := by decide) : PE X (.Call (.Name x p) [] [] pos) (tCall sp dvs E tNil) := by
  intro pins s σ H Q I h
  refine wpAny_Call_Name_kw (ld_glob I hg hm ?_ hdb)
  exact PySem.W.callWith_K0 I.kIn hk (run_fn (us := []) F hr hb hd hx I .nil h)

/-- what a class must have to be made -/
structure Mk (K : PySem.W.Frag) (C f : Addr) : Prop where
  makes : PySem.W.makesIn K C = true
  init : PySem.W.findIn K (.ref C) "__init__" = some (some (.ref f))
  fn : PySem.W.isFn K (.ref f) = true
  kp : PySem.W.keepIn K (.ref C) = true

theorem run_make {pins : List (Addr × Obj)} {σ : St} {H : Hp} {s : Shared} {Q : VK} {us : List Value} {vs : List V} (M : Mk X.K C f) (F : FnOk X.prog X.w X.K X.mg X.base CX k f fd ps sp) (hr : Room (k + 1) X.A) (hb : Binds X.K fd ps ds) (hd : Vals dvs ds)
    (hx : Passes CX X E) (I : Inv X pins σ H s) (r : Vals vs us)
    (h : ∀ x dx, H x = none → H dx = none → dx ≠ x → sp (.ref x :: (vs ++ dvs)) (upd (upd H dx (.own x)) x (.ins C dx [])) (fun v H2 => v = .non ∧ Q (.ref x) H2) E) :
    wpAny (model X.prog X.w) X.A (call (.ref C) us) (EP X pins σ Q) X.xe s := by
  have hq := h (s.heap.objs.size + 1) s.heap.objs.size (I.hok.fresh (Nat.le_succ _)) (I.hok.fresh (Nat.le_refl _)) (Nat.ne_of_lt (Nat.lt_succ_self _))
  have I2 := Inv.made (C := C) I
  have r2 : Vals (V.ref (s.heap.objs.size + 1) :: (vs ++ dvs)) (Value.ref (s.heap.objs.size + 1) :: (us ++ ds)) := .cons rfl (r.append hd)
  have hl : (Value.ref (s.heap.objs.size + 1) :: us ++ ds).length = ps.length := by
    have e := r2.length
    rw [F.len _ _ _ _ hq] at e
    exact e.symm
  refine wpAny_call (make_map (f := f) I.kIn M.makes M.init (beq_iff_eq.mp M.fn) (codeAny_mono (F.run _ X.stack _ _ ⟨Value.ref (s.heap.objs.size + 1) :: us, []⟩ (Value.ref (s.heap.objs.size + 1) :: (us ++ ds)) _ _ E (hr.make C us [])
    (I2.env0.make C us []) (hb _ (Value.ref (s.heap.objs.size + 1) :: us) I2.kIn hl) r2 hq) fun r s' hq' => ?_))
  cases r with
  | error e => exact hx pins σ _ _ e s' I2 hq'
  | ok fl =>
    cases fl with
    | ret u =>
      obtain ⟨v, H', I3, rv, ev, q3⟩ := I2.after hq'
      subst ev
      exact ⟨rv, ⟨V.ref (s.heap.objs.size + 1), H', I3, rfl, q3⟩⟩
    | next => exact False.elim hq'
    | brk => exact False.elim hq'
    | cont => exact False.elim hq'
theorem pe_make (M : Mk X.K C f) (F : FnOk X.prog X.w X.K X.mg X.base CX k f fd ps sp) (hr : Room (k + 1) X.A) (hg : Gl X x) (hm : X.mg x = some (.ref C)) (hb : Binds X.K fd ps ds) (hd : Vals dvs ds) (hx : Passes CX X E)
    (ha : PA X (e :: es) t) (hdb : (x == ("__debug__" : Str)) = false := by decide) (he : starEach (e :: es) X.env = (false, eval e X.env) :: starEach es X.env := by rfl) (hpl : (backTo pos (starEach es X.env)).any (·.1) = false := by rfl) :
    PE X (.Call (.Name x p) (e :: es) [] pos) (tMake C sp dvs E t) := by
  intro pins s σ H Q I h
  refine wpAny_Call_Name_kw (ld_glob I hg hm ?_ hdb)
  refine PySem.W.callWith_K (h₀ := X.base) I.ok.mod.kin M.kp (thn (ha pos pins s σ H _ I h) fun us s1 ⟨vs, H1, I1, r, q⟩ => ⟨I1.kIn, ?_⟩) he hpl
  exact run_make M F hr hb hd hx I1 r q
theorem pe_make0 (M : Mk X.K C f) (F : FnOk X.prog X.w X.K X.mg X.base CX k f fd ps sp) (hr : Room (k + 1) X.A) (hg : Gl X x) (hm : X.mg x = some (.ref C)) (hb : Binds X.K fd ps ds) (hd : Vals dvs ds) (hx : Passes CX X E)
    (hdb : (x == ("__debug__" : Str)) = false := by decide) : PE X (.Call (.Name x p) [] [] pos) (tMake C sp dvs E tNil) := by
  intro pins s σ H Q I h
  refine wpAny_Call_Name_kw (ld_glob I hg hm ?_ hdb)
  exact PySem.W.callWith_K0 I.kIn M.kp (run_make (us := []) M F hr hb hd hx I .nil h)
end

section
variable {X : Cx} {CX : CXT} {k : Nat} {f C : Addr} {fd : FuncData} {ps ks : List Str} {sp : Sp} {E : XK} {x m : Str} {p pos apos kpos : Pos} {e o : Expr} {es : List Expr} {kws : List Keyword} {te ta : TE} {t tk : TA} {nm : Option Str}
variable {g : List Value → List Value → List Value} {gV : List V → List V → List V}
end

/-- names: the parameters first -/
structure FnScope (N P : List Str) (sc : Scope) : Prop where
  kind : sc.kind = .function
  co : sc.isCoroutine = false
  gen : sc.isGenerator = false
  nd : N.Nodup
  pre : N.take P.length = P
  par : ∀ x ∈ P, sc.names.lookup x = some .local ∨ sc.names.lookup x = some .cell
  nofree : ∀ y ∈ sc.names, y.2 ≠ .free

theorem bindL_out {kindOf : Str → Option NameKind} {x : Str} : ∀ {binds : List (Str × Value)} {m : Str → Option Value}, (∀ v, (x, v) ∉ binds) → bindL kindOf binds m x = m x
  | [], _, _ => rfl
  | (n, v) :: r, m, h => by
    unfold bindL
    rw [bindL_out fun w hw => h w (List.mem_cons_of_mem _ hw)]
    split
    · have : x ≠ n := by rintro rfl; exact h v List.mem_cons_self
      simp [this]
    · rfl
theorem bindC_out {kindOf : Str → Option NameKind} {x : Str} : ∀ {binds : List (Str × Value)} {m : Str → Option Value}, (∀ v, (x, v) ∉ binds) → bindC kindOf binds m x = m x
  | [], _, _ => rfl
  | (n, v) :: r, m, h => by
    unfold bindC
    rw [bindC_out fun w hw => h w (List.mem_cons_of_mem _ hw)]
    split
    · rfl
    · have : x ≠ n := by rintro rfl; exact h v List.mem_cons_self
      simp [this]
theorem bindL_get {kindOf : Str → Option NameKind} {x : Str} {v : Value} : ∀ {P : List Str} {vs : List Value} {i : Nat} {m : Str → Option Value}, P.Nodup → P[i]? = some x → vs[i]? = some v → kindOf x = some .local →
    bindL kindOf (P.zip vs) m x = some v
  | [], _, _, _, _, h, _, _ => by simp at h
  | _ :: _, [], _, _, _, _, h, _ => by simp at h
  | p :: P, w :: vs, 0, m, nd, h1, h2, hk => by
    simp at h1 h2; subst h1; subst h2
    show bindL kindOf ((p, w) :: P.zip vs) m p = _
    unfold bindL
    rw [bindL_out fun v hv => (List.nodup_cons.mp nd).1 (List.of_mem_zip hv).1, if_pos hk]
    simp
  | p :: P, w :: vs, i + 1, m, nd, h1, h2, hk => by
    show bindL kindOf ((p, w) :: P.zip vs) m x = _
    unfold bindL
    exact bindL_get (i := i) (List.nodup_cons.mp nd).2 (by simpa using h1) (by simpa using h2) hk
theorem bindC_get {kindOf : Str → Option NameKind} {x : Str} {v : Value} : ∀ {P : List Str} {vs : List Value} {i : Nat} {m : Str → Option Value}, P.Nodup → P[i]? = some x → vs[i]? = some v → kindOf x ≠ some .local →
    bindC kindOf (P.zip vs) m x = some v
  | [], _, _, _, _, h, _, _ => by simp at h
  | _ :: _, [], _, _, _, _, h, _ => by simp at h
  | p :: P, w :: vs, 0, m, nd, h1, h2, hk => by
    simp at h1 h2; subst h1; subst h2
    show bindC kindOf ((p, w) :: P.zip vs) m p = _
    unfold bindC
    rw [bindC_out fun v hv => (List.nodup_cons.mp nd).1 (List.of_mem_zip hv).1, if_neg hk]
    simp
  | p :: P, w :: vs, i + 1, m, nd, h1, h2, hk => by
    show bindC kindOf ((p, w) :: P.zip vs) m x = _
    unfold bindC
    exact bindC_get (i := i) (List.nodup_cons.mp nd).2 (by simpa using h1) (by simpa using h2) hk

/-- the names' values at the entry -/
def start (N : List Str) (vs : List V) : St := vs.map some ++ List.replicate (N.length - vs.length) none

/-- the context of a def's body, at its entry; an exception leaves the frame, then lies as CX says -/
def cxOf (CX : CXT) (P : Program) (w : World) (K : PySem.W.Frag) (mg : Str → Option Value) (base : Heap) (N : List Str) (qual : Str) (scope : Scope) (f : Addr) (cd : Value) (A : Around) (outer : List Env) (s : Shared) (H : Hp) (E : XK) : Cx where
  prog := P
  w := w
  K := K
  mg := mg
  base := base
  A := A.deeper (envOfC qual scope s.heap.objs.size f cd)
  N := N
  s₀ := s
  H₀ := H
  env := envOfC qual scope s.heap.objs.size f cd
  outer := outer
  stack := envOfC qual scope s.heap.objs.size f cd :: outer
  ex := []
  calm := true
  fn := fun _ => true
  pn := []
  xe := fun e s' => wpAny (model P w) (A.deeper (envOfC qual scope s.heap.objs.size f cd)) (leaving (envOfC qual scope s.heap.objs.size f cd) e) (fun _ s'' => CX outer H s E e s'') (fun e' s'' => CX outer H s E e' s'') s'

theorem cell_has {sc : Scope} {n : Nat} {x : Str} (h : sc.names.lookup x = some .cell) : ∃ c, (cellsFrom n sc.names []).lookup x = some c := by
  have q := PySem.W.cellsFrom_some sc.names n [] (.inl h)
  exact Option.isSome_iff_exists.mp q

theorem inv_start {CX : CXT} {P : Program} {w : World} {K : PySem.W.Frag} {mg : Str → Option Value} {base : Heap} {N ps : List Str} {qual : Str} {scope : Scope} {f : Addr} {cd : Value} {A : Around} {outer : List Env} {s s1 : Shared} {H : Hp} {E : XK} {us : List Value} {vs : List V}
    (S : FnScope N ps scope) (hd : A.handled = none) (e0 : Env0 P w K mg base A outer s H) (hl : vs.length = ps.length) (r : Vals vs us)
    (x : InCallC s s.heap.objs.size (bindL (envOfC qual scope s.heap.objs.size f cd).kindOf (ps.zip us) fun _ => none) (cellsFrom (s.heap.objs.size + 1) scope.names []) (bindC (envOfC qual scope s.heap.objs.size f cd).kindOf (ps.zip us) fun _ => none) s1) :
    Inv (cxOf CX P w K mg base N qual scope f cd A outer s H E) [] (start N vs) H s1 := by
  have hpl : ps.length ≤ N.length := by have := congrArg List.length S.pre; rw [List.length_take] at this; omega
  obtain ⟨h1, tk, rfl, hk⟩ := x.done
  have noA : ∀ b : Addr, b ∉ (cxOf CX P w K mg base N qual scope f cd A outer s H E).ex := fun b z => absurd (show b ∈ ([] : List Addr) from z) (by simp)
  refine ⟨⟨e0.mod, S.kind, rfl, rfl, Nat.le_refl _, fun y z c h1 h2 => ?_, fun y hy => ?_, fun y c _ h => ?_, fun _ => hd, Around.frames_deeper e0.frames, .inr ⟨rfl, rfl⟩, fun b z => absurd z (noA b), e0.bs, e0.bsz, fun b _ _ => noA b, fun b z => absurd z (noA b), e0.funs, e0.frf⟩,
    rfl, e0.bare, Un.kept hk, ⟨_, x.toInCall.ns, fun i y v h1 h2 h3 => ?_⟩, fun y c h => ⟨_, x.cell y c h⟩, e0.hok.fresh (Nat.le_refl _), fun y c h => ?_, fun p hp => absurd (show p ∈ ([] : List (Addr × Obj)) from hp) (by simp), e0.hok.kept hk, ?_⟩
  · exact name_of_addr x.apart (PySem.mem_of_lookup h1) (PySem.mem_of_lookup h2)
  · have hy : scope.names.lookup y = some .cell ∨ scope.names.lookup y = some .free := hy
    rcases hy with hy | hy
    · exact cell_has hy
    · exact absurd rfl (S.nofree _ (PySem.mem_of_lookup hy))
  · exact Nat.le_of_lt (x.above y c (PySem.mem_of_lookup h))
  · have hi : i < vs.length := by
      unfold start at h2
      by_cases hi : i < vs.length
      · exact hi
      · rw [List.getElem?_append_right (by simpa using hi)] at h2
        rw [List.getElem?_replicate] at h2
        split at h2 <;> cases h2
    have ha : vs[i]? = some v := by
      unfold start at h2
      rw [List.getElem?_append_left (by simpa using hi), List.getElem?_map] at h2
      cases e : vs[i]? with
      | none => rw [e] at h2; cases h2
      | some a => rw [e] at h2; cases h2; rfl
    obtain ⟨u, hu, rv⟩ := r.get ha
    have hp : ps[i]? = some y := by
      rw [← S.pre, List.getElem?_take_of_lt (by omega)]; exact h1
    have ndP : ps.Nodup := by rw [← S.pre]; exact S.nd.sublist (List.take_sublist _ _)
    refine ⟨u, rv, ?_⟩
    rcases S.par y (List.mem_of_getElem? hp) with k | k
    · exact .inl ⟨k, bindL_get ndP hp hu k⟩
    · obtain ⟨c, e⟩ := cell_has (n := s.heap.objs.size + 1) k
      refine .inr ⟨.inl k, c, e, ?_⟩
      have q := x.cell y c e
      rw [bindC_get ndP hp hu (by show scope.names.lookup y ≠ _; rw [k]; decide)] at q
      exact q
  · exact e0.hok.fresh (Nat.le_of_lt (x.above y c (PySem.mem_of_lookup h)))
  · unfold start
    show _ = N.length
    rw [List.length_append, List.length_map, List.length_replicate]
    omega

/-- THE RULE: a def (or a method) of the text, by its body. The body's reading t is chosen for each entry; it is run at the parameters' values -/
theorem fn_of {CX : CXT} {P : Program} {w : World} {K : PySem.W.Frag} {mg : Str → Option Value} {base : Heap} {k : Nat} {f : Addr} {name qual : Str} {params : Arguments} {body : List Stmt} {scope : Scope} {dV kV doc pm cdv ct oc : Value} {an od : Option Addr}
    {osl : Array (Option Value)} {N ps : List Str} {sp : Sp} (lk : K.lookup f = some ⟨oc, od, .func (PySem.W.fnOf name qual params body scope dV kV doc pm an cdv ct), osl⟩) (hcd : PySem.W.codeIn K cdv qual = true) (S : FnScope N ps scope)
    (len : ∀ vs H Q E, sp vs H Q E → vs.length = ps.length)
    (hbody : ∀ (A : Around) (outer : List Env) (s : Shared) (H : Hp) (vs : List V) (Q : VK) (E : XK), Room k (A.deeper (envOfC qual scope s.heap.objs.size f cdv)) → sp vs H Q E →
      ∃ t, PSs (cxOf CX P w K mg base N qual scope f cdv A outer s H E) body t ∧ t { nx := fun _ H' => Q .non H', rt := Q } (start N vs) H) :
    FnOk P w K mg base CX (k + 1) f (PySem.W.fnOf name qual params body scope dV kV doc pm an cdv ct) ps sp := by
  refine ⟨len, fun A outer s H args us vs Q E hr e0 hb r hsp => ?_⟩
  have hl := len _ _ _ _ hsp
  have KX : K.In s.heap := e0.mod.kin.keeps fun b o e => (e0.bs b o e).1
  have lim : s.heap.NoLimit := e0.mod.nolimit.keeps fun b o e => (e0.bs b o e).1
  have hkind : ∀ y ∈ ps.zip us, scope.names.lookup y.1 = some .local ∨ (scope.names.lookup y.1 = some .cell ∧ ((cellsFrom (s.heap.objs.size + 1) scope.names []).lookup y.1).isSome = true) := fun ⟨n, v⟩ hy => by
    rcases S.par n (List.of_mem_zip hy).1 with q | q
    · exact .inl q
    · exact .inr ⟨q, PySem.W.cellsFrom_some _ _ _ (.inl q)⟩
  refine codeAny_call_function hr.depth (KX _ _ lk) rfl S.co S.gen rfl (PySem.W.codeRec_of KX hcd) (hb _ _ _ _ ?_)
  refine wpAny_newFunctionEnv_cells S.kind hkind fun env he s1 x => ?_
  subst he
  refine ⟨lim.keeps x.toInCall.keep, codeAny_func ?_⟩
  obtain ⟨t, ht, hq⟩ := hbody A outer s H vs Q E (hr.deeper _) hsp
  have I : Inv (cxOf CX P w K mg base N qual scope f cdv A outer s H E) [] (start N vs) H s1 := inv_start S hr.hd e0 hl r x
  refine wpAny_mono (ht [] s1 (start N vs) H _ I hq) (fun fl s' hs => ?_) fun e s' hs => hs
  have fin : ∀ {σ' : St} {H' : Hp} {v : V} {u : Value}, Inv (cxOf CX P w K mg base N qual scope f cdv A outer s H E) [] σ' H' s' → RelV v u → Q v H' → CE outer P w H s Q u s' :=
    fun {σ' H' v u} J rv q => ⟨v, H', J.os, J.bare, J.base, J.hok, rv, q⟩
  cases fl with
  | ret u =>
    obtain ⟨v, σ', H', J, rv, q⟩ := hs
    exact fin J rv q
  | next =>
    obtain ⟨σ', H', J, q⟩ := hs
    exact fin (v := V.non) (u := Value.none) J rfl q
  | brk =>
    obtain ⟨_, _, _, q⟩ := hs
    exact False.elim q
  | cont =>
    obtain ⟨_, _, _, q⟩ := hs
    exact False.elim q
end L2

namespace L2
open PySem PySem.Spec PyProof.Rows
section
variable {X : Cx} {x : Str} {p pos : Pos} {e : Expr} {es : List Expr} {t : TA} {id T : String} {r : List V → Hp → VK → Prop}

def tCB (r : List V → Hp → VK → Prop) (t : TA) : TE := fun σ H Q => t σ H fun vs H1 => r vs H1 Q
/-- f(e, ..), f a built-in function -/
theorem pe_callB (hc : CallR X (.builtin id) r) (hg : Gl X x) (hm : X.mg x = none) (hv : bootBuiltins x = some (.builtin id)) (ha : PA X (e :: es) t) (hn : x ≠ "__name__" := by decide) (hdb : (x == ("__debug__" : Str)) = false := by decide)
    (he : starEach (e :: es) X.env = (false, eval e X.env) :: starEach es X.env := by rfl) (hpl : (backTo pos (starEach es X.env)).any (·.1) = false := by rfl) : PE X (.Call (.Name x p) (e :: es) [] pos) (tCB r t) := by
  intro pins s σ H Q I h
  refine wpAny_Call_Name_kw (ld_blt I hg hm hv ?_ hn hdb)
  exact PyProof.Rows.callWith_builtin1 (thn (ha pos pins s σ H _ I h) fun us s1 ⟨vs, H1, I1, r1, q1⟩ => hc pins s1 σ H1 vs us Q I1 r1 q1) he hpl
/-- T(e, ..), T a built-in type -/
theorem pe_callTy (hc : CallR X (.type T) r) (hg : Gl X x) (hm : X.mg x = none) (hv : bootBuiltins x = some (.type T)) (ha : PA X (e :: es) t) (hn : x ≠ "__name__" := by decide) (hdb : (x == ("__debug__" : Str)) = false := by decide)
    (he : starEach (e :: es) X.env = (false, eval e X.env) :: starEach es X.env := by rfl) (hpl : (backTo pos (starEach es X.env)).any (·.1) = false := by rfl) : PE X (.Call (.Name x p) (e :: es) [] pos) (tCB r t) := by
  intro pins s σ H Q I h
  refine wpAny_Call_Name_kw (ld_blt I hg hm hv ?_ hn hdb)
  exact PyProof.Rows.callWith_type1 (thn (ha pos pins s σ H _ I h) fun us s1 ⟨vs, H1, I1, r1, q1⟩ => hc pins s1 σ H1 vs us Q I1 r1 q1) he hpl
end
end L2

namespace HT
open PySem PyProof.Rows

section
open PySem.SeqAt
open PySem.AutoSeq1 (wpAny_loadPart')
open PySem.MeetsSeq PySem.MeetsSeq2 PySem.MeetsSeq3

end

section
variable {prog : Program} {w : World} {A : Around} {E : Value → Shared → Prop} {s : Shared}

/-- t + u, t not empty -/
theorem cat_tup {t b : Addr} {vs ws : List Value} {Q : Value → Shared → Prop} (ht : IsTup s.heap t vs.toArray) (hb : IsTup s.heap b ws.toArray) (hv : vs ≠ [])
    (h1 : ws = [] → Q (.ref t) s) (h2 : ws ≠ [] → Q (.ref s.heap.objs.size) { s with heap := s.heap.push { cls := .type "tuple", data := .seq (vs ++ ws).toArray } })
    (hsz : vs.length + ws.length ≤ sizeLine) : wpAny (model prog w) A (binaryOp .Add (.ref t) (.ref b)) Q E s := by
  obtain ⟨⟨cls, dd, data, sl⟩, ho, hc, n, hd⟩ := id ht
  obtain ⟨⟨cls2, dd2, data2, sl2⟩, ho2, hc2, n2, hd2⟩ := id hb
  simp only at hc hd hc2 hd2
  subst hc hd hc2 hd2
  have e : vs.toArray ++ ws.toArray = (vs ++ ws).toArray := by simp
  by_cases hw : ws = []
  · exact concat_meets ⟨_, ho, rfl⟩ ⟨_, ho2, rfl⟩ noFill_tuple_add seq_tuple_add PySem.F.slot_tuple_add PySem.F.entry_tuple_add (PySem.F.args_tuple_add_2 _ _)
      (tuple_addW1 t b vs.toArray ws.toArray n n2 dd dd2 sl sl2 (by simpa using hv) (by simp [hw])) ⟨ho, ho2, h1 hw⟩
  · refine concat_meets ⟨_, ho, rfl⟩ ⟨_, ho2, rfl⟩ noFill_tuple_add seq_tuple_add PySem.F.slot_tuple_add PySem.F.entry_tuple_add (PySem.F.args_tuple_add_2 _ _)
      (tuple_addW2 t b vs.toArray ws.toArray n n2 dd dd2 sl sl2 (by simpa using hv) (by simpa using hw) (by rw [List.size_toArray, List.size_toArray]; exact hsz)) ⟨ho, ho2, ?_⟩
    rw [e]
    exact h2 hw

/-- a slice's bound as a place among n (d where it is left out) -/
def sIx (n d : Nat) : Option Int → Nat
  | none => d
  | some v => if v < 0 then (v + (n : Int)).toNat else min v.toNat n
end
end HT

namespace L2
open PySem PySem.Spec PyProof.Rows

abbrev TO := St → Hp → (Option Int → Hp → Prop) → Prop
def tNoPart : TO := fun _ H Q => Q none H
def tPart (t : TE) : TO := fun σ H Q => t σ H fun x H1 => ∃ i, x = .int i ∧ Q (some i) H1

section
variable {X : Cx} {e : Expr} {te : TE} {lo hi : Option Expr} {tl th : TO} {pos p2 : Pos}

/-- what a slice of a value is, by values: the slice object stands at sl -/
def SlR (X : Cx) (r : V → Option Int → Option Int → Hp → VK → Prop) : Prop :=
  ∀ (pins : List (Addr × Obj)) (s : Shared) (σ : St) (H : Hp) (x : V) (v vl vu : Value) (lo hi : Option Int) (sl : Addr) (Q : VK), Inv X pins σ H s → RelV x v → s.heap.IsSliceOf sl vl vu .none → IsPart vl lo → IsPart vu hi → r x lo hi H Q →
    ∃ T id, typeLookup (.type T) "__getitem__" = pure (some (.builtin id)) ∧ s.TypeIs v T ∧ wpAny (model X.prog X.w) X.A (getItem v (.ref sl)) (EP X pins σ Q) X.xe s
def tSl (r : V → Option Int → Option Int → Hp → VK → Prop) (te : TE) (tl th : TO) : TE := fun σ H Q => te σ H fun x H1 => tl σ H1 fun l H2 => th σ H2 fun u H3 => r x l u H3 Q
/-- the items of xs[lo:hi] -/
def cutV (xs : List V) (lo hi : Option Int) : List V := (xs.drop (HT.sIx xs.length 0 lo)).take (HT.sIx xs.length xs.length hi - HT.sIx xs.length 0 lo)
theorem cutV_length (xs : List V) (lo hi : Option Int) : (cutV xs lo hi).length ≤ xs.length := by
  unfold cutV
  rw [List.length_take, List.length_drop]
  omega
/-- t + u, t not empty: u empty gives t itself -/
def rCatT (K : PySem.W.Frag) : R2 := fun x y H Q => ∃ a b xs ys, x = .ref a ∧ y = .ref b ∧ SqT K H a xs ∧ SqT K H b ys ∧ xs ≠ [] ∧ xs.length + ys.length ≤ sizeLine ∧
  (ys = [] → Q (.ref a) H) ∧ (ys ≠ [] → ∀ p, H p = none → Q (.ref p) (upd H p (.tup (xs ++ ys))))
theorem Vals.nil_iff {xs : List V} {us : List Value} (r : Vals xs us) : us = [] ↔ xs = [] := by
  cases r with
  | nil => simp
  | cons _ _ => simp
theorem op_catT : OpR X (binaryOp .Add) (rCatT X.K) := by
  intro pins s σ H x y v u Q I rx ry h
  obtain ⟨a, b, xs, ys, rfl, rfl, ha, hb, hx, hz, q1, q2⟩ := h
  cases rx
  cases ry
  obtain ⟨its, r1, p1, _⟩ := I.tuple ha
  obtain ⟨its2, r2, p2, _⟩ := I.tuple hb
  refine HT.cat_tup p1 p2 (fun z => hx (r1.nil_iff.mp z)) (fun z => ⟨.ref a, H, I, rfl, q1 (r2.nil_iff.mp z)⟩) (fun z => ?_) (by rw [← r1.length, ← r2.length]; exact hz)
  refine ⟨.ref s.heap.objs.size, _, I.laid (t' := s.toks) (o := .tup (xs ++ ys)) (fun b ob q => Heap.get?_push_of_some _ q) (Nat.le_refl _) ?_, rfl, q2 (fun w => z (r2.nil_iff.mpr w)) _ (I.hok.fresh (Nat.le_refl _))⟩
  exact ⟨by rw [List.length_append]; exact hz, _, r1.append r2, IsTup.new _ _⟩
end
end L2

namespace L2
open PySem PySem.Spec PyProof.Rows

/-- the place that an index of any sign means -/
def ixN (n : Nat) (i : Int) : Option Nat := if 0 ≤ i then (if i < n then some i.toNat else none) else if -(n : Int) ≤ i then some (i + n).toNat else none
def atI {α : Type} (xs : List α) (i : Int) : Option α := (ixN xs.length i).bind fun j => xs[j]?
theorem ixN_seq {n : Nat} {i : Int} {j : Nat} (h : ixN n i = some j) : seqIndex? i n = some j ∧ j < n ∧ -(n : Int) ≤ i ∧ i < n := by
  unfold ixN at h
  by_cases h0 : 0 ≤ i
  · rw [if_pos h0] at h
    by_cases h1 : i < n
    · rw [if_pos h1] at h
      have e : i.toNat = j := Option.some.inj h
      exact ⟨by rw [seqIndex_of h0 h1, e], by omega, by omega, h1⟩
    · rw [if_neg h1] at h; cases h
  · rw [if_neg h0] at h
    by_cases h1 : -(n : Int) ≤ i
    · rw [if_pos h1] at h
      have e : (i + n).toNat = j := Option.some.inj h
      exact ⟨by rw [seqIndex_neg (by omega) h1, e], by omega, h1, by omega⟩
    · rw [if_neg h1] at h; cases h
theorem atI_get {α : Type} {xs : List α} {i : Int} {v : α} (h : atI xs i = some v) : ∃ j, seqIndex? i xs.length = some j ∧ xs[j]? = some v ∧ j < xs.length ∧ -(xs.length : Int) ≤ i ∧ i < xs.length := by
  unfold atI at h
  cases e : ixN xs.length i with
  | none => rw [e] at h; cases h
  | some j =>
    rw [e] at h
    obtain ⟨h1, h2, h3, h4⟩ := ixN_seq e
    exact ⟨j, h1, h, h2, h3, h4⟩
theorem atI_nat {α : Type} {xs : List α} {j : Nat} {v : α} (h : xs[j]? = some v) : atI xs (j : Int) = some v := by
  have hj : j < xs.length := (List.getElem?_eq_some_iff.mp h).1
  have e : ixN xs.length (j : Int) = some j := by
    unfold ixN
    rw [if_pos (by omega), if_pos (by omega)]; simp
  unfold atI; rw [e]; exact h
/-- what stands as an index of a plain subscript -/
def PlainIx (b : Expr) : Prop := ∀ o i, subscripted b false o i = operate [o, i] (getItem o i)
/-- a subscript by values -/
def IxR (X : Cx) (r : R2) : Prop :=
  ∀ (value slice : Expr) (pins : List (Addr × Obj)) (s : Shared) (σ : St) (H : Hp) (x y : V) (v u : Value) (Q : VK), Inv X pins σ H s → RelV x v → RelV y u → r x y H Q →
    subscripted slice false v u = operate [v, u] (getItem v u) → wpAny (model X.prog X.w) X.A (subscriptTail value slice v u) (EP X pins σ Q) X.xe s
/-- a call of a builtin's method by values: the receiver, the arguments -/
def MtR (X : Cx) (id : String) (r : V → List V → Hp → VK → Prop) : Prop :=
  ∀ (pins : List (Addr × Obj)) (s : Shared) (σ : St) (H : Hp) (x : V) (xs : List V) (v : Value) (us : List Value) (Q : VK), Inv X pins σ H s → RelV x v → Vals xs us → r x xs H Q →
    wpAny (model X.prog X.w) X.A (call (.builtin id) (v :: us)) (EP X pins σ Q) X.xe s
section
variable {X : Cx} {a b : Expr} {ta tb : TE} {pos : Pos}
/-- a[b] -/
theorem pe_ix {r : R2} (hr : IxR X r) (ha : PE X a ta) (hb : PE X b tb) (hs : PlainIx b) : PE X (.Subscript a b pos) (tOp r ta tb) := by
  intro pins s σ H Q I h
  exact Subscript_ (binT ha hb I h fun v u s2 x y H2 I2 rx ry q => hr a b pins s2 σ H2 x y v u Q I2 rx ry q (hs _ _))

def rIxL (K : PySem.W.Frag) : R2 := fun x y H Q => ∃ p xs i v, x = .ref p ∧ y = .int i ∧ SqL K H p xs ∧ atI xs i = some v ∧ Q v H
def rIxT (K : PySem.W.Frag) : R2 := fun x y H Q => ∃ p xs i v, x = .ref p ∧ y = .int i ∧ SqT K H p xs ∧ atI xs i = some v ∧ Q v H
def rIxS : R2 := fun x y H Q => ∃ z i c, x = .str z ∧ y = .int i ∧ z.length ≤ sizeLine ∧ atI z.cps.toList i = some c ∧ Q (.str ⟨#[c]⟩) H
theorem ix_list : IxR X (rIxL X.K) := by
  intro value slice pins s σ H x y v u Q I rx ry h hs
  obtain ⟨p, xs, i, z, rfl, rfl, hq, he, q⟩ := h
  cases rx
  obtain ⟨t, rfl⟩ := ry
  obtain ⟨its, r, pl, hz⟩ := I.list hq
  obtain ⟨j, h1, h2, h3, h4, h5⟩ := atI_get he
  obtain ⟨w, ew, rw'⟩ := r.get h2
  have hl := r.length
  have hn := line63
  have fin : EP X pins σ Q w s := ⟨z, H, I, rw', q⟩
  by_cases h0 : 0 ≤ i
  · have hj : i.toNat = j := by
      rw [seqIndex_of h0 h5] at h1
      exact Option.some.inj h1
    exact item_listR pl.isList h0 (by omega) (by rw [hj]; simpa using ew) fin hs
  · have hj : (i + (its.toArray.size : Int)).toNat = j := by
      rw [seqIndex_neg (by omega) h4] at h1
      rw [List.size_toArray, ← hl]
      exact Option.some.inj h1
    exact subscriptTail_builtinR (x := w) pl.isList.typeIs slot_list_getitem.lookup
      (wpAny_getItem_list_neg (Q := fun r s' => r = w ∧ EP X pins σ Q r s') pl.isList (by omega) (by rw [List.size_toArray] <;> omega) (by omega) (by rw [hj]; simpa using ew) ⟨rfl, fin⟩) hs
theorem ix_tup : IxR X (rIxT X.K) := by
  intro value slice pins s σ H x y v u Q I rx ry h hs
  obtain ⟨p, xs, i, z, rfl, rfl, hq, he, q⟩ := h
  cases rx
  obtain ⟨t, rfl⟩ := ry
  obtain ⟨its, r, pl, hz⟩ := I.tuple hq
  obtain ⟨j, h1, h2, h3, h4, h5⟩ := atI_get he
  obtain ⟨w, ew, rw'⟩ := r.get h2
  have hl := r.length
  have hn := line63
  have fin : EP X pins σ Q w s := ⟨z, H, I, rw', q⟩
  exact subscriptTail_builtinR (x := w) pl.typeIs slot_tuple_getitem.lookup
    (getItem_tuple (j := j) (Q := fun r s' => r = w ∧ EP X pins σ Q r s') pl (by omega) (by omega) (by rw [List.size_toArray, ← hl]; exact h1) (by simpa using ew) ⟨rfl, fin⟩) hs
theorem ix_str : IxR X rIxS := by
  intro value slice pins s σ H x y v u Q I rx ry h hs
  obtain ⟨z, i, c, rfl, rfl, hz, he, q⟩ := h
  obtain ⟨t, rfl⟩ := rx
  obtain ⟨t', rfl⟩ := ry
  obtain ⟨j, h1, h2, h3, h4, h5⟩ := atI_get he
  have hl : z.cps.toList.length = z.length := by simp [Str.length]
  rw [hl] at h1 h4 h5
  have hn := line63
  exact tail_any (typeIs_str s z t) slot_str_getitem.lookup (getItem_str (c := c) (by
    have e1 : decide (i < -(2 ^ 63 : Int)) = false := decide_eq_false (by omega)
    have e2 : decide (i ≥ 2 ^ 63) = false := decide_eq_false (by omega)
    rw [e1, e2, Bool.or_false]) (by rw [h1]; simpa using h2) ⟨.str ⟨#[c]⟩, H, I.tok _, ⟨_, rfl⟩, q⟩) hs
/-- the list's object behind a store -/
theorem mapSeq_set (its : List Value) (n j : Nat) (u : Value) : Obj.mapSeq (·.setIfInBounds j u) { cls := .type "list", data := .seq its.toArray n } = { cls := .type "list", data := .seq (its.set j u).toArray n } := by
  simp [Obj.mapSeq]
theorem Inv.lst {pins : List (Addr × Obj)} {σ : St} {H : Hp} {s : Shared} {p : Addr} {xs : List V} (I : Inv X pins σ H s) (h : H p = some (.lst xs)) :
    ∃ (its : List Value) (n : Nat), Vals xs its ∧ s.heap.get? p = some { cls := .type "list", data := .seq its.toArray n } ∧ xs.length ≤ sizeLine := by
  obtain ⟨z, its, n, r, e⟩ := I.hok p _ h
  exact ⟨its, n, r, e, z⟩
/-- the list at p is written by an update of its object -/
theorem Inv.lstUpd {pins : List (Addr × Obj)} {σ : St} {H : Hp} {s : Shared} {p : Addr} {xs ys : List V} {its its' : List Value} {n n' : Nat} {f : Obj → Obj} (I : Inv X pins σ H s) (h : H p = some (.lst xs))
    (ho : s.heap.get? p = some { cls := .type "list", data := .seq its.toArray n }) (hf : f { cls := .type "list", data := .seq its.toArray n } = { cls := .type "list", data := .seq its'.toArray n' }) (r : Vals ys its') (hz : ys.length ≤ sizeLine) (t : Nat) :
    Inv X pins σ (upd H p (.lst ys)) { s with heap := s.heap.update p f, toks := t } := by
  have e : (s.heap.update p f).get? p = some { cls := .type "list", data := .seq its'.toArray n' } := by
    rw [Heap.get?_update_self f ho (by rw [hf] <;> rfl), hf]
  refine I.write (x := p) (e := p) (by rw [h]; trivial) (.inl rfl) (fun b u hb q => (Heap.get?_update_other _ _ (Ne.symm hb)).trans q) ⟨_, e⟩ ?_
  exact ⟨hz, its', n', r, e⟩
def rSetL : V → V → V → Hp → (Hp → Prop) → Prop := fun o i v H Q => ∃ p xs k j, o = .ref p ∧ i = .int k ∧ H p = some (.lst xs) ∧ ixN xs.length k = some j ∧ Q (upd H p (.lst (xs.set j v)))
theorem set_list : PSet X rSetL := by
  intro pins s σ H o i v ov iv u Q I ro ri rv h
  obtain ⟨p, xs, k, j, rfl, rfl, hp, hj, q⟩ := h
  cases ro
  obtain ⟨t, rfl⟩ := ri
  obtain ⟨its, n, r, ho, hz⟩ := I.lst hp
  obtain ⟨h1, h2, h3, h4⟩ := ixN_seq hj
  have hl := r.length
  have hn := line63
  have I' : Inv X pins σ (upd H p (.lst (xs.set j v))) { s with heap := s.heap.update p (Obj.mapSeq (·.setIfInBounds j u)) } :=
    I.lstUpd hp ho (mapSeq_set its n j u) (r.set rv j) (by rw [List.length_set]; exact hz) s.toks
  by_cases h0 : 0 ≤ k
  · have hk : k.toNat = j := by
      rw [seqIndex_of h0 h4] at h1
      exact Option.some.inj h1
    exact PySem.W.ki_setAt ho h0 (by omega) (by rw [List.size_toArray, ← hl]; exact h4) (by rw [hk]; exact ⟨_, I', q⟩)
  · have hk : (k + (its.toArray.size : Int)).toNat = j := by
      rw [seqIndex_neg (by omega) h3] at h1
      rw [List.size_toArray, ← hl]
      exact Option.some.inj h1
    exact PySem.W.ki_setBack ho (by omega) (by rw [List.size_toArray, ← hl]; exact h3) (by omega) (by rw [hk]; exact ⟨_, I', q⟩)

theorem slice_bounds (lo hi : Option Int) (n : Nat) : (sliceBounds lo hi none n).1 = ((HT.sIx n 0 lo : Nat) : Int) ∧ (sliceBounds lo hi none n).2.1 = ((HT.sIx n n hi : Nat) : Int) ∧ (sliceBounds lo hi none n).2.2 = 1 := by
  refine ⟨?_, ?_, rfl⟩
  · cases lo with
    | none => simp [sliceBounds, HT.sIx]
    | some i =>
      simp only [sliceBounds, HT.sIx, Option.getD_none, show (1 : Int) > 0 by decide, if_true]
      by_cases h : i < 0
      · simp only [h, if_true] <;> omega
      · simp only [h, if_false] <;> omega
  · cases hi with
    | none => simp [sliceBounds, HT.sIx]
    | some i =>
      simp only [sliceBounds, HT.sIx, Option.getD_none, show (1 : Int) > 0 by decide, if_true]
      by_cases h : i < 0
      · simp only [h, if_true] <;> omega
      · simp only [h, if_false] <;> omega
theorem slicePick_cut (its : List Value) (lo hi : Option Int) : slicePick its.toArray lo hi none = ((its.drop (HT.sIx its.length 0 lo)).take (HT.sIx its.length its.length hi - HT.sIx its.length 0 lo)).toArray := by
  obtain ⟨h1, h2, h3⟩ := slice_bounds lo hi its.toArray.size
  unfold slicePick
  rw [h1, h2, h3]
  simp only [sliceRange_one, pick_run, List.size_toArray] <;> rfl
/-- xs[lo:hi] of a list: a new list -/
def rSlL (K : PySem.W.Frag) : V → Option Int → Option Int → Hp → VK → Prop := fun x lo hi H Q => ∃ a xs, x = .ref a ∧ SqL K H a xs ∧ ∀ p, H p = none → Q (.ref p) (upd H p (.lst (cutV xs lo hi)))
theorem sl_list : SlR X (rSlL X.K) := by
  intro pins s σ H x v vl vu lo hi sl Q I rx hs pl pu h
  obtain ⟨a, xs, rfl, hx, q⟩ := h
  cases rx
  obtain ⟨its, r, ht, hz⟩ := I.list hx
  have hlen := r.length
  refine ⟨"list", _, slot_list_getitem.lookup, ht.isList.typeIs, ?_⟩
  refine wpAny_getItem_list_slice ht.isList hs pl pu .none (by simp) ?_ (by rw [List.size_toArray] <;> omega)
  rw [slicePick_cut, ← hlen]
  refine ⟨.ref s.heap.objs.size, _, I.laid (t' := s.toks) (o := .lst (cutV xs lo hi)) (fun b ob q => Heap.get?_push_of_some _ q) (Nat.le_refl _) ?_, rfl, q _ (I.hok.fresh (Nat.le_refl _))⟩
  exact ⟨Nat.le_trans (cutV_length xs lo hi) hz, _, 0, (r.drop (HT.sIx xs.length 0 lo)).take (HT.sIx xs.length xs.length hi - HT.sIx xs.length 0 lo), Heap.get?_push_size _ rfl⟩

def flatV : V → Bool
  | .non => true
  | .bl _ => true
  | .int _ => true
  | .str _ => true
  | _ => false
/-- == of flat values -/
def eqV : V → V → Bool
  | .non, .non => true
  | .bl a, .bl b => a == b
  | .bl a, .int b => (if a then 1 else 0) == b
  | .int a, .bl b => a == (if b then 1 else 0)
  | .int a, .int b => a == b
  | .str a, .str b => a == b
  | _, _ => false
theorem eqAt_V {A : Around} {s : Shared} {y x : V} {u v : Value} (ry : RelV y u) (rx : RelV x v) (fy : flatV y = true) (fx : flatV x = true) : SeqAt.EqAt A s u v (eqV y x) := by
  cases y with
  | non =>
    cases ry
    cases x with
    | non => cases rx; exact SeqAt.EqAt.same _
    | bl b => cases rx; exact SeqAt.EqAt.none_bool b
    | int b => obtain ⟨t, rfl⟩ := rx; exact SeqAt.EqAt.none_int b t
    | str b => obtain ⟨t, rfl⟩ := rx; exact SeqAt.EqAt.none_str b t
    | _ => exact absurd (show false = true from fx) Bool.false_ne_true
  | bl a =>
    cases ry
    cases x with
    | non => cases rx; exact SeqAt.EqAt.bool_none a
    | bl b => cases rx; exact SeqAt.EqAt.bool_bool a b
    | int b => obtain ⟨t, rfl⟩ := rx; exact SeqAt.EqAt.bool_int a b t
    | str b => obtain ⟨t, rfl⟩ := rx; exact SeqAt.EqAt.bool_str a b t
    | _ => exact absurd (show false = true from fx) Bool.false_ne_true
  | int a =>
    obtain ⟨t', rfl⟩ := ry
    cases x with
    | non => cases rx; exact SeqAt.EqAt.int_none a t'
    | bl b => cases rx; exact SeqAt.EqAt.int_bool a t' b
    | int b => obtain ⟨t, rfl⟩ := rx; exact SeqAt.EqAt.int_int a t' b t
    | str b => obtain ⟨t, rfl⟩ := rx; exact SeqAt.EqAt.int_str a t' b t
    | _ => exact absurd (show false = true from fx) Bool.false_ne_true
  | str a =>
    obtain ⟨t', rfl⟩ := ry
    cases x with
    | non => cases rx; exact SeqAt.EqAt.str_none a t'
    | bl b => cases rx; exact SeqAt.EqAt.str_bool a t' b
    | int b => obtain ⟨t, rfl⟩ := rx; exact SeqAt.EqAt.str_int a t' b t
    | str b => obtain ⟨t, rfl⟩ := rx; exact SeqAt.EqAt.str_str a t' b t
    | _ => exact absurd (show false = true from fx) Bool.false_ne_true
  | _ => exact absurd (show false = true from fy) Bool.false_ne_true
/-- the items' answers, read off the values (a value's own answer does not lean on its token) -/
def eqU (x : V) (u : Value) : Bool := match u with
  | .none => eqV .non x
  | .bool b => eqV (.bl b) x
  | .int i _ => eqV (.int i) x
  | .str z _ => eqV (.str z) x
  | _ => false
theorem eqU_of {x y : V} {u : Value} (r : RelV y u) (f : flatV y = true) : eqU x u = eqV y x := by
  cases y with
  | non => cases r; rfl
  | bl b => cases r; rfl
  | int i => obtain ⟨t, rfl⟩ := r; rfl
  | str z => obtain ⟨t, rfl⟩ := r; rfl
  | _ => exact absurd (show false = true from f) Bool.false_ne_true
theorem any_eqU {x : V} : ∀ {xs : List V} {us : List Value}, Vals xs us → xs.all flatV = true → us.any (eqU x) = xs.any fun y => eqV y x
  | _, _, .nil, _ => rfl
  | y :: xs, u :: us, .cons r t, f => by
    rw [List.all_cons, Bool.and_eq_true] at f
    rw [List.any_cons, List.any_cons, eqU_of r f.1, any_eqU t f.2]
theorem mem_eqAt {A : Around} {s : Shared} {x : V} {v : Value} (rx : RelV x v) (fx : flatV x = true) : ∀ {xs : List V} {us : List Value}, Vals xs us → xs.all flatV = true → ∀ u ∈ us, SeqAt.EqAt A s u v (eqU x u)
  | _, _, .nil, _ => fun u hu => by cases hu
  | y :: xs, u :: us, .cons r t, f => fun u' hu => by
    rw [List.all_cons, Bool.and_eq_true] at f
    rcases List.mem_cons.mp hu with rfl | hu
    · rw [eqU_of r f.1]; exact eqAt_V r rx f.1 fx
    · exact mem_eqAt rx fx t f.2 u' hu
def inV (x : V) (xs : List V) : Bool := xs.any fun y => eqV y x
/-- x in a list or tuple of flat items -/
def rIn (K : PySem.W.Frag) (neg : Bool) : R2 := fun x y H Q => ∃ p xs, y = .ref p ∧ (SqL K H p xs ∨ SqT K H p xs) ∧ flatV x = true ∧ xs.all flatV = true ∧ Q (.bl (if neg then !inV x xs else inV x xs)) H
theorem op_in_seq : OpR X (compareOp .In) (rIn X.K false) := by
  intro pins s σ H x y v u Q I rx ry h
  obtain ⟨p, xs, rfl, hq, fx, fs, q⟩ := h
  cases ry
  rcases hq with hq | hq
  · obtain ⟨its, r, pl, hz⟩ := I.list hq
    refine SeqAt.in_listAt (eqU x) pl.isList (fun w hw => mem_eqAt rx fx r fs w (by simpa using hw)) ⟨.bl _, H, I, rfl, ?_⟩
    rw [show its.toArray.any (eqU x) = its.any (eqU x) by simp, any_eqU r fs]
    exact q
  · obtain ⟨its, r, pl, hz⟩ := I.tuple hq
    refine SeqAt.in_tupleAt (eqU x) pl (fun w hw => mem_eqAt rx fx r fs w (by simpa using hw)) ⟨.bl _, H, I, rfl, ?_⟩
    rw [show its.toArray.any (eqU x) = its.any (eqU x) by simp, any_eqU r fs]
    exact q
theorem call_len_seq : CallR X (.builtin "len") (fun xs H Q => ∃ p ys, xs = [.ref p] ∧ (SqL X.K H p ys ∨ SqT X.K H p ys) ∧ Q (.int ys.length) H) := by
  intro pins s σ H xs us Q I r h
  obtain ⟨p, ys, rfl, hq, q⟩ := h
  obtain ⟨u, rfl, rx⟩ := vals1 r
  cases rx
  have hn := line63
  rcases hq with hq | hq
  · obtain ⟨its, r', pl, hz⟩ := I.list hq
    have hlen := r'.length
    exact Calls.call_len_list pl.isList (by simp only [List.size_toArray] <;> omega) ⟨.int ys.length, H, I.tok _, ⟨s.toks + 1, by rw [List.size_toArray, hlen]⟩, q⟩
  · obtain ⟨its, r', pl, hz⟩ := I.tuple hq
    have hlen := r'.length
    exact len_tuple pl (by simp only [List.size_toArray] <;> omega) ⟨.int ys.length, H, I.tok _, ⟨s.toks + 1, by rw [List.size_toArray, hlen]⟩, q⟩
theorem call_len_str : CallR X (.builtin "len") (fun xs H Q => ∃ z, xs = [.str z] ∧ z.length ≤ sizeLine ∧ Q (.int z.length) H) := by
  intro pins s σ H xs us Q I r h
  obtain ⟨z, rfl, hz, q⟩ := h
  obtain ⟨u, rfl, t, rfl⟩ := vals1 r
  have hn := line63
  exact len_str (by omega) ⟨.int z.length, H, I.tok _, ⟨_, rfl⟩, q⟩
theorem call_list_of : CallR X (.type "list") (fun xs H Q => ∃ p ys, xs = [.ref p] ∧ (SqL X.K H p ys ∨ SqT X.K H p ys) ∧ ∀ l, H l = none → Q (.ref l) (upd H l (.lst ys))) := by
  intro pins s σ H xs us Q I r h
  obtain ⟨p, ys, rfl, hq, q⟩ := h
  obtain ⟨u, rfl, rx⟩ := vals1 r
  cases rx
  have fin : ∀ (its : List Value), Vals ys its → ys.length ≤ sizeLine → ∀ (h' : Heap) (c' : Nat), (∀ b o', s.heap.get? b = some o' → h'.get? b = some o') →
      h'.get? s.heap.objs.size = some { cls := .type "list", dict := none, data := .seq its.toArray c', slots := #[] } → EP X pins σ Q (.ref s.heap.objs.size) { s with heap := h' } := fun its r' hz h' c' kp e =>
    ⟨.ref s.heap.objs.size, _, I.laid (t' := s.toks) kp (Nat.le_refl _) (show ObjOk X.prog X.w _ h' _ (.lst ys) from ⟨hz, its, c', r', e⟩), rfl, q _ (I.hok.fresh (Nat.le_refl _))⟩
  rcases hq with hq | hq
  · obtain ⟨its, r', pl, hz⟩ := I.list hq
    have hlen := r'.length
    obtain ⟨o, ho, hc, n, hd⟩ := pl.isList
    exact call_list_seq p (.inl rfl) ho hc hd (fun h' c' kp e => fin its r' hz h' c' kp e) (by simp only [List.size_toArray] <;> omega)
  · obtain ⟨its, r', pl, hz⟩ := I.tuple hq
    have hlen := r'.length
    obtain ⟨o, ho, hc, n, hd⟩ := pl
    exact call_list_seq p (.inr rfl) ho hc hd (fun h' c' kp e => fin its r' hz h' c' kp e) (by simp only [List.size_toArray] <;> omega)
/-- the value is of that builtin type -/
def tyV (K : PySem.W.Frag) (T : String) (x : V) (H : Hp) : Prop := match x with
  | .str _ => T = "str"
  | .int _ => T = "int"
  | .ref p => (T = "list" ∧ ∃ xs, SqL K H p xs) ∨ (T = "tuple" ∧ ∃ o, K.lookup p = some o ∧ o.cls = .type "tuple" ∧ o.dict = none) ∨
      (T = "dict" ∧ ((∃ kvs, H p = some (.dK kvs)) ∨ ∃ kvs, H p = some (.dT kvs))) ∨ (T = "set" ∧ ∃ S n, H p = some (.set S n))
  | _ => False
theorem tyV_is {pins : List (Addr × Obj)} {σ : St} {H : Hp} {s : Shared} {T : String} {x : V} {v : Value} (I : Inv X pins σ H s) (r : RelV x v) (ty : tyV X.K T x H) :
    s.TypeIs v T ∧ ∀ a, v = .ref a → ∃ ob, s.heap.get? a = some ob ∧ ob.dict = none := by
  cases x with
  | str z =>
    obtain ⟨t, rfl⟩ := r
    cases (show T = "str" from ty)
    exact ⟨typeIs_str s z t, fun _ e => nomatch e⟩
  | int i =>
    obtain ⟨t, rfl⟩ := r
    cases (show T = "int" from ty)
    exact ⟨typeIs_int s i t, fun _ e => nomatch e⟩
  | ref p =>
    cases r
    rcases ty with ⟨rfl, xs, hq⟩ | ⟨rfl, o, hk, hc, hd⟩ | ⟨rfl, hk⟩ | ⟨rfl, S, n, hk⟩
    · obtain ⟨its, _, pl, _⟩ := I.list hq
      refine ⟨pl.isList.typeIs, fun a e => ?_⟩
      cases e
      obtain ⟨o, n, e, c, hd, _⟩ := pl
      exact ⟨o, e, hd⟩
    · refine ⟨⟨o, I.kIn p o hk, hc⟩, fun a e => ?_⟩
      cases e
      exact ⟨o, I.kIn _ o hk, hd⟩
    · have z : ∃ o, s.heap.get? p = some o ∧ o.ExactDict := by
        rcases hk with ⟨kvs, hk⟩ | ⟨kvs, hk⟩
        · obtain ⟨_, _, _, _, o, _, _, e, ex, _⟩ := I.hok p _ hk
          exact ⟨o, e, ex⟩
        · obtain ⟨_, _, _, _, o, _, _, e, ex, _⟩ := I.hok p _ hk
          exact ⟨o, e, ex⟩
      obtain ⟨o, e, ex⟩ := z
      refine ⟨⟨o, e, ex.1⟩, fun a e2 => ?_⟩
      cases e2
      exact ⟨o, e, ex.2.1⟩
    · obtain ⟨o, _, _, _, e, ex, _⟩ := I.hok p _ hk
      refine ⟨⟨o, e, ex.1⟩, fun a e2 => ?_⟩
      cases e2
      exact ⟨o, e, ex.2.1⟩
  | _ => exact False.elim ty
def tBM0 (K : PySem.W.Frag) (T : String) (r : V → List V → Hp → VK → Prop) (to : TE) : TE := fun σ H Q => to σ H fun x H1 => tyV K T x H1 ∧ r x [] H1 Q
def tBM (K : PySem.W.Frag) (T : String) (r : V → List V → Hp → VK → Prop) (to : TE) (t : TA) : TE := fun σ H Q => to σ H fun x H1 => tyV K T x H1 ∧ t σ H1 fun xs H2 => r x xs H2 Q
variable {o e : Expr} {es : List Expr} {to : TE} {t : TA} {name : Str} {apos cpos : Pos} {T id : String} {r : V → List V → Hp → VK → Prop}
theorem pe_bm0 (pa : PlainAttrs T) (slot : Slot T name id) (hty : typeOf (.builtin id) = pure (.type "method_descriptor")) (hm : MtR X id r) (ho : PE X o to)
    (hbase : attributeBase o name X.env (eval o X.env) = eval o X.env := by rfl) (hline : (apos.endLine == cpos.line) = true := by rfl) : PE X (.Call (.Attribute o name apos) [] [] cpos) (tBM0 X.K T r to) := by
  intro pins s σ H Q I h
  refine wpAny_Call_method0_late hbase hline (thn (ho pins s σ H _ I h) fun v s1 ⟨x, H1, I1, r1, ty, q1⟩ => ?_)
  obtain ⟨h1, h2⟩ := tyV_is I1 r1 ty
  exact ⟨T, id, pa, slot, hty, h1, h2, Calls.callWith_builtin rfl (PySem.evalArgs_none (hm pins s1 σ H1 x [] v [] Q I1 r1 .nil q1))⟩
theorem pe_bm (pa : PlainAttrs T) (slot : Slot T name id) (hty : typeOf (.builtin id) = pure (.type "method_descriptor")) (hm : MtR X id r) (ho : PE X o to) (ha : PA X (e :: es) t)
    (hbase : attributeBase o name X.env (eval o X.env) = eval o X.env := by rfl)
    (hfew : ((backTo cpos (starEach (e :: es) X.env)).all (fun x => !x.1) && (backToKw cpos (keywordEach [] X.env)).all (fun x => x.1.isSome)
      && decide ((e :: es).length + ([] : List Keyword).length + (if ([] : List Keyword).isEmpty then 0 else 1) < 30)) = true := by rfl)
    (hline : (apos.endLine == cpos.line) = true := by rfl) (hs : starEach (e :: es) X.env = (false, eval e X.env) :: starEach es X.env := by rfl) (hplain : (backTo cpos (starEach es X.env)).any (·.1) = false := by rfl) :
    PE X (.Call (.Attribute o name apos) (e :: es) [] cpos) (tBM X.K T r to t) := by
  intro pins s σ H Q I h
  refine wpAny_Call_method_late hbase hfew hline rfl (thn (ho pins s σ H _ I h) fun v s1 ⟨x, H1, I1, r1, ty, q1⟩ => ?_)
  obtain ⟨h1, h2⟩ := tyV_is I1 r1 ty
  refine ⟨T, id, pa, slot, hty, h1, h2, ?_⟩
  have hA := ha cpos pins s1 σ H1 _ I1 q1
  rw [hs] at hA ⊢
  refine Calls.callWith_builtin (by show (false || (backTo cpos (starEach es X.env)).any (·.1)) = false; rw [hplain] <;> rfl) (Calls.evalArgs_plain ?_)
  exact thn hA fun us s2 ⟨vs, H2, I2, r2, q2⟩ => hm pins s2 σ H2 x vs v us Q I2 r1 r2 q2
/- xs.append(e), list.index on a module's tuple .. are MtR facts of 06m -/
end
end L2

namespace L2
open PySem PySem.Spec PyProof.Rows

def MtM (X : Cx) (id : String) (r : V → List V → Hp → VK → Prop) : Prop :=
  ∀ (pins : List (Addr × Obj)) (s : Shared) (σ : St) (H : Hp) (x : V) (xs : List V) (v : Value) (us : List Value) (Q : VK), Inv X pins σ H s → RelV x v → Vals xs us → r x xs H Q →
    wpAny (model X.prog X.w) X.A (call (.builtin id) (v :: us)) (EP X pins σ Q) X.xe s

theorem Vals.one : ∀ {x : V} {us : List Value}, Vals [x] us → ∃ u, us = [u] ∧ RelV x u
  | _, _, .cons r .nil => ⟨_, rfl, r⟩
theorem Vals.zero : ∀ {us : List Value}, Vals [] us → us = []
  | _, .nil => rfl
theorem Vals.dropLast {xs : List V} {us : List Value} (h : Vals xs us) : Vals xs.dropLast us.dropLast := by
  induction h with
  | nil => exact .nil
  | cons r t ih =>
    cases t with
    | nil => exact .nil
    | cons q t' => exact .cons r ih
theorem erase_last {α : Type} (l : List α) : l.eraseIdx (l.length - 1) = l.dropLast := by
  induction l with
  | nil => rfl
  | cons a r ih =>
    cases r with
    | nil => rfl
    | cons b r =>
      have e : (a :: b :: r).length - 1 = ((b :: r).length - 1) + 1 := by
        have h1 : (a :: b :: r).length = r.length + 2 := rfl
        have h2 : (b :: r).length = r.length + 1 := rfl
        omega
      rw [e, List.eraseIdx_cons_succ, ih]
      all_goals rfl
section
variable {X : Cx} {pins : List (Addr × Obj)} {σ : St} {H : Hp} {s : Shared} {l b : Addr} {xs ys zs : List V}

theorem Inv.lset {its its' : List Value} {n : Nat} {f : Array Value → Array Value} {t' : Nat} (I : Inv X pins σ H s) (hH : H l = some (.lst xs))
    (e : s.heap.get? l = some { cls := .type "list", data := .seq its.toArray n }) (hf : f its.toArray = its'.toArray) (hv : Vals ys its') (hz : ys.length ≤ sizeLine) :
    Inv X pins σ (upd H l (.lst ys)) { s with heap := s.heap.update l (Obj.mapSeq f), toks := t' } := by
  have q := PySem.IsL.update e f
  rw [hf] at q
  refine I.write (x := l) (e := l) (by rw [hH]; exact trivial) (.inl rfl) (fun b' u hb hu => (Heap.get?_update_other s.heap (Obj.mapSeq f) (Ne.symm hb)).trans hu) ⟨_, q⟩ ?_
  exact ⟨hz, its', _, hv, q⟩
theorem Inv.lnew {its : List Value} {t' : Nat} (I : Inv X pins σ H s) (hv : Vals ys its) (hz : ys.length ≤ sizeLine) :
    Inv X pins σ (upd H s.heap.objs.size (.lst ys)) { s with heap := s.heap.push { cls := .type "list", data := .seq its.toArray }, toks := t' } :=
  I.laid (fun _ _ q => Heap.get?_push_of_some _ q) (Nat.le_refl _) ⟨hz, its, 0, hv, Heap.get?_push_size _ rfl⟩
theorem Inv.fresh (I : Inv X pins σ H s) : H s.heap.objs.size = none := I.hok.fresh (Nat.le_refl _)
theorem Inv.lstM (I : Inv X pins σ H s) (hH : H l = some (.lst xs)) : xs.length ≤ sizeLine ∧ ∃ (its : List Value) (n : Nat), Vals xs its ∧ xs.length = its.length ∧ s.heap.get? l = some { cls := .type "list", data := .seq its.toArray n } := by
  obtain ⟨z, its, n, r, e⟩ := I.hok l _ hH
  exact ⟨z, its, n, r, r.length, e⟩

theorem notLongL {n : Nat} (h : n ≤ sizeLine) : Builtin.List.listTooLong n = false := by
  unfold Builtin.List.listTooLong
  exact decide_eq_false (by omega)
end

section
variable {X : Cx}

def rAppend : V → List V → Hp → VK → Prop := fun x vs H Q => ∃ l xs y, x = .ref l ∧ vs = [y] ∧ H l = some (.lst xs) ∧ xs.length < sizeLine ∧ Q .non (upd H l (.lst (xs ++ [y])))
theorem mt_append : MtM X "list.append" rAppend := by
  intro pins s σ H x vs v us Q I rx rv h
  obtain ⟨l, xs, y, rfl, rfl, hH, hz, q⟩ := h
  cases rx
  obtain ⟨u, rfl, ru⟩ := rv.one
  obtain ⟨z, its, n, r, hl, e⟩ := I.lstM hH
  refine call_meets F.slot_list_append ⟨_, e, rfl⟩ F.entry_list_append (F.args_list_append_2 _ _) (PySem.list_append l its.toArray n u (by rw [List.size_toArray]; omega)) ⟨e, ?_⟩
  refine ⟨.non, _, I.lset (its' := its ++ [u]) hH e (by simp) (r.append (.cons ru .nil)) ?_, rfl, q⟩
  rw [List.length_append, List.length_singleton]
  omega

def rExtend : V → List V → Hp → VK → Prop := fun x vs H Q => ∃ l b xs zs, x = .ref l ∧ vs = [.ref b] ∧ H l = some (.lst xs) ∧ H b = some (.lst zs) ∧ xs.length + zs.length ≤ sizeLine ∧ Q .non (upd H l (.lst (xs ++ zs)))
theorem mt_extend : MtM X "list.extend" rExtend := by
  intro pins s σ H x vs v us Q I rx rv h
  obtain ⟨l, b, xs, zs, rfl, rfl, hH, hB, hz, q⟩ := h
  cases rx
  obtain ⟨u, rfl, ru⟩ := rv.one
  cases ru
  obtain ⟨z, its, n, r, hl, e⟩ := I.lstM hH
  obtain ⟨z2, its2, n2, r2, hl2, e2⟩ := I.lstM hB
  have hsz : its.toArray.size + its2.toArray.size ≤ sizeLine := by rw [List.size_toArray, List.size_toArray]; omega
  have hlong : ¬ (!its.toArray.isEmpty && Builtin.List.listTooLong (its.toArray.size + its2.toArray.size)) = true := by
    rw [notLongL hsz, Bool.and_false]
    exact Bool.false_ne_true
  refine call_meets F.slot_list_extend ⟨_, e, rfl⟩ F.entry_list_extend (F.args_list_extend_2 _ _)
    (AutoSeq1.list_extend_list_list_0 l its.toArray n b its2.toArray n2 hlong (by rw [List.size_toArray]; omega) (by omega)) ⟨e, e2, ?_⟩
  refine ⟨.non, _, I.lset (its' := its ++ its2) hH e (by simp) (r.append r2) ?_, rfl, q⟩
  rw [List.length_append]
  omega

def rPop : V → List V → Hp → VK → Prop := fun x vs H Q => ∃ l xs y, x = .ref l ∧ vs = [] ∧ H l = some (.lst xs) ∧ xs[xs.length - 1]? = some y ∧ Q y (upd H l (.lst xs.dropLast))
theorem mt_pop : MtM X "list.pop" rPop := by
  intro pins s σ H x vs v us Q I rx rv h
  obtain ⟨l, xs, y, rfl, rfl, hH, hy, q⟩ := h
  cases rx
  have hus := rv.zero
  subst hus
  obtain ⟨z, its, n, r, hl, e⟩ := I.lstM hH
  obtain ⟨u, hu, ru⟩ := r.get hy
  have hy' : its.toArray[its.toArray.size - 1]? = some u := by
    show its.toArray[its.length - 1]? = some u
    rw [← Array.getElem?_toList, ← hl]
    exact hu
  refine call_meets F.slot_list_pop ⟨_, e, rfl⟩ F.entry_list_pop (F.args_list_pop_1 _) (MeetsSeq.list_pop_last l its.toArray n u hy' (by rw [List.size_toArray]; omega)) ⟨e, ?_⟩
  refine ⟨y, _, I.lset (its' := its.dropLast) hH e ?_ r.dropLast ?_, ru, q⟩
  · show its.toArray.eraseIdxIfInBounds (its.toArray.size - 1) = its.dropLast.toArray
    rw [List.size_toArray, List.eraseIdxIfInBounds_toArray, erase_last]
  · rw [List.length_dropLast]
    omega

def rCat : R2 := fun x y H Q => ∃ l b xs zs, x = .ref l ∧ y = .ref b ∧ H l = some (.lst xs) ∧ H b = some (.lst zs) ∧ xs.length + zs.length ≤ sizeLine ∧ ∀ p, H p = none → Q (.ref p) (upd H p (.lst (xs ++ zs)))
theorem op_cat : OpR X (binaryOp .Add) rCat := by
  intro pins s σ H x y v u Q I rx ry h
  obtain ⟨l, b, xs, zs, rfl, rfl, hH, hB, hz, q⟩ := h
  cases rx
  cases ry
  obtain ⟨z, its, n, r, hl, e⟩ := I.lstM hH
  obtain ⟨z2, its2, n2, r2, hl2, e2⟩ := I.lstM hB
  refine PySem.P.add_list e e2 ?_ (by rw [List.size_toArray, List.size_toArray]; omega)
  have ea : its.toArray ++ its2.toArray = (its ++ its2).toArray := by simp
  rw [ea]
  exact ⟨.ref _, _, I.lnew (t' := s.toks) (r.append r2) (by rw [List.length_append]; omega), rfl, q _ I.fresh⟩
end

section
variable {prog : Program} {w : World} {A : Around} {E : Value → Shared → Prop} {s : Shared}
set_option maxRecDepth 100000 in
end

section
variable {X : Cx}
end
end L2

namespace Att
open PySem PySem.W PySem.Calls PyProof.Rows

theorem ints_of_wellAll {P : Params} {h : Heap} : ∀ (ns : List Int) (vs : List Value), WellAll P h vs (ns.map WData.int) → IntsAre vs ns := by
  intro ns
  induction ns with
  | nil =>
    intro vs w
    rw [List.map_nil] at w
    cases w
    exact .nil
  | cons n ns ih =>
    intro vs w
    rw [List.map_cons] at w
    cases w with
    | cons a b =>
      cases a
      exact .cons _ _ (ih _ b)

theorem script_of {l : OpenLaw} {n : Nat} (hn : l.most = some n) {P : Params} {h : Heap} {args : List WData} {vals : List Value}
    (hpre : l.row.toRowW.claim.pre args = true) (hwl : WellAll P h vals args) :
    ∃ a vs ns, vals = [Value.ref a] ∧ args = [WData.list (ns.map WData.int)] ∧ h.get? a = some { cls := .type "list", data := .seq vs.toArray } ∧ IntsAre vs ns ∧ ns.length ≤ n := by
  have hsh : WShape.hasAll [] args [.list .int] = true := (pre_splitW hpre).1
  have hc : l.pre.holds [] { args := args } = true := (pre_splitW hpre).2
  obtain ⟨d, r, rfl, h1, h2⟩ := hasAllW_cons hsh
  obtain rfl := hasAllW_nil h2
  obtain ⟨xs, rfl, h3⟩ := hasW_list h1
  obtain ⟨ns, rfl⟩ := items_int h3
  have hlen : ns.length ≤ n := by
    unfold OpenLaw.pre at hc
    have h4 : (WTm.not (.lt (.lit (.int (n : Int))) (.len (.arg 0)))).holds [] { args := [.list (ns.map .int)] } = true := by
      have h4 := (holds_andW hc).1
      rw [hn] at h4
      exact h4
    have h5 := condW_of h4 (w_not (w_lt w_lit (w_len_list (w_arg rfl))))
    rw [List.length_map] at h5
    refine Nat.le_of_not_lt fun q => ?_
    have q' : (n : Int) < ((ns.length : Nat) : Int) := by omega
    first
      | (rw [decide_eq_true q'] at h5; exact absurd h5 (by decide))
      | (simp at h5; omega)
  cases hwl with
  | cons w1 w2 =>
    cases w2
    cases w1 with
    | list ho hall => exact ⟨_, _, ns, rfl, rfl, ho, ints_of_wellAll ns _ hall, hlen⟩

theorem post_true (l : OpenLaw) (args : List WData) : l.row.toRowW.claim.post args (.bool true) args = true :=
  postW_of (r := l.row.toRowW) (X := (true == true))
    (show WShape.has [] (.bool true) .bool = true by first | rfl | decide | simp [WShape.has, WShape.arms, WShape.armsAll])
    (show (WTm.eq .res (.lit (.bool true))).value [] { args := args, res := some (.bool true), after := args } = some (.bool (true == true)) from w_eq_bool (w_res rfl) w_lit) rfl

/-- the same from a codeAny of the CALL (for a layer whose function contracts speak of calls) -/
theorem attach_call {l : OpenLaw} {n : Nat} {q : Program} {loose : List Str} {XP : (Str → Option Value) → Heap → Prop} {YP : World → Heap → Prop} {d : DefRec}
    (hn : l.most = some n) (hdf : d.params.defaults = [])
    (call : ∀ (w : World) (s₀ s₁ : Shared) (mg mb : Str → Option Value) (fa : Addr) (o : Obj) (pm cd doc : Value) (a : Addr) (vs : List Value) (ns : List Int),
      Ground q loose [] XP w s₀ mg mb s₁.heap → YP w s₁.heap →
      s₁.heap.get? fa = some o → o.data = .func (docDef d.name d.params d.body d.scope pm cd doc) → s₁.heap.CodeRec cd d.name → mg d.name = some (.ref fa) →
      s₁.heap.get? a = some { cls := .type "list", data := .seq vs.toArray } → IntsAre vs ns → ns.length ≤ n → s₁.gens = #[] →
      codeAny (model l.prog w) callerA (.call (.ref fa) ⟨[.ref a], []⟩) (fun r s' => r = .ok (.ret (.bool true)) ∧ OldK s₁.heap s'.heap ∧ s'.os = s₁.os ∧ AllBare s'.gens) s₁) :
    WalkO q loose XP YP l.row.toRowW d [] (fun f vs => PySem.call f vs) := by
  intro w s₀ s₁ mg mb G Y fa o pm cd doc dV kV ho hd hcd hD hmg hg args vals as hpre hlay hrd hwl hlo
  obtain rfl : dV = .none := Dflts.none hD hdf
  obtain rfl : kV = .none := Dflts.noKw hD
  obtain ⟨a, vs, ns, rfl, rfl, hobj, hints, hlen⟩ := script_of hn hpre hwl
  refine enter_call (codeAny_mono (call w s₀ s₁ mg mb fa o pm cd doc a vs ns G Y ho (fd_plain hd) hcd hmg hobj hints hlen hg) fun r s' hq => ?_)
  obtain ⟨rfl, h2, h3, h4⟩ := hq
  exact ⟨.inl ⟨.bool true, .bool true, [], rfl, fun _ => rfl, .bool true, post_true l _, fun _ => ⟨List.Pairwise.nil, fun _ hm => (nomatch hm)⟩⟩, h2, h3, h4⟩

section
variable {prog : Program} {w : World} {A : Around} {E : Value → Shared → Prop} {s : Shared} {K : Frag}

end
end Att

namespace L2
open PySem PySem.Spec PyProof.Rows

theorem vals_ints : ∀ {vs : List Value} {ns : List Int}, IntsAre vs ns → Vals (ns.map V.int) vs
  | _, _, .nil => .nil
  | _, _, .cons n t h => .cons ⟨t, rfl⟩ (vals_ints h)

/-- nothing is tracked but the script, known to the object (or it is an object of the module) -/
def Only (H : Hp) : Prop := ∀ b, H b = none ∨ ∃ o xs, H b = some (.frz o (.lst xs))

/-- THE HEAD: the law's promise, at the heap behind the top. F, the promise of the law's def, may use that base is part of the heap (so K.In base, base.Ns mainGlobals mg stand in Mod) -/
theorem law_call {P : Program} {w : World} {K : PySem.W.Frag} {mg mb : Str → Option Value} {CX : CXT} {k : Nat} {fa a : Addr} {fd : FuncData} {x : Str} {sp : Sp} {s₁ : Shared} {vs : List Value} {ns : List Int}
    (KX : K.In s₁.heap) (hns : s₁.heap.Ns mainGlobals mg) (hb : s₁.heap.Ns builtinsNs mb) (hbb : ∀ x : Str, x ≠ "__name__" → mb x = bootBuiltins x) (hlim : s₁.heap.NoLimit) (hg : s₁.gens = #[])
    (ha : s₁.heap.get? a = some { cls := .type "list", data := .seq vs.toArray }) (hi : IntsAre vs ns) (hl : ns.length ≤ sizeLine) (hr : Room k callerA)
    (F : ∀ base : Heap, K.In base → base.Ns mainGlobals mg → FnOk P w K mg base CX k fa fd [x] sp) (hbind : ∀ (s : Shared) (u : Value), BindsTo s fd ⟨[u], []⟩ [(x, u)])
    (hsp : ∀ H : Hp, Only H → SqL K H a (ns.map V.int) → sp [.ref a] H (fun v _ => v = .bl true) fun _ _ _ => False)
    (hCX : ∀ H e s', CX [] H s₁ (fun _ _ _ => False) e s' → False) :
    codeAny (model P w) callerA (.call (.ref fa) ⟨[.ref a], []⟩) (fun r s' => r = .ok (.ret (.bool true)) ∧ OldK s₁.heap s'.heap ∧ s'.os = s₁.os ∧ AllBare s'.gens) s₁ := by
  have rv := vals_ints hi
  have lenV := hi.length
  -- from an abstract heap in which nothing but the script may be tracked
  have core : ∀ H : Hp, Only H → SqL K H a (ns.map V.int) → HOk P w H s₁.heap → (∀ b, H b ≠ none → b = a) → (H a ≠ none → K.lookup a = none) →
      codeAny (model P w) callerA (.call (.ref fa) ⟨[.ref a], []⟩) (fun r s' => r = .ok (.ret (.bool true)) ∧ OldK s₁.heap s'.heap ∧ s'.os = s₁.os ∧ AllBare s'.gens) s₁ := by
    intro H hO hS hok hA hK
    have base_of : ∀ {b : Addr} {o : Obj}, s₁.heap.get? b = some o → H b = none → (hidT s₁.heap H).get? b = some o := fun e n => hidT_get e n
    have noA : ∀ {b : Addr} {o : Obj} {es : Array DictEntry} {ep : Nat}, s₁.heap.get? b = some o → o.data = .dict es ep → H b = none := fun {b o es ep} e d => by
      cases q : H b with
      | none => rfl
      | some u =>
        have e' : b = a := hA b (by rw [q]; simp)
        subst e'
        rw [ha] at e; cases e
        have d' : Data.seq vs.toArray _ = Data.dict es ep := d
        cases d'
    have nsK : ∀ {b : Addr} {m : Str → Option Value}, s₁.heap.Ns b m → (hidT s₁.heap H).Ns b m := fun {b m} ⟨o, es, ep, e, d, r⟩ => ⟨o, es, ep, base_of e (noA e d), d, r⟩
    have hKb : K.In (hidT s₁.heap H) := fun b o e => base_of (KX b o e) (by
      cases q : H b with
      | none => rfl
      | some u =>
        have e' : b = a := hA b (by rw [q]; simp)
        subst e'
        rw [hK (by rw [q]; simp)] at e; cases e)
    have hM : Mod K mg (hidT s₁.heap H) := ⟨hKb, nsK hns, ⟨mb, nsK hb, hbb⟩, let ⟨mc, h1, h2⟩ := hlim; ⟨mc, nsK h1, h2⟩⟩
    have e0 : Env0 P w K mg (hidT s₁.heap H) callerA [] s₁ H := ⟨rfl, hM, fun b o e => of_hidT e, Nat.le_of_eq (hidT_size _ _), trivial, fun b hb => absurd (show b ∈ ([] : List Addr) from hb) (by simp), hok, .of_eq hg⟩
    refine codeAny_mono ((F _ hKb (nsK hns)).run callerA [] s₁ H ⟨[.ref a], []⟩ [.ref a] [.ref a] _ _ hr e0 (hbind s₁ (.ref a)) (.cons rfl .nil) (hsp H hO hS)) fun r s' h => ?_
    cases r with
    | error e => exact (hCX H e s' h).elim
    | ok fl =>
      cases fl with
      | next => exact False.elim h
      | brk => exact False.elim h
      | cont => exact False.elim h
      | ret u =>
        obtain ⟨v, H', os, bare, un, hok', r', q⟩ := h
        have q' : v = .bl true := q
        subst q'
        obtain rfl : u = Value.bool true := r'
        refine ⟨rfl, OldK.of_keep fun b o e => ?_, os, bare⟩
        cases q : H b with
        | none => exact un.keep b o e q (by intro z; exact absurd (show b ∈ ([] : List Addr) from z) (by simp)) (by simp)
        | some u =>
          rcases hO b with z | ⟨ob, xs, z⟩
          · rw [q] at z; cases z
          · have z2 := un.frzs b ob _ z
            obtain ⟨e1, _⟩ := hok b _ z
            obtain ⟨e2, _⟩ := hok' b _ z2
            rw [e] at e1; cases e1
            exact e2
  cases hk : K.lookup a with
  | some o =>
    -- the script is one of the module's own objects
    have e := KX a o hk
    rw [ha] at e
    cases e
    refine core (fun _ => none) (fun _ => .inl rfl) (.inr ⟨_, vs.toArray, _, hk, rfl, rfl, rfl, by rw [List.size_toArray, lenV]; exact hl, by simpa using rv⟩) (fun b u z => by have z' : (none : Option HO) = some u := z; cases z') (fun b z => absurd rfl z) fun z => absurd rfl z
  | none =>
    refine core (fun b => if b = a then some (.frz { cls := .type "list", data := .seq vs.toArray } (.lst (ns.map V.int))) else none) (fun b => ?_) (.inl (.inr ⟨{ cls := .type "list", data := .seq vs.toArray }, if_pos rfl⟩)) (fun b u z => ?_) (fun b z => ?_) fun _ => hk
    · by_cases hb : b = a
      · exact .inr ⟨_, _, if_pos hb⟩
      · exact .inl (if_neg hb)
    · by_cases hb : b = a
      · have z' := (if_pos hb).symm.trans z
        cases z'
        subst hb
        exact ⟨ha, by rw [List.length_map]; exact hl, vs, _, rv, ha⟩
      · have z' := (if_neg hb).symm.trans z
        cases z'
    · by_cases hb : b = a
      · exact hb
      · exact absurd (if_neg hb) z
end L2

namespace L2
open PySem PySem.Spec PyProof.Rows

abbrev KOf {K : PySem.W.Frag} {h : Heap} (_ : K.In h) : PySem.W.Frag := K

/-- the goal that k_head leaves (case hc), from the law's promise. F gives the function object fd (K's own) once, then the promise over every base -/
theorem walk_of {l : PySem.W.OpenLaw} {n k : Nat} {q : Program} {loose : List Str} {XP : (Str → Option Value) → Heap → Prop} {YP : World → Heap → Prop} {d : DefRec} {K : Params → PySem.W.Frag} {CX : World → CXT} {sp : World → Sp} {x : Str}
    (hn : l.most = some n) (hn2 : n ≤ sizeLine) (hdf : d.params.defaults = []) (hr : Room k callerA)
    (hY : ∀ (w : World) (h : Heap), YP w h → (K w.params).In h)
    (F : ∀ (w : World) (mg : Str → Option Value) (fa : Addr) (h : Heap), (K w.params).In h → h.Ns mainGlobals mg → mg d.name = some (.ref fa) →
      ∃ fd : FuncData, (∀ (s : Shared) (u : Value), BindsTo s fd ⟨[u], []⟩ [(x, u)]) ∧
        ∀ base : Heap, (K w.params).In base → base.Ns mainGlobals mg → FnOk l.prog w (K w.params) mg base (CX w) k fa fd [x] (sp w))
    (hsp : ∀ (w : World) (H : Hp) (a : Addr) (ns : List Int), ns.length ≤ n → Only H → SqL (K w.params) H a (ns.map V.int) → sp w [.ref a] H (fun v _ => v = .bl true) fun _ _ _ => False)
    (hCX : ∀ (w : World) (H : Hp) (s : Shared) (e : Value) (s' : Shared), CX w [] H s (fun _ _ _ => False) e s' → False) :
    PySem.W.WalkO q loose XP YP l.row.toRowW d [] (fun f vs => PySem.call f vs) := by
  refine Att.attach_call hn hdf fun w s₀ s₁ mg mb fa o pm cd doc a vs ns G Y ho hd hcd hmg hobj hints hlen hg => ?_
  have KX := hY w _ Y
  obtain ⟨fd, hb, hF⟩ := F w mg fa _ KX G.T.g hmg
  exact law_call KX G.T.g G.T.b G.T.builtins G.T.nolimit hg hobj hints (Nat.le_trans hlen hn2) hr hF hb (fun H hO hS => hsp w H a ns hlen hO hS) fun H e s' => hCX w H s₁ e s'
end L2

/- THE LAST THEOREM (shape; LID, My.* are yours):
   My.Adr: a structure of the addresses that your layer names (classes, functions); My.Txt K t: a structure (Prop) of the equations over K;
   My.txt_mk : {K} {implicit addresses ..} (e1 : nsIn K mainGlobals "law" = some (some (.ref f))) (e2 : K.lookup f = some ⟨oc, od, .func (fnOf "law" "law" params body scope dV kV doc pm an cdv ct), sl⟩) (e3 : codeIn K cdv "law" = true) .. : ∃ t, My.Txt K t

set_option maxRecDepth 100000 in
set_option maxHeartbeats 0 in
theorem PySem.Challenge.cw_LID_holds : PySem.Challenge.rw_LID.Holds := by
  w_on; o_law; k_head; (case hw => w_witness2)
  k_fill
  refine L2.walk_of (l := PySem.Challenge.rw_LID) (n := 63) (k := 40) (x := "script") (CX := fun w => ..) (sp := fun _ => My.sp_law) rfl (by decide) rfl ⟨rfl, by decide, by decide⟩ (fun w h Y => PySem.W.kIn_of Y) ?F ?S ?C
  case F =>
    intro w mg fa h KX G hmg
    have T : ∃ t, My.Txt (L2.KOf KX) t := by
      dsimp only [L2.KOf]                          -- K must stand as «<heap const> w.params» for k_is
      refine' My.txt_mk ?e1 ?e2 ?e3 ..
      (case e1 => PySem.W.k_is)                    -- in the order: a name -> its address -> its object -> its parts
      (case e2 => PySem.W.k_is)
      ..
    obtain ⟨t, T⟩ := T
    have e0 := hmg.symm.trans (PySem.W.mg_of KX G T.law)
    cases e0                                       -- fa is the law's own address
    exact ⟨_, fun s u => .of_eq rfl, fun base kb nb => My.law_fn T kb nb⟩     -- if «.of_eq rfl» comes too early: refine' ⟨_, ?b, fun base kb nb => My.law_fn T kb nb⟩; exact fun s u => .of_eq rfl
  case S => exact fun w H a ns hl hO hS => ..
  case C => exact ..
(the tactic k_is has no namespace: write k_is) -/

namespace L2
open PySem PySem.Spec PyProof.Rows

/-- the j-th statement of a class's body -/
def inClass (s : Stmt) (j : Nat) : Stmt := match s with
  | .ClassDef _ _ _ body _ _ _ _ _ _ _ => body.getD j (.Pass ⟨0, 0, 0, 0⟩)
  | _ => .Pass ⟨0, 0, 0, 0⟩
def defArgs (s : Stmt) : Arguments := match s with
  | .FunctionDef _ a _ _ _ _ _ _ _ _ => a
  | _ => { posonlyargs := [], args := [], vararg := none, kwonlyargs := [], kw_defaults := [], kwarg := none, defaults := [] }
def defBody (s : Stmt) : List Stmt := match s with
  | .FunctionDef _ _ b _ _ _ _ _ _ _ => b
  | _ => []
def defScope (s : Stmt) : Scope := match s with
  | .FunctionDef _ _ _ _ _ _ sc _ _ _ => sc
  | _ => { kind := .function, names := [], isGenerator := false, isCoroutine := false }

abbrev E0 : XK := fun _ _ _ => False
structure Fun (K : PySem.W.Frag) (x qual : Str) (st : Stmt) (f : Addr) (fd : FuncData) : Prop where
  ex : ∃ (oc : Value) (od : Option Addr) (kV doc pm : Value) (an : Option Addr) (cdv ct : Value) (osl : Array (Option Value)),
    fd = PySem.W.fnOf x qual (defArgs st) (defBody st) (defScope st) .none kV doc pm an cdv ct ∧ K.lookup f = some ⟨oc, od, .func fd, osl⟩ ∧ PySem.W.codeIn K cdv qual = true
  kp : PySem.W.keepIn K (.ref f) = true
section
variable {P : Program} {w : World} {K : PySem.W.Frag} {mg : Str → Option Value} {base : Heap}
/-- how its arguments bind (no defaults): h is «fun _ _ _ _ _ _ us hl => match us, hl with | [_, _], _ => rfl», one _ a parameter -/
theorem Fun.binds {x qual : Str} {st : Stmt} {f : Addr} {fd : FuncData} {ps : List Str} (F : Fun K x qual st f fd)
    (h : ∀ (kV doc pm : Value) (an : Option Addr) (cdv ct : Value) (us : List Value), us.length = ps.length → bindArgs (PySem.W.fnOf x qual (defArgs st) (defBody st) (defScope st) .none kV doc pm an cdv ct) ⟨us, []⟩ = pure (ps.zip us)) : Binds K fd ps [] := by
  obtain ⟨oc, od, kV, doc, pm, an, cdv, ct, osl, rfl, lk, hcd⟩ := F.ex
  exact .all (h kV doc pm an cdv ct)
end
section
variable {X : Cx}
theorem pv (i : Nat) {x : Str} {pos : Pos} (hN : X.N[i]? = some x := by rfl) (hv : Vis X.env.scope x := by first | exact Or.inl rfl | exact Or.inr (Or.inl rfl) | exact Or.inr (Or.inr rfl)) (hd : (x == ("__debug__" : Str)) = false := by decide)
    (hcd : (x == ("__classdict__" : Str)) = false := by decide) : PE X (.Name x pos) (tVar i) := pe_var hN hv hd hcd
end

/-- all that was tracked is as it was -/
def Same (H H' : Hp) : Prop := ∀ b o, H b = some o → H' b = some o
theorem Same.refl (H : Hp) : Same H H := fun _ _ h => h
theorem Same.trans {H H1 H2 : Hp} (a : Same H H1) (b : Same H1 H2) : Same H H2 := fun c o h => b c o (a c o h)
theorem Same.seq {K : PySem.W.Frag} {H H' : Hp} {a : Addr} {xs : List V} (e : Same H H') (h : SqL K H a xs) : SqL K H' a xs := by
  rcases h with (h | ⟨o, h⟩) | h
  · exact .inl (.inl (e _ _ h))
  · exact .inl (.inr ⟨o, e _ _ h⟩)
  · exact .inr h

end L2

set_option Elab.async false
set_option linter.all false
set_option maxRecDepth 100000
set_option maxHeartbeats 4000000
namespace L2
open PySem PySem.Spec PyProof.Rows

section
variable {κ : Type} [DecidableEq κ]
def valV (kvs : List (κ × V)) (k : κ) : Option V := (kvs.find? fun kv => decide (kv.1 = k)).map (·.2)
/-- in its place, or at the end -/
def putK (kvs : List (κ × V)) (k : κ) (v : V) : List (κ × V) :=
  if (kvs.any fun kv => decide (kv.1 = k)) = true then kvs.map (fun kv => if kv.1 = k then (kv.1, v) else kv) else kvs ++ [(k, v)]
theorem valV_pos {p : κ × V} {r : List (κ × V)} {k : κ} (e : p.1 = k) : valV (p :: r) k = some p.2 := by simp [valV, List.find?_cons, e]
theorem valV_neg {p : κ × V} {r : List (κ × V)} {k : κ} (e : ¬ p.1 = k) : valV (p :: r) k = valV r k := by simp [valV, List.find?_cons, e]
theorem valV_any (k : κ) : ∀ kvs : List (κ × V), (kvs.any fun kv => decide (kv.1 = k)) = (valV kvs k).isSome
  | [] => rfl
  | p :: r => by
    rw [List.any_cons]
    by_cases e : p.1 = k
    · simp only [valV_pos e, decide_eq_true e, Bool.true_or, Option.isSome_some]
    · rw [valV_neg e, decide_eq_false e, Bool.false_or]; exact valV_any k r
theorem valV_map (k j : κ) (y : V) : ∀ kvs : List (κ × V), valV (kvs.map fun kv => if kv.1 = k then (kv.1, y) else kv) j = (valV kvs j).map fun x => if j = k then y else x
  | [] => rfl
  | p :: r => by
    have ih := valV_map k j y r
    rw [List.map_cons]
    by_cases h : p.1 = k
    · rw [if_pos h]
      by_cases e : p.1 = j
      · rw [valV_pos (p := (p.1, y)) e, valV_pos e, Option.map_some, if_pos (e.symm.trans h)]
      · rw [valV_neg (p := (p.1, y)) e, valV_neg e, ih]
    · rw [if_neg h]
      by_cases e : p.1 = j
      · rw [valV_pos (p := p) e, valV_pos e, Option.map_some, if_neg (fun z => h (e.trans z))]
      · rw [valV_neg (p := p) e, valV_neg e, ih]
theorem valV_snoc (k j : κ) (y : V) : ∀ kvs : List (κ × V), valV kvs k = none → valV (kvs ++ [(k, y)]) j = if j = k then some y else valV kvs j
  | [], _ => by
    by_cases e : k = j
    · rw [if_pos e.symm]; exact valV_pos (p := (k, y)) e
    · rw [if_neg (fun z => e z.symm)]; exact valV_neg (p := (k, y)) e
  | p :: r, hn => by
    rw [List.cons_append]
    have hk : ¬ p.1 = k := fun z => by rw [valV_pos z] at hn; cases hn
    rw [valV_neg hk] at hn
    have ih := valV_snoc k j y r hn
    by_cases e : p.1 = j
    · rw [valV_pos e, valV_pos e, if_neg (fun z => hk (e.trans z))]
    · rw [valV_neg e, valV_neg e, ih]
theorem valV_put (kvs : List (κ × V)) (k j : κ) (y : V) : valV (putK kvs k y) j = if j = k then some y else valV kvs j := by
  unfold putK
  by_cases a : (kvs.any fun kv => decide (kv.1 = k)) = true
  · rw [if_pos a, valV_map]
    rw [valV_any] at a
    by_cases e : j = k
    · obtain ⟨x, hx⟩ := Option.isSome_iff_exists.mp a
      rw [if_pos e, e, hx, Option.map_some, if_pos rfl]
    · rw [if_neg e]
      cases valV kvs j with
      | none => rfl
      | some x => rw [Option.map_some, if_neg e]
  · rw [if_neg a]
    refine valV_snoc k j y kvs ?_
    rw [valV_any] at a
    cases q : valV kvs k with
    | none => rfl
    | some x => rw [q] at a; exact (a rfl).elim
theorem length_putK (kvs : List (κ × V)) (k : κ) (v : V) : (putK kvs k v).length ≤ kvs.length + 1 := by
  unfold putK
  split
  · rw [List.length_map]; omega
  · rw [List.length_append, List.length_cons, List.length_nil]; omega
theorem RelO.isSome_eq {o : Option V} {u : Option Value} (r : RelO o u) : o.isSome = u.isSome := by
  cases o with
  | none => cases u with
    | none => rfl
    | some _ => exact (show False from r).elim
  | some _ => cases u with
    | none => exact (show False from r).elim
    | some _ => rfl
theorem RelO.getD {o : Option V} {u : Option Value} {d : V} {d' : Value} (r : RelO o u) (rd : RelV d d') : RelV (o.getD d) (u.getD d') := by
  cases o with
  | none => cases u with
    | none => exact rd
    | some _ => exact (show False from r).elim
  | some _ => cases u with
    | none => exact (show False from r).elim
    | some _ => exact r

/-- raw tables of the same keys -/
theorem KV.val {kvs : List (κ × V)} {vs : List (κ × Value)} (r : KV kvs vs) (k : κ) : RelO (valV kvs k) (valueAt vs k) := by
  unfold KV at r
  induction r with
  | nil => exact True.intro
  | @cons p q ps qs h t ih =>
    obtain ⟨h1, h2⟩ := h
    by_cases e : p.1 = k
    · have e' : q.1 = k := h1.symm.trans e
      have b : valueAt (q :: qs) k = some q.2 := by simp [valueAt, List.find?_cons, e']
      rw [valV_pos e, b]; exact h2
    · have e' : ¬ q.1 = k := fun z => e (h1.trans z)
      have b : valueAt (q :: qs) k = valueAt qs k := by simp [valueAt, List.find?_cons, e']
      rw [valV_neg e, b]; exact ih
theorem KV.any {kvs : List (κ × V)} {vs : List (κ × Value)} (r : KV kvs vs) (k : κ) : (kvs.any fun kv => decide (kv.1 = k)) = vs.any fun kv => decide (kv.1 = k) := by
  unfold KV at r
  induction r with
  | nil => rfl
  | cons h t ih => rw [List.any_cons, List.any_cons, ih, h.1]
theorem KV.repl {kvs : List (κ × V)} {vs : List (κ × Value)} (r : KV kvs vs) (k : κ) {y : V} {u : Value} (ry : RelV y u) :
    KV (kvs.map fun kv => if kv.1 = k then (kv.1, y) else kv) (vs.map fun kv => if kv.1 = k then (kv.1, u) else kv) := by
  unfold KV at r ⊢
  induction r with
  | nil => exact .nil
  | @cons p q ps qs h t ih =>
    rw [List.map_cons, List.map_cons]
    refine .cons ?_ ih
    obtain ⟨h1, h2⟩ := h
    by_cases e : p.1 = k
    · rw [if_pos e, if_pos (h1.symm.trans e)]; exact ⟨h1, ry⟩
    · rw [if_neg e, if_neg (fun z => e (h1.trans z))]; exact ⟨h1, h2⟩
theorem KV.put {kvs : List (κ × V)} {vs : List (κ × Value)} (r : KV kvs vs) (k : κ) {y : V} {u : Value} (ry : RelV y u) : KV (putK kvs k y) (stored vs k u) := by
  unfold putK stored
  rw [r.any k]
  by_cases e : (vs.any fun kv => decide (kv.1 = k)) = true
  · rw [if_pos e, if_pos e]; exact r.repl k ry
  · rw [if_neg e, if_neg e]; exact Paired.snoc r ⟨rfl, ry⟩
theorem KV.length {kvs : List (κ × V)} {vs : List (κ × Value)} (r : KV kvs vs) : kvs.length = vs.length := Paired.length r
end


theorem kV_is {P : Program} {w : World} {k : Key} {u : Value} (r : RelV (kV k) u) : (mixKind P w).is k u = true := by
  cases k with
  | inl i => have e := (show u = Value.bool i from r); subst e; exact mixKind_bool P w i
  | inr x => obtain ⟨t, e⟩ := (show ∃ t, u = Value.str x t from r); subst e; exact mixKind_str P w x t
theorem items_are {P : Program} {w : World} : ∀ {ks : List Key} {us : List Value}, Vals (ks.map kV) us → ItemsAre (mixKind P w) ks us
  | [], _, r => by rw [List.map_nil] at r; cases r; exact .nil
  | k :: ks, _, r => by
    rw [List.map_cons] at r
    cases r with
    | cons h t => exact .cons (kV_is h) (items_are t)

/-- raw entries of a dict with tuple keys -/
abbrev KT (H : Hp) : List (List Key × V) → List (List Key × Addr × Value) → Prop := Paired fun p q => p.1 = q.1 ∧ H q.2.1 = some (.tup (p.1.map kV)) ∧ RelV p.2 q.2.2
theorem KT.val {H : Hp} {kvs : List (List Key × V)} {xs : List (List Key × Addr × Value)} (r : KT H kvs xs) (k : List Key) : RelO (valV kvs k) ((atKey xs k).map (·.2)) := by
  induction r with
  | nil => exact True.intro
  | @cons p q ps qs h t ih =>
    obtain ⟨h1, _, h2⟩ := h
    by_cases e : p.1 = k
    · have e' : q.1 = k := h1.symm.trans e
      have b : atKey (q :: qs) k = some q.2 := by simp [atKey, List.find?_cons, e']
      rw [valV_pos e, b]; exact h2
    · have e' : ¬ q.1 = k := fun z => e (h1.trans z)
      have b : atKey (q :: qs) k = atKey qs k := by simp [atKey, List.find?_cons, e']
      rw [valV_neg e, b]; exact ih
theorem KT.repl {H : Hp} {kvs : List (List Key × V)} {xs : List (List Key × Addr × Value)} (r : KT H kvs xs) (k : List Key) {y : V} {u : Value} (ry : RelV y u) :
    KT H (kvs.map fun kv => if kv.1 = k then (kv.1, y) else kv) (xs.map (putAt k u)) := by
  induction r with
  | nil => exact .nil
  | @cons p q ps qs h t ih =>
    rw [List.map_cons, List.map_cons]
    refine .cons ?_ ih
    obtain ⟨h1, h2, h3⟩ := h
    unfold putAt
    by_cases e : p.1 = k
    · rw [if_pos e, if_pos (h1.symm.trans e)]; exact ⟨h1, h2, ry⟩
    · rw [if_neg e, if_neg (fun z => e (h1.trans z))]; exact ⟨h1, h2, h3⟩
theorem KT.put {H : Hp} {kvs : List (List Key × V)} {xs : List (List Key × Addr × Value)} (r : KT H kvs xs) (k : List Key) {b : Addr} {y : V} {u : Value} (hb : H b = some (.tup (k.map kV))) (ry : RelV y u) :
    KT H (putK kvs k y) (storedH xs k b u) := by
  have e : (kvs.any fun kv => decide (kv.1 = k)) = (atKey xs k).isSome := by
    rw [valV_any, (r.val k).isSome_eq, Option.isSome_map]
  unfold putK storedH
  rw [e]
  by_cases q : (atKey xs k).isSome = true
  · rw [if_pos q, if_pos q]; exact r.repl k ry
  · rw [if_neg q, if_neg q]; exact Paired.snoc r ⟨rfl, hb, ry⟩
theorem KT.keeps {H H' : Hp} {kvs : List (List Key × V)} {xs : List (List Key × Addr × Value)} (r : KT H kvs xs) (ht : ∀ b ys, H b = some (.tup ys) → H' b = some (.tup ys)) : KT H' kvs xs :=
  Paired.mapP r fun _ _ z => ⟨z.1, ht _ _ z.2.1, z.2.2⟩

section
variable {P : Program} {w : World} {H : Hp} {h : Heap} {a : Addr}
theorem y72y {u : HO} (ok : HOk P w H h) (e : Rd H a u) : ObjOk P w H h a u := e.ok ok
theorem dk_rd {kvs : List (Key × V)} (ok : HOk P w H h) (e : Rd H a (.dK kvs)) : kvs.length ≤ sizeLine ∧ (a == sysModules) = false ∧ ∃ vs, KV kvs vs ∧ h.DictOf (mixKind P w) a vs :=
  show ObjOk P w H h a (.dK kvs) from y72y ok e
theorem dk_of {kvs : List (Key × V)} (ok : HOk P w H h) (e : H a = some (.dK kvs)) : kvs.length ≤ sizeLine ∧ (a == sysModules) = false ∧ ∃ vs, KV kvs vs ∧ h.DictOf (mixKind P w) a vs := dk_rd ok (.inl e)
/-- a tracked tuple of ints and texts is a key -/
theorem key_of {ks : List Key} (ok : HOk P w H h) (e : H a = some (.tup (ks.map kV))) : (tupleKind (mixKind P w)).is h ks a := by
  obtain ⟨_, its, r, o, h1, h2, n, h3⟩ := (show ObjOk P w H h a (.tup (ks.map kV)) from ok a _ e)
  exact ⟨o, its.toArray, n, h1, h2, h3, by simpa using items_are r⟩
theorem dt_rd {kvs : List (List Key × V)} (ok : HOk P w H h) (e : Rd H a (.dT kvs)) : kvs.length ≤ sizeLine ∧ (a == sysModules) = false ∧
    ∃ xs, KT H kvs xs ∧ h.DictOfH (tupleKind (mixKind P w)) a xs := by
  obtain ⟨z, y, xs, r, o, es, ep, h1, h2, h3, h4, h5⟩ := (show ObjOk P w H h a (.dT kvs) from y72y ok e)
  refine ⟨z, y, xs, r, o, es, ep, h1, h2, h3, h4, fun x hx => ?_, h5⟩
  have all : ∀ {l : List (List Key × V)} {m : List (List Key × Addr × Value)}, KT H l m → ∀ x ∈ m, (tupleKind (mixKind P w)).is h x.1 x.2.1 := by
    intro l m q
    induction q with
    | nil => intro x hx; exact nomatch hx
    | @cons p q ps qs hq t ih =>
      intro x hx
      rcases List.mem_cons.mp hx with e | hx
      · subst e
        exact key_of ok (by rw [← hq.1]; exact hq.2.1)
      · exact ih x hx
  exact all r x hx
theorem dt_of {kvs : List (List Key × V)} (ok : HOk P w H h) (e : H a = some (.dT kvs)) : kvs.length ≤ sizeLine ∧ (a == sysModules) = false ∧
    ∃ xs, KT H kvs xs ∧ h.DictOfH (tupleKind (mixKind P w)) a xs := dt_rd ok (.inl e)
end

/-- what the dict at a holds at the key y -/
def DGet (H : Hp) (a : Addr) (y : V) (r : Option V) : Prop :=
  (∃ kvs k, Rd H a (.dK kvs) ∧ y = kV k ∧ r = valV kvs k) ∨ ∃ kvs k b, Rd H a (.dT kvs) ∧ y = .ref b ∧ H b = some (.tup (k.map kV)) ∧ r = valV kvs k
/-- the heap behind a[y] = v -/
def DPut (H : Hp) (a : Addr) (y v : V) (H' : Hp) : Prop :=
  (∃ kvs k, H a = some (.dK kvs) ∧ y = kV k ∧ kvs.length < sizeLine ∧ H' = upd H a (.dK (putK kvs k v))) ∨
  ∃ kvs k b, H a = some (.dT kvs) ∧ y = .ref b ∧ H b = some (.tup (k.map kV)) ∧ kvs.length < sizeLine ∧ H' = upd H a (.dT (putK kvs k v))
theorem DGet.k {H : Hp} {a : Addr} {kvs : List (Key × V)} {k : Key} (e : H a = some (.dK kvs)) : DGet H a (kV k) (valV kvs k) := .inl ⟨kvs, k, .inl e, rfl, rfl⟩
theorem DPut.k {H : Hp} {a : Addr} {kvs : List (Key × V)} {k : Key} {v : V} (e : H a = some (.dK kvs)) (hl : kvs.length < sizeLine) : DPut H a (kV k) v (upd H a (.dK (putK kvs k v))) := .inl ⟨kvs, k, e, rfl, hl, rfl⟩
section
variable {X : Cx} {pins : List (Addr × Obj)} {σ : St} {H : Hp} {s : Shared} {a : Addr} {y v : V} {u r : Value} {o : Option V} {A : Around} {E : Value → Shared → Prop}

theorem Inv.big (I : Inv X pins σ H s) : sysModules < s.heap.objs.size := by
  have h : mainGlobals < s.heap.objs.size := (I.mod.glob.keeps I.bk).lt
  exact Nat.lt_trans (by decide) h

/-- d[y], there -/
theorem d_getItem {Q : Value → Shared → Prop} (hu : A.units + 1 < cLine) (I : Inv X pins σ H s) (g : DGet H a y (some v)) (ry : RelV y u) (h : ∀ w' s', Inv X pins σ H s' → RelV v w' → Q w' s') :
    wpAny (model X.prog X.w) A (getItem (.ref a) u) Q E s := by
  rcases g with ⟨kvs, k, e, ey, l⟩ | ⟨kvs, k, b, e, ey, eb, l⟩
  · subst ey
    obtain ⟨z, hd, vs, rel, dd⟩ := dk_rd I.hok e
    obtain ⟨w', hw, rw'⟩ := RelO.some_of (v := v) (o := valueAt vs k) (by rw [l]; exact rel.val k)
    exact wpAny_getItem_of (kV_is ry) dd.mapOf hw (h w' _ (I.tok _) rw')
  · subst ey
    cases (show u = Value.ref b from ry)
    obtain ⟨z, hd, xs, rel, dd⟩ := dt_rd I.hok e
    obtain ⟨w', hw, rw'⟩ := RelO.some_of (v := v) (o := (atKey xs k).map (·.2)) (by rw [l]; exact rel.val k)
    obtain ⟨p, hp, hp2⟩ := Option.map_eq_some_iff.mp hw
    refine wpAny_getItem_heap (tupleKind_room_in1 hu) (key_of I.hok eb) dd hp ?_
    rw [hp2]
    exact h w' _ (I.tok _) rw'
/-- y in d -/
theorem d_in {Q : Value → Shared → Prop} (hu : A.units + 1 < cLine) (I : Inv X pins σ H s) (g : DGet H a y o) (ry : RelV y u) (h : ∀ s', Inv X pins σ H s' → Q (.bool o.isSome) s') :
    wpAny (model X.prog X.w) A (compareOp .In u (.ref a)) Q E s := by
  rcases g with ⟨kvs, k, e, ey, l⟩ | ⟨kvs, k, b, e, ey, eb, l⟩
  · subst ey
    obtain ⟨z, hd, vs, rel, dd⟩ := dk_rd I.hok e
    refine wpAny_in_of (kV_is ry) hd dd.mapOf ?_
    rw [← (rel.val k).isSome_eq, ← l]
    exact h _ (I.tok _)
  · subst ey
    cases (show u = Value.ref b from ry)
    obtain ⟨z, hd, xs, rel, dd⟩ := dt_rd I.hok e
    refine wpAny_in_heap (tupleKind_room_in1 hu) (key_of I.hok eb) hd dd ?_
    have q := (rel.val k).isSome_eq
    rw [Option.isSome_map] at q
    rw [← q, ← l]
    exact h _ (I.tok _)
theorem d_notIn {Q : Value → Shared → Prop} (hu : A.units + 1 < cLine) (I : Inv X pins σ H s) (g : DGet H a y o) (ry : RelV y u) (h : ∀ s', Inv X pins σ H s' → Q (.bool (!o.isSome)) s') :
    wpAny (model X.prog X.w) A (compareOp .NotIn u (.ref a)) Q E s := by
  rcases g with ⟨kvs, k, e, ey, l⟩ | ⟨kvs, k, b, e, ey, eb, l⟩
  · subst ey
    obtain ⟨z, hd, vs, rel, dd⟩ := dk_rd I.hok e
    refine wpAny_notIn_of (kV_is ry) hd dd.mapOf ?_
    rw [← (rel.val k).isSome_eq, ← l]
    exact h _ (I.tok _)
  · subst ey
    cases (show u = Value.ref b from ry)
    obtain ⟨z, hd, xs, rel, dd⟩ := dt_rd I.hok e
    refine wpAny_notIn_heap (tupleKind_room_in1 hu) (key_of I.hok eb) hd dd ?_
    have q := (rel.val k).isSome_eq
    rw [Option.isSome_map] at q
    rw [← q, ← l]
    exact h _ (I.tok _)
/-- a dict's object is replaced -/
theorem d_write {h' : Heap} {t' : Nat} {ob : HO} (I : Inv X pins σ H s) (mu : Mut (H a)) (hs : Heap.SameBut a s.heap h') (he : ∃ q, h'.get? a = some q) (new : ObjOk X.prog X.w (upd H a ob) h' a ob) :
    Inv X pins σ (upd H a ob) { s with heap := h', toks := t' } :=
  I.write (x := a) (e := a) mu (.inl rfl) (fun b q hb z => (hs.2 b hb).trans z) he new
theorem dk_new {P : Program} {w : World} {H' : Hp} {h' : Heap} {kvs : List (Key × V)} {vs : List (Key × Value)} (z : kvs.length ≤ sizeLine) (hd : (a == sysModules) = false) (rel : KV kvs vs) (dd : h'.DictOf (mixKind P w) a vs) :
    ObjOk P w H' h' a (.dK kvs) := ⟨z, hd, vs, rel, dd⟩
/-- d[y] = v -/
theorem d_setItem {H' : Hp} {Q : Unit → Shared → Prop} (hu : A.units + 1 < cLine) (I : Inv X pins σ H s) (g : DPut H a y v H') (ry : RelV y u) (rv : RelV v r) (h : ∀ s', Inv X pins σ H' s' → Q () s') :
    wpAny (model X.prog X.w) A (setItem (.ref a) u r) Q E s := by
  rcases g with ⟨kvs, k, e, ey, l, eH⟩ | ⟨kvs, k, b, e, ey, eb, l, eH⟩
  · subst ey eH
    obtain ⟨z, hd, vs, rel, dd⟩ := dk_of I.hok e
    have hz : vs.length ≤ sizeLine := by rw [← rel.length]; exact z
    have hl : (putK kvs k v).length ≤ sizeLine := by have := length_putK kvs k v; omega
    refine wpAny_setItem_pairs (hsz := hz) (kV_is ry) dd fun h' dd' hs => h _ ?_
    have he : ∃ q, h'.get? a = some q := let ⟨q, _, _, hq, _⟩ := dd'; ⟨q, hq⟩
    exact d_write I (by rw [e]; exact True.intro) hs he (dk_new hl hd (rel.put k rv) dd')
  · subst ey eH
    cases (show u = Value.ref b from ry)
    obtain ⟨z, hd, xs, rel, dd⟩ := dt_of I.hok e
    have hz : xs.length ≤ sizeLine := by rw [← Paired.length rel]; exact z
    have hl : (putK kvs k v).length ≤ sizeLine := by have := length_putK kvs k v; omega
    refine wpAny_setItem_heap (hsz := hz) (tupleKind_room_in1 hu) (key_of I.hok eb) dd fun h' dd' hs => h _ ?_
    obtain ⟨q, es, ep, hq, h2, h3, h4, _, h5⟩ := dd'
    refine d_write I (by rw [e]; exact True.intro) hs ⟨q, hq⟩ ⟨hl, hd, _, (rel.put k eb rv).keeps fun c ys ec => ?_, q, es, ep, hq, h2, h3, h4, h5⟩
    rw [upd_ne (ne_of ec e (fun z => nomatch z))]
    exact ec
end

section
variable {X : Cx} {pins : List (Addr × Obj)} {σ : St} {H : Hp} {s : Shared} {a : Addr} {kvs : List (Key × V)} {k : Key} {u : Value} {A : Around} {E : Value → Shared → Prop}
end


/-- the element of a subscription, not a slice -/
def NoSl (i : Expr) : Prop := ∀ ov iv, subscripted i false ov iv = operate [ov, iv] (getItem ov iv)
theorem subD_of {prog : Program} {w : World} {A : Around} {E : Value → Shared → Prop} {s : Shared} {env : Env} {value slice : Expr} {pos : Pos} {T id : String} {Q : Value → Shared → Prop}
    (hl : typeLookup (.type T) "__getitem__" = pure (some (.builtin id))) (hs : NoSl slice)
    (h : wpAny (model prog w) A (eval value env) (fun o s₁ => wpAny (model prog w) A (eval slice env) (fun i s₂ => s₂.TypeIs o T ∧ wpAny (model prog w) A (getItem o i) Q E s₂) E s₁) E s) :
    wpAny (model prog w) A (eval (.Subscript value slice pos) env) Q E s := by
  refine Subscript_ (wpAny_mono h (fun o s₁ h₁ => wpAny_mono h₁ (fun i s₂ h₂ => ?_) fun _ _ x => x) fun _ _ x => x)
  obtain ⟨hT, h₂⟩ := h₂
  unfold subscriptTail
  refine wpAny_bind ?_
  rw [getitemInPython_of_ne hT.not_modules]
  refine wpAny_bind (wpAny_specialOf hT hl ?_)
  have fin : wpAny (model prog w) A (subscripted slice false o i) (fun r s₃ => wpAny (model prog w) A (letTemporaryGo value o r >>= fun _ => pure r) Q E s₃) E s₂ := by
    rw [hs o i]
    exact wpAny_operating (wpAny_mono h₂ (fun r s₃ h₃ => wpAny_bind (wpAny_letTemporaryGo (wpAny_pure h₃))) fun _ _ x => x)
  first
    | exact wpAny_pure (wpAny_bind fin)
    | exact wpAny_bind (wpAny_pure (wpAny_bind fin))
    | exact wpAny_bind fin

theorem dict_typeIs {X : Cx} {pins : List (Addr × Obj)} {σ : St} {H : Hp} {s : Shared} {a : Addr} {y : V} {o : Option V} (I : Inv X pins σ H s) (g : DGet H a y o) : s.TypeIs (.ref a) "dict" := by
  rcases g with ⟨kvs, k, e, _, _⟩ | ⟨kvs, k, b, e, _, _, _⟩
  · obtain ⟨_, _, vs, _, dd⟩ := dk_rd I.hok e
    exact dd.typeIs
  · obtain ⟨_, _, xs, _, dd⟩ := dt_rd I.hok e
    exact dd.typeIs
/-- d[y] -/
def tDGet (td ty : TE) : TE := fun σ H Q => td σ H fun x H1 => ty σ H1 fun y H2 => ∃ a v, x = .ref a ∧ DGet H2 a y (some v) ∧ Q v H2
/-- y in d, y not in d -/
def tDIn (ty td : TE) : TE := fun σ H Q => ty σ H fun y H1 => td σ H1 fun x H2 => ∃ a o, x = .ref a ∧ DGet H2 a y o ∧ Q (.bl o.isSome) H2
def tDNotIn (ty td : TE) : TE := fun σ H Q => ty σ H fun y H1 => td σ H1 fun x H2 => ∃ a o, x = .ref a ∧ DGet H2 a y o ∧ Q (.bl (!o.isSome)) H2
/-- d[y] = v -/
def sDPut (td ty tv : TE) : TS := fun D σ H => tv σ H fun v H1 => td σ H1 fun x H2 => ty σ H2 fun y H3 => ∃ a H4, x = .ref a ∧ DPut H3 a y v H4 ∧ D.nx σ H4
section
variable {X : Cx} {o i e value : Expr} {pos pos' tpos : Pos} {td ty tv : TE}
theorem pe_dget (hu : X.A.units + 1 < cLine) (ho : PE X o td) (hi : PE X i ty) (hs : NoSl i) : PE X (.Subscript o i pos) (tDGet td ty) := by
  intro pins s σ H Q I h
  refine subD_of PySem.F.slot_dict_getitem.lookup hs (thn (ho pins s σ H _ I h) fun u s1 ⟨x, H1, I1, rx, q1⟩ => thn (hi pins s1 σ H1 _ I1 q1) fun iv s2 ⟨y, H2, I2, ry, a, v, ex, g, q2⟩ => ?_)
  subst ex
  obtain rfl : u = Value.ref a := rx
  exact ⟨dict_typeIs I2 g, d_getItem hu I2 g ry fun w' s3 I3 rw' => ⟨v, H2, I3, rw', q2⟩⟩
theorem pc_din (hu : X.A.units + 1 < cLine) (hi : PE X i ty) (ho : PE X o td) : PC X .In i o (tDIn ty td) := by
  intro pins s σ H Q I h
  refine thn (hi pins s σ H _ I h) fun iv s1 ⟨y, H1, I1, ry, q1⟩ => thn (ho pins s1 σ H1 _ I1 q1) fun u s2 ⟨x, H2, I2, rx, a, ov, ex, g, q2⟩ => ?_
  subst ex
  obtain rfl : u = Value.ref a := rx
  exact d_in hu I2 g ry fun s3 I3 => ⟨.bl ov.isSome, H2, I3, rfl, q2⟩
theorem pc_dnotin (hu : X.A.units + 1 < cLine) (hi : PE X i ty) (ho : PE X o td) : PC X .NotIn i o (tDNotIn ty td) := by
  intro pins s σ H Q I h
  refine thn (hi pins s σ H _ I h) fun iv s1 ⟨y, H1, I1, ry, q1⟩ => thn (ho pins s1 σ H1 _ I1 q1) fun u s2 ⟨x, H2, I2, rx, a, ov, ex, g, q2⟩ => ?_
  subst ex
  obtain rfl : u = Value.ref a := rx
  exact d_notIn hu I2 g ry fun s3 I3 => ⟨.bl (!ov.isSome), H2, I3, rfl, q2⟩
theorem ps_dput (hu : X.A.units + 1 < cLine) (ho : PE X o td) (hi : PE X i ty) (hv : PE X value tv) (hs : swapsWith value (some (.Subscript o i pos')) pos.line X.env = pure false) :
    PS X (.Assign [.Subscript o i pos'] value pos) (sDPut td ty tv) := by
  intro pins s σ H D I h
  refine wpAny_Assign_Subscript (thn (hv pins s σ H _ I h) fun r s1 ⟨v, H1, I1, rv, q1⟩ => thn (ho pins s1 σ H1 _ I1 q1) fun u s2 ⟨x, H2, I2, rx, q2⟩ => thn (hi pins s2 σ H2 _ I2 q2) fun iv s3 ⟨y, H3, I3, ry, a, H4, ex, g, q3⟩ => ?_) hs
  subst ex
  obtain rfl : u = Value.ref a := rx
  exact d_setItem hu I3 g ry rv fun s4 I4 => ⟨σ, H4, I4, q3⟩
end


theorem dk_empty {P : Program} {w : World} {H : Hp} (h : Heap) (hb : sysModules < h.objs.size) : ObjOk P w H (h.push { cls := .type "dict", data := .dict #[] }) h.objs.size (.dK []) :=
  ⟨Nat.zero_le _, beq_eq_false_iff_ne.mpr (Ne.symm (Nat.ne_of_lt hb)), [], .nil, Heap.DictOf.new h⟩
/-- {}, to be a dict of the kind that is wanted -/
def tDNewK : TE := fun _ H Q => ∀ p, H p = none → Q (.ref p) (upd H p (.dK []))
def tDNewT : TE := fun _ H Q => ∀ p, H p = none → Q (.ref p) (upd H p (.dT []))
section
variable {X : Cx} {pos : Pos}
theorem pe_dnewK : PE X (.Dict [] [] pos) tDNewK := fun pins s σ H Q I h =>
  wpAny_Dict_empty ⟨.ref s.heap.objs.size, _, I.laid (a := s.heap.objs.size) (o := .dK []) (t' := s.toks) (fun _ _ q => Heap.get?_push_of_some _ q) (Nat.le_refl _) (dk_empty s.heap I.big), rfl, h _ (I.hok.fresh (Nat.le_refl _))⟩
end

/-- the pairs of a display, from the left -/
def tPairs : List (TE × TE) → St → Hp → (List (V × V) → Hp → Prop) → Prop
  | [], _, H, Q => Q [] H
  | (tk, tv) :: r, σ, H, Q => tk σ H fun x H1 => tv σ H1 fun y H2 => tPairs r σ H2 fun ps H3 => Q ((x, y) :: ps) H3
abbrev VV : List (V × V) → List (Value × Value) → Prop := Paired fun p q => RelV p.1 q.1 ∧ RelV p.2 q.2
def PPs (X : Cx) (pos : Pos) (keys : List (Option Expr)) (values : List Expr) (trs : List (TE × TE)) : Prop :=
  ∀ (pins : List (Addr × Obj)) (s : Shared) (σ : St) (H : Hp) (Q : List (V × V) → Hp → Prop), Inv X pins σ H s → tPairs trs σ H Q →
    wpAny (model X.prog X.w) X.A (evalPairs (pairTrees keys values X.env pos)) (fun vs s' => ∃ ps H', Inv X pins σ H' s' ∧ VV ps vs ∧ Q ps H') X.xe s
theorem pps_nil {X : Cx} {pos : Pos} : PPs X pos [] [] [] := fun pins s σ H Q I h => pairTrees_nil_walk ⟨[], H, I, .nil, h⟩
theorem pps_cons {X : Cx} {pos : Pos} {k v : Expr} {ks : List (Option Expr)} {vs : List Expr} {tk tv : TE} {trs : List (TE × TE)} (hk : PE X k tk) (hv : PE X v tv) (hr : PPs X pos ks vs trs) :
    PPs X pos (some k :: ks) (v :: vs) ((tk, tv) :: trs) := fun pins s σ H Q I h =>
  pairTrees_cons_walk (thn (hk pins s σ H _ I h) fun u s1 ⟨x, H1, I1, rx, q1⟩ => thn (hv pins s1 σ H1 _ I1 q1) fun w2 s2 ⟨y, H2, I2, ry, q2⟩ =>
    thn (hr pins s2 σ H2 _ I2 q2) fun ws s3 ⟨ps, H3, I3, rel, q3⟩ => ⟨(x, y) :: ps, H3, I3, .cons ⟨rx, ry⟩ rel, q3⟩)

def mergeK (kvs more : List (Key × V)) : List (Key × V) := more.foldl (fun acc kv => putK acc kv.1 kv.2) kvs
theorem KV.merge : ∀ {more : List (Key × V)} {rs : List (Key × Value)} {kvs : List (Key × V)} {vs : List (Key × Value)}, KV more rs → KV kvs vs → KV (mergeK kvs more) (merged vs rs) := by
  intro more rs kvs vs r
  unfold KV at r
  induction r generalizing kvs vs with
  | nil => intro q; exact q
  | @cons p q ps qs h t ih =>
    intro r0
    have e : KV (putK kvs p.1 p.2) (stored vs q.1 q.2) := by
      have := r0.put p.1 h.2
      rw [← h.1]; exact this
    exact ih e
theorem length_mergeK : ∀ (more kvs : List (Key × V)), (mergeK kvs more).length ≤ kvs.length + more.length
  | [], kvs => by show kvs.length ≤ kvs.length + 0; omega
  | p :: r, kvs => by
    have h1 := length_mergeK r (putK kvs p.1 p.2)
    have h2 := length_putK kvs p.1 p.2
    show (mergeK (putK kvs p.1 p.2) r).length ≤ _
    rw [List.length_cons]; omega
theorem carries_of {P : Program} {w : World} : ∀ {kvs : List (Key × V)} {ws : List (Value × Value)}, VV (kvs.map fun kv => (kV kv.1, kv.2)) ws → ∃ rs, Carries (mixKind P w) ws rs ∧ KV kvs rs
  | [], _, r => by rw [List.map_nil] at r; cases r; exact ⟨[], True.intro, .nil⟩
  | p :: kvs, _, r => by
    rw [List.map_cons] at r
    cases r with
    | @cons a b as bs h t =>
      obtain ⟨rs, c, q⟩ := carries_of (P := P) (w := w) t
      obtain ⟨b1, b2⟩ := b
      exact ⟨(p.1, b2) :: rs, ⟨kV_is h.1, rfl, c⟩, .cons ⟨rfl, h.2⟩ q⟩
/-- {k: v, ..} with keys ints and texts; the new dict stands empty while the pairs are made -/
def tDisp (trs : List (TE × TE)) : TE := fun σ H Q => ∀ p, H p = none → tPairs trs σ (upd H p (.dK [])) fun ps H2 => H2 p = some (.dK []) ∧ ∃ kvs : List (Key × V), ps = kvs.map (fun kv => (kV kv.1, kv.2)) ∧ kvs.length ≤ 15 ∧ Q (.ref p) (upd H2 p (.dK (mergeK [] kvs)))
theorem pe_disp {X : Cx} {pos : Pos} {keys : List (Option Expr)} {values : List Expr} {trs : List (TE × TE)} (h : PPs X pos keys values trs) (hall : keys.all (·.isSome) = true) (hl : keys.length = values.length) (h0 : keys ≠ [])
    (h15 : keys.length ≤ 15) : PE X (.Dict keys values pos) (tDisp trs) := by
  intro pins s σ H Q I q
  have hn := I.hok.fresh (Nat.le_refl s.heap.objs.size)
  have I1 := I.laid (a := s.heap.objs.size) (o := .dK []) (h' := s.heap.push { cls := .type "dict", data := .dict #[] }) (t' := s.toks) (fun _ _ q => Heap.get?_push_of_some _ q) (Nat.le_refl _) (dk_empty s.heap I.big)
  refine wpAny_Dict_walk (knd := mixKind X.prog X.w) hall hl h0 h15 (thn (h pins _ σ _ _ I1 (q _ hn)) fun ws s2 ⟨ps, H2, I2, rel, e, kvs, ep, lk, q2⟩ => ?_)
  subst ep
  obtain ⟨rs, c, rk⟩ := carries_of (P := X.prog) (w := X.w) rel
  obtain ⟨z, hd, vs0, r0, dd⟩ := dk_of I2.hok e
  cases r0
  refine ⟨rs, c, dd, fun h' dd' hs => ⟨.ref s.heap.objs.size, _, ?_, rfl, q2⟩⟩
  have hz : (mergeK [] kvs).length ≤ sizeLine := by
    have h1 := length_mergeK kvs []
    rw [List.length_nil] at h1
    rw [sizeLine_eq]; omega
  have he : ∃ q, h'.get? s.heap.objs.size = some q := let ⟨q, _, _, hq, _⟩ := dd'; ⟨q, hq⟩
  exact d_write I2 (by rw [e]; exact True.intro) hs he (dk_new hz hd (rk.merge .nil) dd')


/-- a method call o.m(e) of a built-in, with one argument: what must be seen of the text -/
structure M1 (X : Cx) (o : Expr) (m : Str) (apos : Pos) (e : Expr) (cpos : Pos) : Prop where
  base : attributeBase o m X.env (eval o X.env) = eval o X.env
  few : ((backTo cpos (starEach [e] X.env)).all (fun x => !x.1) && (backToKw cpos (keywordEach [] X.env)).all (fun x => x.1.isSome)
    && decide (([e] : List Expr).length + ([] : List Keyword).length + (if ([] : List Keyword).isEmpty then 0 else 1) < 30)) = true
  line : (apos.endLine == cpos.line) = true
  trees : backTo cpos (starEach [e] X.env) = [(false, eval e X.env)]
structure M2 (X : Cx) (o : Expr) (m : Str) (apos : Pos) (e f : Expr) (cpos : Pos) : Prop where
  base : attributeBase o m X.env (eval o X.env) = eval o X.env
  few : ((backTo cpos (starEach [e, f] X.env)).all (fun x => !x.1) && (backToKw cpos (keywordEach [] X.env)).all (fun x => x.1.isSome)
    && decide (([e, f] : List Expr).length + ([] : List Keyword).length + (if ([] : List Keyword).isEmpty then 0 else 1) < 30)) = true
  line : (apos.endLine == cpos.line) = true
  trees : backTo cpos (starEach [e, f] X.env) = [(false, eval e X.env), (false, eval f X.env)]

/-- a is a dict, whatever its keys -/
def IsD (H : Hp) (a : Addr) : Prop := (∃ kvs, Rd H a (.dK kvs)) ∨ ∃ kvs, Rd H a (.dT kvs)
theorem isD_at {X : Cx} {pins : List (Addr × Obj)} {σ : St} {H : Hp} {s : Shared} {a : Addr} (I : Inv X pins σ H s) (d : IsD H a) :
    s.TypeIs (.ref a) "dict" ∧ (∀ b, Value.ref a = .ref b → ∃ ob, s.heap.get? b = some ob ∧ ob.dict = none) ∧ (a == sysModules) = false := by
  rcases d with ⟨kvs, e⟩ | ⟨kvs, e⟩
  · obtain ⟨_, hd, vs, _, dd⟩ := dk_rd I.hok e
    refine ⟨dd.typeIs, fun b q => ?_, hd⟩
    cases q
    obtain ⟨ob, _, _, h1, h2, _⟩ := dd
    exact ⟨ob, h1, h2.2.1⟩
  · obtain ⟨_, hd, xs, _, dd⟩ := dt_rd I.hok e
    refine ⟨dd.typeIs, fun b q => ?_, hd⟩
    cases q
    obtain ⟨ob, _, _, h1, h2, _⟩ := dd
    exact ⟨ob, h1, h2.2.1⟩

section
variable {X : Cx} {pins : List (Addr × Obj)} {σ : St} {H : Hp} {s : Shared} {a : Addr} {y d : V} {u r : Value} {o : Option V} {A : Around} {E : Value → Shared → Prop}
/-- d.get(y) -/
theorem d_get1 {Q : Value → Shared → Prop} (hu : A.units + 1 < cLine) (I : Inv X pins σ H s) (g : DGet H a y o) (ry : RelV y u) (h : ∀ w' s', Inv X pins σ H s' → RelV (o.getD .non) w' → Q w' s') :
    wpAny (model X.prog X.w) A (call (.builtin "dict.get") [.ref a, u]) Q E s := by
  rcases g with ⟨kvs, k, e, ey, l⟩ | ⟨kvs, k, b, e, ey, eb, l⟩
  · subst ey
    obtain ⟨z, hd, vs, rel, dd⟩ := dk_rd I.hok e
    refine call_meetsIn PySem.F.slot_dict_get dd.typeIs PySem.F.entry_dict_get (PySem.F.args_dict_get_2 _ _) (meets_dict_get (mixKind X.prog X.w) a (kV_is ry) hd) ⟨_, dd.mapOf, h _ _ (I.tok _) ?_⟩
    rw [l]
    exact (rel.val k).getD rfl
  · subst ey
    cases (show u = Value.ref b from ry)
    obtain ⟨z, hd, xs, rel, dd⟩ := dt_rd I.hok e
    refine call_meetsIn PySem.F.slot_dict_get dd.typeIs PySem.F.entry_dict_get (PySem.F.args_dict_get_2 _ _) (meetsH_dict_get (tupleKind (mixKind X.prog X.w)) a b hd) ⟨tupleKind_room_in1 hu, k, xs, key_of I.hok eb, dd, h _ _ (I.tok _) ?_⟩
    rw [l]
    exact (rel.val k).getD rfl
/-- d.get(y, x) -/
theorem d_get2 {Q : Value → Shared → Prop} (hu : A.units + 1 < cLine) (I : Inv X pins σ H s) (g : DGet H a y o) (ry : RelV y u) (rd : RelV d r) (h : ∀ w' s', Inv X pins σ H s' → RelV (o.getD d) w' → Q w' s') :
    wpAny (model X.prog X.w) A (call (.builtin "dict.get") [.ref a, u, r]) Q E s := by
  rcases g with ⟨kvs, k, e, ey, l⟩ | ⟨kvs, k, b, e, ey, eb, l⟩
  · subst ey
    obtain ⟨z, hd, vs, rel, dd⟩ := dk_rd I.hok e
    refine call_meetsIn PySem.F.slot_dict_get dd.typeIs PySem.F.entry_dict_get (PySem.F.args_dict_get_3 _ _ _) (meets_dict_get_default (mixKind X.prog X.w) a (kV_is ry) hd r) ⟨_, dd.mapOf, h _ _ (I.tok _) ?_⟩
    rw [l]
    exact (rel.val k).getD rd
  · subst ey
    cases (show u = Value.ref b from ry)
    obtain ⟨z, hd, xs, rel, dd⟩ := dt_rd I.hok e
    refine call_meetsIn PySem.F.slot_dict_get dd.typeIs PySem.F.entry_dict_get (PySem.F.args_dict_get_3 _ _ _) (meetsH_dict_get_default (tupleKind (mixKind X.prog X.w)) a b hd r) ⟨tupleKind_room_in1 hu, k, xs, key_of I.hok eb, dd, h _ _ (I.tok _) ?_⟩
    rw [l]
    exact (rel.val k).getD rd
end

def tDGet1 (td ty : TE) : TE := fun σ H Q => td σ H fun x H1 => ∃ a, x = .ref a ∧ IsD H1 a ∧ ty σ H1 fun y H2 => ∃ o, DGet H2 a y o ∧ Q (o.getD .non) H2
def tDGet2 (td ty tx : TE) : TE := fun σ H Q => td σ H fun x H1 => ∃ a, x = .ref a ∧ IsD H1 a ∧ ty σ H1 fun y H2 => tx σ H2 fun z H3 => ∃ o, DGet H3 a y o ∧ Q (o.getD z) H3
section
variable {X : Cx} {o e f : Expr} {apos cpos : Pos} {td ty tx : TE}
theorem pe_dget1 (hu : X.A.units + 1 < cLine) (ho : PE X o td) (he : PE X e ty) (m : M1 X o "get" apos e cpos) : PE X (.Call (.Attribute o "get" apos) [e] [] cpos) (tDGet1 td ty) := by
  intro pins s σ H Q I h
  refine wpAny_Call_method m.base m.few m.line PySem.F.plainAttrs_dict PySem.F.slot_dict_get PySem.F.type_dict_get (thn (ho pins s σ H _ I h) fun u s1 ⟨x, H1, I1, rx, a, ex, d, q1⟩ => ?_)
  subst ex
  obtain rfl : u = Value.ref a := rx
  obtain ⟨t1, t2, _⟩ := isD_at I1 d
  refine ⟨t1, t2, ?_⟩
  rw [m.trees]
  refine Calls.callWith_builtin rfl (Calls.evalArgs_plain (Calls.spliced_cons (thn (he pins s1 σ H1 _ I1 q1) fun iv s2 ⟨y, H2, I2, ry, ov, g, q2⟩ => Calls.spliced_nil ?_)))
  exact d_get1 hu I2 g ry fun w' s3 I3 rw' => ⟨_, H2, I3, rw', q2⟩
theorem pe_dget2 (hu : X.A.units + 1 < cLine) (ho : PE X o td) (he : PE X e ty) (hf : PE X f tx) (m : M2 X o "get" apos e f cpos) : PE X (.Call (.Attribute o "get" apos) [e, f] [] cpos) (tDGet2 td ty tx) := by
  intro pins s σ H Q I h
  refine wpAny_Call_method m.base m.few m.line PySem.F.plainAttrs_dict PySem.F.slot_dict_get PySem.F.type_dict_get (thn (ho pins s σ H _ I h) fun u s1 ⟨x, H1, I1, rx, a, ex, d, q1⟩ => ?_)
  subst ex
  obtain rfl : u = Value.ref a := rx
  obtain ⟨t1, t2, _⟩ := isD_at I1 d
  refine ⟨t1, t2, ?_⟩
  rw [m.trees]
  refine Calls.callWith_builtin rfl (Calls.evalArgs_plain (Calls.spliced_cons (thn (he pins s1 σ H1 _ I1 q1) fun iv s2 ⟨y, H2, I2, ry, q2⟩ =>
    Calls.spliced_cons (thn (hf pins s2 σ H2 _ I2 q2) fun fv s3 ⟨z, H3, I3, rz, ov, g, q3⟩ => Calls.spliced_nil ?_))))
  exact d_get2 hu I3 g ry rz fun w' s4 I4 rw' => ⟨_, H3, I4, rw', q3⟩
end

section
variable {X : Cx} {pins : List (Addr × Obj)} {σ : St} {H : Hp} {s : Shared} {a : Addr} {kvs : List (Key × V)} {A : Around} {E : Value → Shared → Prop}
end


section
variable {X : Cx} {pins : List (Addr × Obj)} {σ : St} {H : Hp} {s : Shared} {a : Addr} {y : V} {u : Value} {A : Around} {E : Value → Shared → Prop}
end
end L2

namespace L2
open PySem PySem.Spec PyProof.Rows
section
variable {κ : Type} [DecidableEq κ]
end
end L2

set_option Elab.async false
set_option linter.all false
set_option maxRecDepth 100000
set_option maxHeartbeats 4000000

namespace L2
open PySem PySem.Spec PyProof.Rows

theorem ObjOk.is_there {P : Program} {w : World} {H : Hp} {h : Heap} {a : Addr} {o : HO} (x : ObjOk P w H h a o) : ∃ ob, h.get? a = some ob := by
  cases o with
  | lst xs => obtain ⟨_, _, _, _, e⟩ := x; exact ⟨_, e⟩
  | tup xs => obtain ⟨_, _, _, p⟩ := x; obtain ⟨o, e, _⟩ := p; exact ⟨_, e⟩
  | dK kvs => obtain ⟨_, _, _, _, o, _, _, e, _⟩ := x; exact ⟨_, e⟩
  | dT kvs => obtain ⟨_, _, _, _, o, _, _, e, _⟩ := x; exact ⟨_, e⟩
  | set S n =>
    obtain ⟨o, _, _, _, e, _⟩ := x
    exact ⟨_, e⟩
  | ins C dx fs => obtain ⟨_, _, _, e, _⟩ := x; exact ⟨_, e⟩
  | own y => exact x
  | xd fs => obtain ⟨mA, n, _⟩ := x; obtain ⟨od, e, _⟩ := lookIn_ns n; exact ⟨_, e⟩
  | rng lo hi => obtain ⟨_, _, _, e⟩ := x; exact ⟨_, e⟩
  | frz ob u => exact ⟨_, x.1⟩
  | tbl ps => exact ⟨_, x⟩
  | met f y => exact ⟨_, x⟩
  | ext φ => exact x.2.1
theorem HOk.isnone {P : Program} {w : World} {H : Hp} {h : Heap} {a : Addr} (x : HOk P w H h) (e : h.get? a = none) : H a = none := by
  cases q : H a with
  | none => rfl
  | some u =>
    obtain ⟨ob, z⟩ := (x a u q).is_there
    rw [e] at z
    cases z

/-- an exception in flight over the frames l: B holds all that was there ahead (h0) and all that is tracked -/
structure Fly (l : List Env) (H' : Hp) (h0 : Heap) (ea : Addr) (cls a0 : Value) (B h : Heap) : Prop where
  fly : Heap.FlyingW B l ea cls a0 h
  free : H' ea = none
  new : h0.get? ea = none
  kept : ∀ b o, h.get? b = some o → ((∃ o', h0.get? b = some o') ∨ ∃ u, H' b = some u) → b ∉ frs l → B.get? b = some o

/-- how an exception lies behind a call -/
def CX1 (P : Program) (w : World) : CXT := fun outer H s E e s' =>
  ∃ (ea : Addr) (cls a0 : Value) (B : Heap) (H' : Hp), e = .ref ea ∧ s'.os = s.os ∧ AllBare s'.gens ∧ Un (frs outer) [] H H' s.heap s'.heap ∧ HOk P w H' s'.heap ∧
    Fly outer H' s.heap ea cls a0 B s'.heap ∧ E cls none H'

section
variable {P : Program} {w : World} {l l' : List Env} {H H' : Hp} {h0 h h' B : Heap} {ea : Addr} {cls a0 : Value}
/-- the flight goes on: what matters is kept -/
theorem Fly.next (u : Un (frs l) [] H H' h0 h) (hok : HOk P w H' h) (F : Fly l H' h0 ea cls a0 B h) (fr : ∀ b ∈ frs l, H' b = none) (k : B.StaysIn h') (sl : h.UpToSlots h') :
    HOk P w H' h' ∧ Un (frs l) [] H H' h0 h' ∧ ∀ b o, h.get? b = some o → ((∃ o', h0.get? b = some o') ∨ ∃ u, H' b = some u) → b ∉ frs l → h'.get? b = some o := by
  have keepB : ∀ b o, h.get? b = some o → ((∃ o', h0.get? b = some o') ∨ ∃ u, H' b = some u) → b ∉ frs l → h'.get? b = some o := fun b o q r n => k b o (F.kept b o q r n)
  have frame : ∀ b o, b ∈ frs l → h.get? b = some o → ∃ s2, h'.get? b = some { o with slots := s2 } := fun b o m q => by
    obtain ⟨_, o', q', nf⟩ := F.fly.2.2.1.mem m
    rw [q] at q'
    cases q'
    exact sl b o q nf
  refine ⟨fun a o e => ?_, ⟨fun b o q n nb _ => ?_, fun b o q n m _ => ?_, u.free, fun b o q nx => ?_, u.tups, u.frzs, u.tbls⟩, keepB⟩
  · have tr : ∀ b u, H' b = some u → b ∉ frs l := fun b u q m => by
      rw [fr b m] at q
      cases q
    refine (hok a o e).stay (fun b v hb q => ?_) (fun _ r => r) (fun _ _ r => r)
    rcases hb with rfl | hb
    · exact keepB _ _ q (.inr ⟨_, e⟩) (tr _ _ e)
    · exact keepB _ _ q (.inr ⟨_, hb⟩) (tr _ _ hb)
  · exact keepB b o (u.keep b o q n nb (by simp)) (.inl ⟨o, q⟩) nb
  · obtain ⟨s1, e1⟩ := u.slot b o q n m (by simp)
    obtain ⟨s2, e2⟩ := frame b _ m e1
    exact ⟨s2, e2⟩
  · obtain ⟨o', e1⟩ := u.there b o q (by simp)
    by_cases m : b ∈ frs l
    · obtain ⟨s2, e2⟩ := frame b _ m e1
      exact ⟨_, e2⟩
    · exact ⟨o', keepB b o' e1 (.inl ⟨o, q⟩) m⟩
end

section
variable {X : Cx} {pins : List (Addr × Obj)} {σ : St} {H H' : Hp} {s : Shared} {h h' B : Heap} {ea : Addr} {cls a0 : Value}
/-- from this frame's state to the callers': the frame itself is new -/
theorem Inv.out (I : Inv X pins σ H s) (hex : X.ex = []) (u : Un (frs X.stack) [] H H' s.heap h') : Un X.fs [] X.H₀ H' X.s₀.heap h' := by
  have J := I.base
  rw [hex] at J
  have nL : ∀ b o, X.s₀.heap.get? b = some o → b ≠ X.env.locals := fun b o q z => by
    have h1 := Heap.lt_size q
    have h2 := I.ok.above
    rw [z] at h1
    exact absurd (Nat.lt_of_lt_of_le h1 h2) (Nat.lt_irrefl _)
  have nS : ∀ b o, X.s₀.heap.get? b = some o → b ∉ X.fs → b ∉ frs X.stack := fun b o q nb m => by
    rcases List.mem_cons.mp (I.stkSub b m) with z | z
    · exact nL b o q z
    · exact nb z
  refine ⟨fun b o q n nb _ => ?_, fun b o q n m _ => ?_, fun b o q n _ => ?_, fun b o q _ => ?_, fun b xs q => u.tups b xs (J.tups b xs q), fun b o v q => u.frzs b o v (J.frzs b o v q), fun b ps q => ?_⟩
  · exact u.keep b o (J.keep b o q n nb (by simp)) (J.free b o q n (by simp)) (nS b o q nb) (by simp)
  · obtain ⟨s1, e1⟩ := J.slot b o q n m (by simp)
    obtain ⟨s2, e2⟩ := u.any e1 (J.free b o q n (by simp)) (by simp)
    exact ⟨s2, e2⟩
  · obtain ⟨o', e1⟩ := J.there b o q (by simp)
    exact u.free b o' e1 (J.free b o q n (by simp)) (by simp)
  · obtain ⟨o', e1⟩ := J.there b o q (by simp)
    exact u.there b o' e1 (by simp)
  · obtain ⟨m1, e1⟩ := J.tbls b ps q
    obtain ⟨m2, e2⟩ := u.tbls b _ e1
    exact ⟨m1 ++ m2, by rw [e2, Array.append_assoc]⟩
theorem Inv.stkFree' (I : Inv X pins σ H s) (u : Un (frs X.stack) [] H H' s.heap h) : ∀ b ∈ frs X.stack, H' b = none := fun b m => by
  obtain ⟨_, o, q, _⟩ := I.stack.mem m
  exact u.free b o q (I.stkFree b m) (by simp)
end

section
variable {P : Program} {w : World} {K : PySem.W.Frag} {mg : Str → Option Value} {base : Heap} {N : List Str} {qual : Str} {scope : Scope} {f : Addr} {cdv : Value} {A : Around} {outer : List Env} {s0 : Shared} {H0 : Hp} {E : XK}
/-- an exception of a callee goes through this def -/
theorem pass1 : Passes (CX1 P w) (cxOf (CX1 P w) P w K mg base N qual scope f cdv A outer s0 H0 E) E := by
  intro pins σ H s e s' I hx
  obtain ⟨ea, cls, a0, B, H', rfl, hos, hg, u, hok, F, he⟩ := hx
  have fr := I.stkFree' u
  show wpAny (model P w) (A.deeper (envOfC qual scope s0.heap.objs.size f cdv)) (leaving (envOfC qual scope s0.heap.objs.size f cdv) (.ref ea)) (fun _ s'' => CX1 P w outer H0 s0 E (.ref ea) s'') (fun e' s'' => CX1 P w outer H0 s0 E e' s'') s'
  refine wpAny_leaves_onW (base := B) (cls := cls) (a0 := a0) I.ok.frames rfl F.fly fun h' hfl hup => ?_
  obtain ⟨hok', u', kB⟩ := F.next u hok fr hfl.1 hup
  have new0 : s0.heap.get? ea = none := by
    cases q : s0.heap.get? ea with
    | none => rfl
    | some o =>
      obtain ⟨o', e1⟩ := I.base.there ea o q (by intro z; cases z)
      have := F.new
      rw [e1] at this
      cases this
  refine ⟨ea, cls, a0, B, H', rfl, hos.trans I.os, hg, I.out rfl u', hok', ⟨hfl, F.free, new0, fun b o q r nb => ?_⟩, he⟩
  have nL : b ≠ s0.heap.objs.size := fun z => by
    rcases r with ⟨o', q'⟩ | ⟨v, q'⟩
    · have := Heap.lt_size q'
      rw [z] at this
      exact absurd this (Nat.lt_irrefl _)
    · have e0 := fr s0.heap.objs.size (by
        show s0.heap.objs.size ∈ frs (envOfC qual scope s0.heap.objs.size f cdv :: outer)
        exact List.mem_filterMap.mpr ⟨_, List.mem_cons_self .., rfl⟩)
      rw [z, e0] at q'
      cases q'
  have nS : b ∉ frs (envOfC qual scope s0.heap.objs.size f cdv :: outer) := fun m => by
    rcases List.mem_cons.mp (I.stkSub b m) with z | z
    · exact nL z
    · exact nb z
  have r' : (∃ o', s.heap.get? b = some o') ∨ ∃ v, H' b = some v := by
    rcases r with ⟨o', q'⟩ | r
    · exact .inl (I.base.there b o' q' (by intro z; cases z))
    · exact .inr r
  have there' : ∃ o', s'.heap.get? b = some o' := by
    rcases r' with ⟨o', q'⟩ | ⟨v, q'⟩
    · exact u.there b o' q' (by simp)
    · exact (hok b v q').is_there
  obtain ⟨o', q'⟩ := there'
  have z := F.kept b o' q' r' nS
  have z2 := hfl.1 b o' z
  rw [show h'.get? b = some o from q] at z2
  cases z2
  exact z
end
theorem passF {P : Program} {w : World} {X : Cx} : Passes (CX1 P w) X E0 := fun _ _ _ _ _ _ _ h => by
  obtain ⟨_, _, _, _, _, _, _, _, _, _, _, z⟩ := h
  exact False.elim z

theorem exc_obj {K : PySem.W.Frag} {h : Heap} {C : Addr} {bmB : List Value} {newId : String} (X : K.In h) (q : PySem.W.excIn K C bmB newId = true) :
    ∃ (bm : List Value) (N : Addr) (nm qn : Str) (bs : List Value) (hdct : Bool) (sn : List Str) (sub : List Value) (ab : Bool) (col : Option Bool) (dd : Option Addr) (k0 k1 k2 k3 k5 : Option Value) (mN : Str → Option Value),
      h.get? C = some (excClassObj nm qn C N bs bm hdct sn sub ab col dd k0 k1 k2 k3 k5 newId) ∧ h.Ns N mN ∧ mN "__init__" = none ∧ OwnTail h bmB bm := by
  unfold PySem.W.excIn at q
  split at q
  next dd cd sl ho =>
    split at q
    next C' bm k0 k1 k2 k3 n k5 hm hs =>
      have q' : ((((C' = C ∧ n = newId) ∧ cd.hasDel = false) ∧ PySem.W.tailIn K bmB bm = true) ∧ PySem.W.nsOkIn K cd.ns = true) ∧ PySem.W.nsIn K cd.ns "__init__" = some none := by simpa using q
      obtain ⟨⟨⟨⟨⟨e1, e2⟩, e3⟩, e4⟩, e5⟩, e6⟩ := q'
      obtain ⟨nm, bs, mro, ns, qn, hd, sn, sub, ab, col, del⟩ := cd
      have hl : sl = #[k0, k1, k2, k3, some (.builtin n), k5] := by
        cases sl
        exact congrArg Array.mk hs
      subst e1
      subst e2
      subst hl
      have hm' : mro = .ref C' :: bm := hm
      subst hm'
      have hd' : del = false := e3
      subst hd'
      exact ⟨bm, ns, nm, qn, bs, hd, sn, sub, ab, col, dd, k0, k1, k2, k3, k5, _, X _ _ ho, .of_isNs (PySem.W.isNs_of_in X e5), PySem.W.nsMap_none_of_in X e5 e6, PySem.W.tail_of_in X e4⟩
    next => cases q
  next => cases q

section
variable {P : Program} {w : World} {K : PySem.W.Frag} {mg : Str → Option Value} {base : Heap} {N : List Str} {qual : Str} {scope : Scope} {f : Addr} {cdv : Value} {A : Around} {outer : List Env} {s0 : Shared} {H0 : Hp} {E : XK}
/-- an exception that was just made leaves the def -/
theorem leave1 {pins : List (Addr × Obj)} {σ : St} {H : Hp} {s : Shared} {h' : Heap} {e : Addr} {cls : Value} {us : List Value}
    (I : Inv (cxOf (CX1 P w) P w K mg base N qual scope f cdv A outer s0 H0 E) pins σ H s) (hm : Heap.MadeExcOf s.heap h' e cls us) (q : E cls none H) :
    (cxOf (CX1 P w) P w K mg base N qual scope f cdv A outer s0 H0 E).xe (.ref e) { s with heap := h' } := by
  show wpAny (model P w) (A.deeper (envOfC qual scope s0.heap.objs.size f cdv)) (leaving (envOfC qual scope s0.heap.objs.size f cdv) (.ref e)) (fun _ s'' => CX1 P w outer H0 s0 E (.ref e) s'') (fun e' s'' => CX1 P w outer H0 s0 E e' s'') { s with heap := h' }
  have fr := I.stkFree
  have hin : ∀ env ∈ (envOfC qual scope s0.heap.objs.size f cdv :: outer), ∀ b, env.frame = some b → b ∈ frs (envOfC qual scope s0.heap.objs.size f cdv :: outer) := fun env he b hb => List.mem_filterMap.mpr ⟨env, he, hb⟩
  refine wpAny_leaves_madeW (base := PySem.W.hideAll s.heap (frs (envOfC qual scope s0.heap.objs.size f cdv :: outer))) (h := s.heap) (cls := cls) (args := us) I.ok.frames rfl (fun b o z => PySem.W.of_hideAll _ z) (PySem.W.funFrames_hide I.stack hin) hm fun h2 t hfl _ _ hup => ?_
  have enone : H e = none := I.hok.isnone hm.new
  have keepB : ∀ b o, s.heap.get? b = some o → b ∉ frs (envOfC qual scope s0.heap.objs.size f cdv :: outer) → h2.get? b = some o := fun b o z n => hfl.1 b o (PySem.W.hideAll_get _ z n)
  have u : Un (frs (envOfC qual scope s0.heap.objs.size f cdv :: outer)) [] H H s.heap h2 := by
    refine ⟨fun b o z _ n _ => keepB b o z n, fun b o z _ m _ => ?_, fun _ _ _ n _ => n, fun b o z _ => ?_, fun _ _ z => z, fun _ _ _ z => z, fun _ ps z => ⟨#[], by rw [z]; simp⟩⟩
    · obtain ⟨_, o', z', nf⟩ := I.stack.mem m
      rw [z] at z'
      cases z'
      exact hup b o (hm.keeps b o z) nf
    · by_cases m : b ∈ frs (envOfC qual scope s0.heap.objs.size f cdv :: outer)
      · obtain ⟨_, o', z', nf⟩ := I.stack.mem m
        rw [z] at z'
        cases z'
        obtain ⟨s2, e2⟩ := hup b o (hm.keeps b o z) nf
        exact ⟨_, e2⟩
      · exact ⟨o, keepB b o z m⟩
  have tr : ∀ b v, H b = some v → b ∉ frs (envOfC qual scope s0.heap.objs.size f cdv :: outer) := fun b v z m => by
    rw [fr b m] at z
    cases z
  have hok : HOk P w H h2 := fun a o z => by
    refine (I.hok a o z).stay (fun b v hb z2 => ?_) (fun _ r => r) (fun _ _ r => r)
    rcases hb with rfl | hb
    · exact keepB _ _ z2 (tr _ _ z)
    · exact keepB _ _ z2 (tr _ _ hb)
  have new0 : s0.heap.get? e = none := by
    cases z : s0.heap.get? e with
    | none => rfl
    | some o =>
      obtain ⟨o', e1⟩ := I.base.there e o z (by intro z; cases z)
      have := hm.new
      rw [e1] at this
      cases this
  refine ⟨e, cls, .ref t, _, H, rfl, I.os, I.bare, I.out rfl u, hok, ⟨hfl, enone, new0, fun b o z r nb => ?_⟩, q⟩
  have r' : ∃ o', s.heap.get? b = some o' := by
    rcases r with ⟨o', z'⟩ | ⟨v, z'⟩
    · exact I.base.there b o' z' (by intro z; cases z)
    · exact (I.hok b v z').is_there
  have nS : b ∉ frs (envOfC qual scope s0.heap.objs.size f cdv :: outer) := fun m => by
    rcases List.mem_cons.mp (I.stkSub b m) with y | y
    · rcases r with ⟨o', z'⟩ | ⟨v, z'⟩
      · have h1 := Heap.lt_size z'
        rw [y] at h1
        exact absurd h1 (Nat.lt_irrefl _)
      · exact tr b v z' m
    · exact nb y
  obtain ⟨o', z'⟩ := r'
  have z2 := keepB b o' z' nS
  rw [show h2.get? b = some o from z] at z2
  cases z2
  exact PySem.W.hideAll_get _ z' nS
/-- raise C(e, ..): C an own error class without an __init__ of its own -/
def tRaise (E : XK) (C : Addr) (ta : TA) : TS := fun _ σ H => ta σ H fun vs H1 => vs.length ≤ sizeLine ∧ E (.ref C) none H1
theorem ps_raise {x : Str} {np cpos pos : Pos} {e : Expr} {es : List Expr} {C : Addr} {B newId initId : String} {bmB : List Value} {ta : TA} (FB : ExcBaseFacts B newId initId bmB) (hx : PySem.W.excIn K C bmB newId = true)
    (hg : Gl (cxOf (CX1 P w) P w K mg base N qual scope f cdv A outer s0 H0 E) x) (hm : mg x = some (.ref C)) (ha : PA (cxOf (CX1 P w) P w K mg base N qual scope f cdv A outer s0 H0 E) (e :: es) ta)
    (he : starEach (e :: es) (envOfC qual scope s0.heap.objs.size f cdv) = (false, eval e (envOfC qual scope s0.heap.objs.size f cdv)) :: starEach es (envOfC qual scope s0.heap.objs.size f cdv) := by rfl)
    (hpl : (backTo cpos (starEach es (envOfC qual scope s0.heap.objs.size f cdv))).any (·.1) = false := by rfl) (hdb : (x == ("__debug__" : Str)) = false := by decide) :
    PS (cxOf (CX1 P w) P w K mg base N qual scope f cdv A outer s0 H0 E) (.Raise (some (.Call (.Name x np) (e :: es) [] cpos)) none pos) (tRaise E C ta) := by
  intro pins s σ H D I h
  obtain ⟨bm, N', nm, qn, bs, hdct, sn, sub, ab, col, dd, k0, k1, k2, k3, k5, mN, hC, hN, hni, T⟩ := exc_obj I.mod.kin hx
  have hh : (A.deeper (envOfC qual scope s0.heap.objs.size f cdv)).handled = none := I.ok.hd rfl
  refine wpAny_Raise_call_subT (C := C) (nm := nm) (q := qn) (N := N') (bs := bs) (bm := bm) (hdct := hdct) (sn := sn) (sub := sub) (ab := ab) (col := col) (dd := dd) (k0 := k0) (k1 := k1) (k2 := k2) (k3 := k3) (k5 := k5)
    FB (mN := mN) (T.hasType FB.hasBase) hh ?_ hni (ld_glob I hg hm ⟨rfl, ?_⟩ hdb)
  · show (backTo cpos (starEach (e :: es) (envOfC qual scope s0.heap.objs.size f cdv))).any (·.1) = false
    rw [he]
    show (false || (backTo cpos (starEach es (envOfC qual scope s0.heap.objs.size f cdv))).any (·.1)) = false
    rw [hpl]
    rfl
  · have z := ha cpos pins s σ H _ I h
    show wpAny _ _ (evalArgs (.ref C) true (backTo cpos (starEach (e :: es) (envOfC qual scope s0.heap.objs.size f cdv))) []) _ _ _
    have he' := he
    rw [he]
    refine Calls.evalArgs_plain ?_
    have z' : wpAny (model P w) (A.deeper (envOfC qual scope s0.heap.objs.size f cdv)) (spliced (backTo cpos (starEach (e :: es) (envOfC qual scope s0.heap.objs.size f cdv)))) _ _ s := z
    rw [he] at z'
    refine thn z' fun us s2 ⟨vs, H1, I1, r, hl, q⟩ => ?_
    exact ⟨rfl, by rw [← r.length]; exact hl, I1.bk _ _ hC, hN.keeps I1.bk, T.keeps I1.bk, fun h' e hm => leave1 I1 hm q⟩
end
end L2

set_option Elab.async false
set_option linter.all false
set_option maxRecDepth 100000
set_option maxHeartbeats 4000000

namespace L2
open PySem PySem.Spec PyProof.Rows

def xCall (sp : Sp) (dvs : List V) (t : TA) : St → Hp → VK → XK → Prop := fun σ H Q E => t σ H fun vs H1 => sp (vs ++ dvs) H1 Q E

section
variable {X : Cx} {k : Nat} {f C : Addr} {fd : FuncData} {ps : List Str} {sp : Sp} {dvs : List V} {ds : List Value} {E : XK} {x m : Str} {p pos apos : Pos} {e o : Expr} {es : List Expr} {ta : TE} {t : TA}
end

section
variable {X : Cx} {pins : List (Addr × Obj)} {σ : St} {H H' : Hp} {s s' : Shared} {h' B : Heap} {ea : Addr} {cls a0 : Value}
/-- an untracked object of ours is tracked from here on -/
theorem Inv.track {a : Addr} {o : HO} (I : Inv X pins σ H s) (hn : H a = none) (h1 : X.s₀.heap.get? a = none) (h2 : a ≠ X.env.locals) (h3 : ∀ x c, X.env.cells.lookup x = some c → c ≠ a) (h4 : ∀ p ∈ X.pn ++ pins, p.1 ≠ a)
    (ok : ObjOk X.prog X.w (upd H a o) s.heap a o) : Inv X pins σ (upd H a o) s := by
  have ne : ∀ b u, H b = some u → b ≠ a := fun b u q => ne_of_none q hn
  refine ⟨I.ok, I.os, I.bare, ⟨I.base.keep, I.base.slot, fun b ob q n hx => ?_, I.base.there, fun b xs q => ?_, fun b ob u q => ?_, fun b ps q => ?_⟩, I.loc, I.cell, ?_, fun x c e => ?_, fun p hp => ?_, fun b u q => ?_, I.len⟩
  · have : b ≠ a := fun z => by rw [z, h1] at q; cases q
    rw [upd_ne this]
    exact I.base.free b ob q n hx
  · have z := I.base.tups b xs q
    rw [upd_ne (ne _ _ z)]
    exact z
  · have z := I.base.frzs b ob u q
    rw [upd_ne (ne _ _ z)]
    exact z
  · obtain ⟨mo, z⟩ := I.base.tbls b ps q
    exact ⟨mo, by rw [upd_ne (ne _ _ z)]; exact z⟩
  · rw [upd_ne (Ne.symm h2)]
    exact I.free
  · rw [upd_ne (h3 x c e)]
    exact I.freeC x c e
  · obtain ⟨e, n, r⟩ := I.pin p hp
    exact ⟨e, by rw [upd_ne (h4 p hp)]; exact n, r⟩
  · by_cases hb : b = a
    · subst hb
      rw [upd_same] at q
      cases q
      exact ok
    · rw [upd_ne hb] at q
      exact (I.hok b u q).stay (fun _ _ _ z => z) (fun c z => by rw [upd_ne (ne _ _ z)]; exact z) (fun c xs z => by rw [upd_ne (ne _ _ z)]; exact z)
/-- an exception of the class at C stands at e -/
def ExcO (e C : Addr) : HO := .ext fun h => ∃ ox vs, h.get? e = some ox ∧ ox.cls = .ref C ∧ ox.data = .fields vs
end

/-- the error class at D stands above the one at C (or is it) -/
structure Catches (K : PySem.W.Frag) (C D : Addr) : Prop where
  cl : PySem.W.hasDictIn K D = true
  ty : PySem.W.typeIn K (.ref D) = some (.type "type")
  ex : PySem.W.mroIn K D (.type "BaseException") = some true
  ab : PySem.W.mroIn K C (.ref D) = some true
section
variable {X : Cx} {ce : Expr} {epos pos hpos np : Pos} {x n : Str} {b0 : Stmt} {suite : List Stmt} {D : Addr} {t : St → Hp → VK → XK → Prop} {ts : TS}
/-- try: a call; except D as n: suite -/
def tTryAs (K : PySem.W.Frag) (D : Addr) (i : Nat) (t : St → Hp → VK → XK → Prop) (ts : TS) : TS := fun Dn σ H => t σ H (fun _ H1 => Dn.nx σ H1) fun cls _ H1 => ∃ C, cls = .ref C ∧ Catches K C D ∧
  ∀ ea, H1 ea = none → ts { nx := fun σ' H' => Dn.nx (σ'.set i none) H', rt := Dn.rt, bk := fun σ' H' => Dn.bk (σ'.set i none) H', ct := fun σ' H' => Dn.ct (σ'.set i none) H' } (σ.set i (some (.ref ea))) (upd H1 ea (ExcO ea C))
end
end L2

set_option Elab.async false
set_option linter.all false
set_option maxRecDepth 100000
set_option maxHeartbeats 4000000

namespace L2
open PySem PySem.Spec PyProof.Rows

inductive D where
  | non | bl (b : Bool) | int (i : Int) | str (x : Str) | tup (xs : List D) | lst (xs : List D)
mutual
/-- the value v bears the datum d in H -/
def Rep (K : PySem.W.Frag) (H : Hp) : D → V → Prop
  | .non, v => v = .non
  | .bl b, v => v = .bl b
  | .int i, v => v = .int i
  | .str x, v => v = .str x
  | .tup ds, v => ∃ a xs, v = .ref a ∧ SqT K H a xs ∧ RepL K H ds xs
  | .lst ds, v => ∃ a xs, v = .ref a ∧ SqL K H a xs ∧ RepL K H ds xs
def RepL (K : PySem.W.Frag) (H : Hp) : List D → List V → Prop
  | [], vs => vs = []
  | d :: ds, vs => ∃ v r, vs = v :: r ∧ Rep K H d v ∧ RepL K H ds r
end
mutual
/-- == of data -/
def eqD : D → D → Bool
  | .non, .non => true
  | .bl a, .bl b => a == b
  | .int a, .int b => a == b
  | .bl a, .int b => (if a then 1 else 0) == b
  | .int a, .bl b => a == (if b then 1 else 0)
  | .str a, .str b => a == b
  | .tup xs, .tup ys => eqL xs ys
  | .lst xs, .lst ys => eqL xs ys
  | _, _ => false
def eqL : List D → List D → Bool
  | [], [] => true
  | x :: xs, y :: ys => eqD x y && eqL xs ys
  | _, _ => false
end
mutual
def depD : D → Nat
  | .tup xs => depL xs + 1
  | .lst xs => depL xs + 1
  | _ => 0
def depL : List D → Nat
  | [] => 0
  | x :: xs => max (depD x) (depL xs)
end

theorem eqL_length : ∀ {xs ys : List D}, eqL xs ys = true → xs.length = ys.length
  | [], [], _ => rfl
  | [], _ :: _, h => by simp [eqL] at h
  | _ :: _, [], h => by simp [eqL] at h
  | x :: xs, y :: ys, h => by
    simp only [eqL, Bool.and_eq_true] at h
    simp only [List.length_cons, eqL_length h.2]
mutual
theorem eqD_refl : ∀ d : D, eqD d d = true
  | .non => by simp [eqD]
  | .bl b => by simp [eqD]
  | .int i => by simp [eqD]
  | .str x => by simp [eqD]
  | .tup xs => by simp only [eqD]; exact eqL_refl xs
  | .lst xs => by simp only [eqD]; exact eqL_refl xs
theorem eqL_refl : ∀ d : List D, eqL d d = true
  | [] => by simp [eqL]
  | x :: xs => by simp only [eqL, Bool.and_eq_true]; exact ⟨eqD_refl x, eqL_refl xs⟩
end
theorem RepL.length {K : PySem.W.Frag} {H : Hp} : ∀ {ds : List D} {vs : List V}, RepL K H ds vs → ds.length = vs.length
  | [], vs, h => by
    simp only [RepL] at h
    rw [h]; rfl
  | d :: ds, vs, h => by
    simp only [RepL] at h
    obtain ⟨v, r, rfl, _, h2⟩ := h
    simp only [List.length_cons, RepL.length h2]
theorem RepL.get {K : PySem.W.Frag} {H : Hp} : ∀ {ds : List D} {vs : List V} {i : Nat} {d : D}, RepL K H ds vs → ds[i]? = some d → ∃ v, vs[i]? = some v ∧ Rep K H d v
  | [], _, _, _, _, e => by simp at e
  | d :: ds, vs, i, d', h, e => by
    simp only [RepL] at h
    obtain ⟨v, r, rfl, h1, h2⟩ := h
    cases i with
    | zero => simp at e; subst e; exact ⟨v, rfl, h1⟩
    | succ i =>
      obtain ⟨v', e', h'⟩ := RepL.get h2 (by simpa using e)
      exact ⟨v', by simpa using e', h'⟩
theorem SqL.same {K : PySem.W.Frag} {H H' : Hp} {a : Addr} {xs : List V} (e : Same H H') (h : SqL K H a xs) : SqL K H' a xs := e.seq h
theorem SqT.same {K : PySem.W.Frag} {H H' : Hp} {a : Addr} {xs : List V} (e : Same H H') (h : SqT K H a xs) : SqT K H' a xs := by
  rcases h with (h | ⟨o, h⟩) | h
  · exact .inl (.inl (e _ _ h))
  · exact .inl (.inr ⟨o, e _ _ h⟩)
  · exact .inr h
mutual
theorem Rep.same {K : PySem.W.Frag} {H H' : Hp} (e : Same H H') : ∀ {d : D} {v : V}, Rep K H d v → Rep K H' d v
  | .non, _, h => by simpa only [Rep] using h
  | .bl _, _, h => by simpa only [Rep] using h
  | .int _, _, h => by simpa only [Rep] using h
  | .str _, _, h => by simpa only [Rep] using h
  | .tup ds, _, h => by
    simp only [Rep] at h ⊢
    obtain ⟨a, xs, h1, h2, h3⟩ := h
    exact ⟨a, xs, h1, h2.same e, RepL.same e h3⟩
  | .lst ds, _, h => by
    simp only [Rep] at h ⊢
    obtain ⟨a, xs, h1, h2, h3⟩ := h
    exact ⟨a, xs, h1, h2.same e, RepL.same e h3⟩
theorem RepL.same {K : PySem.W.Frag} {H H' : Hp} (e : Same H H') : ∀ {d : List D} {v : List V}, RepL K H d v → RepL K H' d v
  | [], _, h => by simpa only [RepL] using h
  | x :: xs, _, h => by
    simp only [RepL] at h ⊢
    obtain ⟨v, r, h1, h2, h3⟩ := h
    exact ⟨v, r, h1, Rep.same e h2, RepL.same e h3⟩
end

section
variable {X : Cx} {pins : List (Addr × Obj)} {σ : St} {H : Hp} {s : Shared}
theorem Inv.list_tuple (I : Inv X pins σ H s) {a : Addr} {xs ys : List V} (h : SqL X.K H a xs) (h' : SqT X.K H a ys) : False := by
  obtain ⟨_, _, p, _⟩ := I.list h
  obtain ⟨_, _, q, _⟩ := I.tuple h'
  obtain ⟨o, _, e1, c1, _⟩ := p
  obtain ⟨o', e2, c2, _⟩ := q
  rw [e1] at e2
  cases e2
  rw [c1] at c2
  exact absurd c2 (by decide)
mutual
theorem Inv.rep_inj (I : Inv X pins σ H s) : ∀ {d e : D} {v : V}, Rep X.K H d v → Rep X.K H e v → d = e
  | .non, e, v, h, h' => by
    simp only [Rep] at h; subst h
    cases e <;> simp [Rep] at h' ⊢
  | .bl _, e, v, h, h' => by
    simp only [Rep] at h; subst h
    cases e <;> simp [Rep] at h' ⊢
    exact h'
  | .int _, e, v, h, h' => by
    simp only [Rep] at h; subst h
    cases e <;> simp [Rep] at h' ⊢
    exact h'
  | .str _, e, v, h, h' => by
    simp only [Rep] at h; subst h
    cases e <;> simp [Rep] at h' ⊢
    exact h'
  | .tup ds, e, v, h, h' => by
    simp only [Rep] at h
    obtain ⟨a, xs, rfl, h2, h3⟩ := h
    cases e with
    | tup es =>
      simp only [Rep] at h'
      obtain ⟨a', ys, q, g2, g3⟩ := h'
      cases q
      have := I.tuple_inj h2 g2
      subst this
      rw [Inv.repL_inj I h3 g3]
    | lst es =>
      simp only [Rep] at h'
      obtain ⟨a', ys, q, g2, g3⟩ := h'
      cases q
      exact (I.list_tuple g2 h2).elim
    | _ => simp [Rep] at h'
  | .lst ds, e, v, h, h' => by
    simp only [Rep] at h
    obtain ⟨a, xs, rfl, h2, h3⟩ := h
    cases e with
    | lst es =>
      simp only [Rep] at h'
      obtain ⟨a', ys, q, g2, g3⟩ := h'
      cases q
      have := I.list_inj h2 g2
      subst this
      rw [Inv.repL_inj I h3 g3]
    | tup es =>
      simp only [Rep] at h'
      obtain ⟨a', ys, q, g2, g3⟩ := h'
      cases q
      exact (I.list_tuple h2 g2).elim
    | _ => simp [Rep] at h'
theorem Inv.repL_inj (I : Inv X pins σ H s) : ∀ {d e : List D} {v : List V}, RepL X.K H d v → RepL X.K H e v → d = e
  | [], e, v, h, h' => by
    simp only [RepL] at h; subst h
    cases e <;> simp [RepL] at h' ⊢
  | x :: xs, e, v, h, h' => by
    simp only [RepL] at h
    obtain ⟨u, r, rfl, h1, h2⟩ := h
    cases e with
    | nil => simp [RepL] at h'
    | cons y ys =>
      simp only [RepL] at h'
      obtain ⟨u', r', q, g1, g2⟩ := h'
      cases q
      rw [Inv.rep_inj I h1 g1, Inv.repL_inj I h2 g2]
end
end
def zipAll {α β : Type} (f : α → β → Bool) : List α → List β → Bool
  | [], [] => true
  | x :: xs, y :: ys => f x y && zipAll f xs ys
  | _, _ => false
def atB {α β : Type} (f : α → β → Bool) (xs : List α) (ys : List β) (j : Nat) : Bool := match xs[j]?, ys[j]? with
  | some x, some y => f x y
  | _, _ => true
theorem zipAll_range {α β : Type} (f : α → β → Bool) : ∀ (xs : List α) (ys : List β),
    ((List.range (min xs.length ys.length)).all (atB f xs ys) && (xs.length == ys.length)) = zipAll f xs ys
  | [], [] => by simp [zipAll]
  | [], _ :: _ => by simp [zipAll]
  | _ :: _, [] => by simp [zipAll]
  | x :: xs, y :: ys => by
    have ih := zipAll_range f xs ys
    simp only [zipAll, List.length_cons]
    rw [← ih, Nat.succ_min_succ, List.range_succ_eq_map, List.all_cons, List.all_map]
    have e : ((List.range (min xs.length ys.length)).all (atB f (x :: xs) (y :: ys) ∘ Nat.succ)) = (List.range (min xs.length ys.length)).all (atB f xs ys) := by
      congr 1
    rw [e]
    have e0 : atB f (x :: xs) (y :: ys) 0 = f x y := by unfold atB; simp
    rw [e0, Bool.and_assoc]
    congr 2
    simp

theorem eqL_zip : ∀ xs ys : List D, eqL xs ys = zipAll eqD xs ys
  | [], [] => by simp [eqL, zipAll]
  | [], _ :: _ => by simp [eqL, zipAll]
  | _ :: _, [] => by simp [eqL, zipAll]
  | x :: xs, y :: ys => by simp only [eqL, zipAll, eqL_zip xs ys]
theorem depD_mem : ∀ {ds : List D} {d : D}, d ∈ ds → depD d ≤ depL ds
  | [], _, h => by simp at h
  | x :: xs, d, h => by
    simp only [depL]
    rcases List.mem_cons.mp h with rfl | h
    · exact Nat.le_max_left ..
    · exact Nat.le_trans (depD_mem h) (Nat.le_max_right ..)
def flatD : D → Bool
  | .tup _ => false
  | .lst _ => false
  | _ => true
def valD : D → V
  | .bl b => .bl b
  | .int i => .int i
  | .str x => .str x
  | _ => .non
theorem rep_flat {K : PySem.W.Frag} {H : Hp} {d : D} {v : V} (f : flatD d = true) (h : Rep K H d v) : v = valD d := by
  cases d <;> simp_all [flatD, Rep, valD]
theorem flat_val {d : D} (f : flatD d = true) : flatV (valD d) = true := by
  cases d <;> simp_all [flatD, valD, flatV]
theorem eqV_val {d e : D} (f : flatD d = true) (g : flatD e = true) : eqV (valD d) (valD e) = eqD d e := by
  cases d <;> cases e <;> simp_all [flatD, valD, eqV, eqD]
section
variable {X : Cx} {pins : List (Addr × Obj)} {σ : St} {H : Hp} {s : Shared}
theorem in1_units (A : Around) : A.in1.units = A.units + 1 := rfl
/-- items by items -/
def EqP (X : Cx) (H : Hp) (s : Shared) (n : Nat) : Prop := ∀ (d e : D) (A : Around) (x y : V) (u v : Value), depD d ≤ n → Rep X.K H d x → Rep X.K H e y → RelV x u → RelV y v → A.units + n < cLine → SeqAt.EqAt A s u v (eqD d e)
theorem items_eq {n : Nat} (ih : EqP X H s n) {ds es : List D} {xs ys : List V} {its jts : List Value} (h3 : RepL X.K H ds xs) (g3 : RepL X.K H es ys) (vi : Vals xs its) (vj : Vals ys jts) (hds : depL ds ≤ n) {A : Around} (hA : A.units + n < cLine) :
    ∀ j (p1 : j < its.toArray.size) (p2 : j < jts.toArray.size), SeqAt.EqAt A s its.toArray[j] jts.toArray[j] (atB eqD ds es j) := by
  intro j p1 p2
  have l1 : its.length = ds.length := by rw [h3.length, vi.length]
  have l2 : jts.length = es.length := by rw [g3.length, vj.length]
  have q1 : j < ds.length := by rw [← l1]; simpa using p1
  have q2 : j < es.length := by rw [← l2]; simpa using p2
  obtain ⟨v1, e1, r1⟩ := h3.get (List.getElem?_eq_getElem q1)
  obtain ⟨v2, e2, r2⟩ := g3.get (List.getElem?_eq_getElem q2)
  obtain ⟨u1, f1, s1⟩ := vi.get e1
  obtain ⟨u2, f2, s2⟩ := vj.get e2
  have z1 : its.toArray[j] = u1 := by
    have := f1
    rw [List.getElem?_eq_getElem (by simpa using p1)] at this
    simpa using this
  have z2 : jts.toArray[j] = u2 := by
    have := f2
    rw [List.getElem?_eq_getElem (by simpa using p2)] at this
    simpa using this
  rw [z1, z2]
  have eb : atB eqD ds es j = eqD ds[j] es[j] := by
    unfold atB
    rw [List.getElem?_eq_getElem q1, List.getElem?_eq_getElem q2]
  rw [eb]
  exact ih _ _ _ _ _ _ _ (Nat.le_trans (depD_mem (List.getElem_mem q1)) hds) r1 r2 s1 s2 hA
theorem tup_eq (I : Inv X pins σ H s) {n : Nat} (ih : EqP X H s n) {ds es : List D} {a b : Addr} {xs ys : List V} (h2 : SqT X.K H a xs) (h3 : RepL X.K H ds xs) (g2 : SqT X.K H b ys) (g3 : RepL X.K H es ys) (hds : depL ds ≤ n) {A : Around} (hA : A.units + (n + 1) < cLine) :
    SeqAt.RcAt A s (.ref a) (.ref b) (eqD (.tup ds) (.tup es)) ∧ SeqAt.RcNeAt A s (.ref a) (.ref b) (!eqD (.tup ds) (.tup es)) := by
  obtain ⟨its, vi, ht, _⟩ := I.tuple h2
  obtain ⟨jts, vj, hu, _⟩ := I.tuple g2
  have l1 : its.length = ds.length := by rw [h3.length, vi.length]
  have l2 : jts.length = es.length := by rw [g3.length, vj.length]
  have it := items_eq ih h3 g3 vi vj hds (A := A.in1) (by rw [in1_units]; omega)
  have eb : eqD (.tup ds) (.tup es) = ((List.range (min its.toArray.size jts.toArray.size)).all (atB eqD ds es) && its.toArray.size == jts.toArray.size) := by
    simp only [eqD, eqL_zip]
    rw [← zipAll_range]
    simp only [List.size_toArray, l1, l2]
  rw [eb]
  exact ⟨SeqAt.RcAt.tuples ht hu (by omega) it, SeqAt.RcNeAt.tuples ht hu (by omega) it⟩
theorem lst_eq (I : Inv X pins σ H s) {n : Nat} (ih : EqP X H s n) {ds es : List D} {a b : Addr} {xs ys : List V} (h2 : SqL X.K H a xs) (h3 : RepL X.K H ds xs) (g2 : SqL X.K H b ys) (g3 : RepL X.K H es ys) (hds : depL ds ≤ n) {A : Around} (hA : A.units + (n + 1) < cLine) :
    SeqAt.RcAt A s (.ref a) (.ref b) (eqD (.lst ds) (.lst es)) ∧ SeqAt.RcNeAt A s (.ref a) (.ref b) (!eqD (.lst ds) (.lst es)) := by
  obtain ⟨its, vi, ht, _⟩ := I.list h2
  obtain ⟨jts, vj, hu, _⟩ := I.list g2
  have l1 : its.length = ds.length := by rw [h3.length, vi.length]
  have l2 : jts.length = es.length := by rw [g3.length, vj.length]
  have it := items_eq ih h3 g3 vi vj hds (A := A.in1) (by rw [in1_units]; omega)
  by_cases hl : ds.length = es.length
  · have eb : eqD (.lst ds) (.lst es) = (List.range its.toArray.size).all (atB eqD ds es) := by
      simp only [eqD, eqL_zip]
      rw [← zipAll_range]
      simp [l1, hl]
    rw [eb]
    exact ⟨SeqAt.RcAt.lists ht.isList hu.isList (by simp [l1, l2, hl]) (by omega) it, SeqAt.RcNeAt.lists ht.isList hu.isList (by simp [l1, l2, hl]) (by omega) it⟩
  · have eb : eqD (.lst ds) (.lst es) = false := by
      cases q : eqD (.lst ds) (.lst es) with
      | false => rfl
      | true => simp only [eqD] at q; exact absurd (eqL_length q) hl
    rw [eb]
    exact ⟨SeqAt.RcAt.lists_lengths ht.isList hu.isList (by simp [l1, l2, hl]) (by omega), SeqAt.RcNeAt.lists_lengths ht.isList hu.isList (by simp [l1, l2, hl]) (by omega)⟩
/-- what a tuple's and a list's values look like, for both sides -/
theorem rep_ref {K : PySem.W.Frag} {d : D} {x : V} (h : Rep K H d x) : (flatD d = true ∧ x = valD d) ∨ (∃ ds a xs, d = .tup ds ∧ x = .ref a ∧ SqT K H a xs ∧ RepL K H ds xs) ∨ ∃ ds a xs, d = .lst ds ∧ x = .ref a ∧ SqL K H a xs ∧ RepL K H ds xs := by
  cases d with
  | tup ds => simp only [Rep] at h; obtain ⟨a, xs, h1, h2, h3⟩ := h; exact .inr (.inl ⟨ds, a, xs, rfl, h1, h2, h3⟩)
  | lst ds => simp only [Rep] at h; obtain ⟨a, xs, h1, h2, h3⟩ := h; exact .inr (.inr ⟨ds, a, xs, rfl, h1, h2, h3⟩)
  | _ => exact .inl ⟨rfl, rep_flat rfl h⟩
theorem mixed_eq (I : Inv X pins σ H s) {d e : D} {x y : V} {u v : Value} (hd : Rep X.K H d x) (he : Rep X.K H e y) (ru : RelV x u) (rv : RelV y v) (m : flatD d = !flatD e) {A : Around} (hA : A.units < cLine) :
    eqD d e = false ∧ SeqAt.EqAt A s u v false ∧ SeqAt.RcAt A s u v false ∧ SeqAt.RcNeAt A s u v true := by
  rcases rep_ref hd with ⟨fd, rfl⟩ | ⟨ds, a, xs, rfl, rfl, h2, h3⟩ | ⟨ds, a, xs, rfl, rfl, h2, h3⟩
  · rcases rep_ref he with ⟨fe, rfl⟩ | ⟨es, b, ys, rfl, rfl, g2, g3⟩ | ⟨es, b, ys, rfl, rfl, g2, g3⟩
    · rw [fd, fe] at m; cases m
    · obtain rfl : v = Value.ref b := rv
      obtain ⟨jts, vj, hu, _⟩ := I.tuple g2
      refine ⟨by cases d <;> simp [eqD, flatD] at fd ⊢, ?_⟩
      cases d <;> simp only [valD, RelV] at ru <;> first | (simp [flatD] at fd; done) | skip
      · subst ru; exact ⟨SeqAt.EqAt.none_tuple hu hA, SeqAt.RcAt.none_tuple hu hA, SeqAt.RcNeAt.none_tuple hu hA⟩
      · subst ru; exact ⟨SeqAt.EqAt.bool_tuple _ hu hA, SeqAt.RcAt.bool_tuple _ hu hA, SeqAt.RcNeAt.bool_tuple _ hu hA⟩
      · obtain ⟨t, rfl⟩ := ru; exact ⟨SeqAt.EqAt.int_tuple _ _ hu hA, SeqAt.RcAt.int_tuple _ _ hu hA, SeqAt.RcNeAt.int_tuple _ _ hu hA⟩
      · obtain ⟨t, rfl⟩ := ru; exact ⟨SeqAt.EqAt.str_tuple _ _ hu hA, SeqAt.RcAt.str_tuple _ _ hu hA, SeqAt.RcNeAt.str_tuple _ _ hu hA⟩
    · obtain rfl : v = Value.ref b := rv
      obtain ⟨jts, vj, hu, _⟩ := I.list g2
      have hu := hu.isList
      refine ⟨by cases d <;> simp [eqD, flatD] at fd ⊢, ?_⟩
      cases d <;> simp only [valD, RelV] at ru <;> first | (simp [flatD] at fd; done) | skip
      · subst ru; exact ⟨SeqAt.EqAt.none_list hu hA, SeqAt.RcAt.none_list hu hA, SeqAt.RcNeAt.none_list hu hA⟩
      · subst ru; exact ⟨SeqAt.EqAt.bool_list _ hu hA, SeqAt.RcAt.bool_list _ hu hA, SeqAt.RcNeAt.bool_list _ hu hA⟩
      · obtain ⟨t, rfl⟩ := ru; exact ⟨SeqAt.EqAt.int_list _ _ hu hA, SeqAt.RcAt.int_list _ _ hu hA, SeqAt.RcNeAt.int_list _ _ hu hA⟩
      · obtain ⟨t, rfl⟩ := ru; exact ⟨SeqAt.EqAt.str_list _ _ hu hA, SeqAt.RcAt.str_list _ _ hu hA, SeqAt.RcNeAt.str_list _ _ hu hA⟩
  · rcases rep_ref he with ⟨fe, rfl⟩ | ⟨es, b, ys, rfl, rfl, g2, g3⟩ | ⟨es, b, ys, rfl, rfl, g2, g3⟩
    · obtain rfl : u = Value.ref a := ru
      obtain ⟨jts, vj, hu, _⟩ := I.tuple h2
      refine ⟨by cases e <;> simp [eqD, flatD] at fe ⊢, ?_⟩
      cases e <;> simp only [valD, RelV] at rv <;> first | (simp [flatD] at fe; done) | skip
      · subst rv; exact ⟨SeqAt.EqAt.tuple_none hu hA, SeqAt.RcAt.tuple_none hu hA, SeqAt.RcNeAt.tuple_none hu hA⟩
      · subst rv; exact ⟨SeqAt.EqAt.tuple_bool _ hu hA, SeqAt.RcAt.tuple_bool _ hu hA, SeqAt.RcNeAt.tuple_bool _ hu hA⟩
      · obtain ⟨t, rfl⟩ := rv; exact ⟨SeqAt.EqAt.tuple_int _ _ hu hA, SeqAt.RcAt.tuple_int _ _ hu hA, SeqAt.RcNeAt.tuple_int _ _ hu hA⟩
      · obtain ⟨t, rfl⟩ := rv; exact ⟨SeqAt.EqAt.tuple_str _ _ hu hA, SeqAt.RcAt.tuple_str _ _ hu hA, SeqAt.RcNeAt.tuple_str _ _ hu hA⟩
    · simp [flatD] at m
    · simp [flatD] at m
  · rcases rep_ref he with ⟨fe, rfl⟩ | ⟨es, b, ys, rfl, rfl, g2, g3⟩ | ⟨es, b, ys, rfl, rfl, g2, g3⟩
    · obtain rfl : u = Value.ref a := ru
      obtain ⟨jts, vj, hu, _⟩ := I.list h2
      have hu := hu.isList
      refine ⟨by cases e <;> simp [eqD, flatD] at fe ⊢, ?_⟩
      cases e <;> simp only [valD, RelV] at rv <;> first | (simp [flatD] at fe; done) | skip
      · subst rv; exact ⟨SeqAt.EqAt.list_none hu hA, SeqAt.RcAt.list_none hu hA, SeqAt.RcNeAt.list_none hu hA⟩
      · subst rv; exact ⟨SeqAt.EqAt.list_bool _ hu hA, SeqAt.RcAt.list_bool _ hu hA, SeqAt.RcNeAt.list_bool _ hu hA⟩
      · obtain ⟨t, rfl⟩ := rv; exact ⟨SeqAt.EqAt.list_int _ _ hu hA, SeqAt.RcAt.list_int _ _ hu hA, SeqAt.RcNeAt.list_int _ _ hu hA⟩
      · obtain ⟨t, rfl⟩ := rv; exact ⟨SeqAt.EqAt.list_str _ _ hu hA, SeqAt.RcAt.list_str _ _ hu hA, SeqAt.RcNeAt.list_str _ _ hu hA⟩
    · simp [flatD] at m
    · simp [flatD] at m
/-- two sequences: a pair of kinds -/
theorem seq_eq (I : Inv X pins σ H s) {n : Nat} (ih : EqP X H s n) {d e : D} {x y : V} {u v : Value} (hn : depD d ≤ n + 1) (hd : Rep X.K H d x) (he : Rep X.K H e y) (ru : RelV x u) (rv : RelV y v) (fd : flatD d = false) (fe : flatD e = false) {A : Around} (hA : A.units + (n + 1) < cLine) :
    SeqAt.EqAt A s u v (eqD d e) ∧ SeqAt.RcAt A s u v (eqD d e) ∧ SeqAt.RcNeAt A s u v (!eqD d e) := by
  have hd0 := hd
  have he0 := he
  rcases rep_ref hd with ⟨f, _⟩ | ⟨ds, a, xs, rfl, rfl, h2, h3⟩ | ⟨ds, a, xs, rfl, rfl, h2, h3⟩
  · rw [f] at fd; cases fd
  · obtain rfl : u = Value.ref a := ru
    have hds : depL ds ≤ n := by simp only [depD] at hn; omega
    rcases rep_ref he with ⟨f, _⟩ | ⟨es, b, ys, rfl, rfl, g2, g3⟩ | ⟨es, b, ys, rfl, rfl, g2, g3⟩
    · rw [f] at fe; cases fe
    · obtain rfl : v = Value.ref b := rv
      have R := tup_eq I ih h2 h3 g2 g3 hds hA
      refine ⟨?_, R.1, R.2⟩
      by_cases hab : a = b
      · subst hab
        rw [I.rep_inj hd0 he0, eqD_refl]
        exact SeqAt.EqAt.same _
      · exact SeqAt.EqAt.of_refs hab R.1
    · obtain rfl : v = Value.ref b := rv
      obtain ⟨its, _, ht, _⟩ := I.tuple h2
      obtain ⟨jts, _, hu, _⟩ := I.list g2
      exact ⟨SeqAt.EqAt.tuple_list ht hu.isList (by omega), SeqAt.RcAt.tuple_list ht hu.isList (by omega), SeqAt.RcNeAt.tuple_list ht hu.isList (by omega)⟩
  · obtain rfl : u = Value.ref a := ru
    have hds : depL ds ≤ n := by simp only [depD] at hn; omega
    rcases rep_ref he with ⟨f, _⟩ | ⟨es, b, ys, rfl, rfl, g2, g3⟩ | ⟨es, b, ys, rfl, rfl, g2, g3⟩
    · rw [f] at fe; cases fe
    · obtain rfl : v = Value.ref b := rv
      obtain ⟨its, _, ht, _⟩ := I.list h2
      obtain ⟨jts, _, hu, _⟩ := I.tuple g2
      exact ⟨SeqAt.EqAt.list_tuple ht.isList hu (by omega), SeqAt.RcAt.list_tuple ht.isList hu (by omega), SeqAt.RcNeAt.list_tuple ht.isList hu (by omega)⟩
    · obtain rfl : v = Value.ref b := rv
      have R := lst_eq I ih h2 h3 g2 g3 hds hA
      refine ⟨?_, R.1, R.2⟩
      by_cases hab : a = b
      · subst hab
        rw [I.rep_inj hd0 he0, eqD_refl]
        exact SeqAt.EqAt.same _
      · exact SeqAt.EqAt.of_refs hab R.1
theorem Inv.eqP (I : Inv X pins σ H s) : ∀ n, EqP X H s n
  | 0 => fun d e A x y u v hn hd he ru rv hA => by
    have fd : flatD d = true := by
      cases d <;> simp [depD, flatD] at hn ⊢
    cases fe : flatD e with
    | true =>
      have ex := rep_flat fd hd
      have ey := rep_flat fe he
      subst ex ey
      rw [← eqV_val fd fe]
      exact eqAt_V ru rv (flat_val fd) (flat_val fe)
    | false =>
      obtain ⟨e1, e2, _⟩ := mixed_eq I hd he ru rv (by rw [fd, fe]; rfl) (A := A) (by omega)
      rw [e1]
      exact e2
  | n + 1 => fun d e A x y u v hn hd he ru rv hA => by
    cases fd : flatD d with
    | true =>
      have h0 : depD d ≤ n := by cases d <;> simp [depD, flatD] at fd ⊢
      exact Inv.eqP I n d e A x y u v h0 hd he ru rv (by omega)
    | false =>
      cases fe : flatD e with
      | true =>
        obtain ⟨e1, e2, _⟩ := mixed_eq I hd he ru rv (by rw [fd, fe]; rfl) (A := A) (by omega)
        rw [e1]
        exact e2
      | false => exact (seq_eq I (Inv.eqP I n) hn hd he ru rv fd fe hA).1

/-- x == y, x != y: scalars by themselves, the rest by the data that they bear -/
def rEqU (K : PySem.W.Frag) : R2 := fun x y H Q => match x, y with
  | .int i, .int j => Q (.bl (decide (i = j))) H
  | .str i, .str j => Q (.bl (decide (i = j))) H
  | .bl i, .bl j => Q (.bl (decide (i = j))) H
  | .non, .non => Q (.bl true) H
  | x, y => ∃ d e, Rep K H d x ∧ Rep K H e y ∧ depD d ≤ 50 ∧ (flatD d && flatD e) = false ∧ Q (.bl (eqD d e)) H
def rNeU (K : PySem.W.Frag) : R2 := fun x y H Q => match x, y with
  | .int i, .int j => Q (.bl (!decide (i = j))) H
  | .str i, .str j => Q (.bl (!decide (i = j))) H
  | .bl i, .bl j => Q (.bl (!decide (i = j))) H
  | .non, .non => Q (.bl false) H
  | x, y => ∃ d e, Rep K H d x ∧ Rep K H e y ∧ depD d ≤ 50 ∧ (flatD d && flatD e) = false ∧ Q (.bl (!eqD d e)) H
theorem op_eqU (hu : X.A.units + 64 < cLine) : OpR X (compareOp .Eq) (rEqU X.K) := fun pins s σ H x y v u Q I rx ry q => by
  unfold rEqU at q
  split at q
  · rename_i i j; exact op_eq pins s σ H _ _ v u Q I rx ry ⟨rfl, by rw [show decide (V.int i = V.int j) = decide (i = j) from by simp]; exact q⟩
  · rename_i i j; exact op_eq pins s σ H _ _ v u Q I rx ry ⟨rfl, by rw [show decide (V.str i = V.str j) = decide (i = j) from by simp]; exact q⟩
  · rename_i i j; exact op_eq pins s σ H _ _ v u Q I rx ry ⟨rfl, by rw [show decide (V.bl i = V.bl j) = decide (i = j) from by simp]; exact q⟩
  · exact op_eq pins s σ H _ _ v u Q I rx ry ⟨rfl, by simpa using q⟩
  · obtain ⟨d, e, hd, he, hn, hf, q⟩ := q
    show wpAny (model X.prog X.w) X.A (richCompare .Eq v u) (EP X pins σ Q) X.xe s
    cases fd : flatD d with
    | true =>
      cases fe : flatD e with
      | true => rw [fd, fe] at hf; cases hf
      | false =>
        obtain ⟨e1, _, e3, _⟩ := mixed_eq I hd he rx ry (by rw [fd, fe]; rfl) (A := X.A) (by omega)
        rw [e1] at q
        exact e3 _ _ _ _ ⟨V.bl _, H, I, rfl, q⟩
    | false =>
      cases fe : flatD e with
      | true =>
        obtain ⟨e1, _, e3, _⟩ := mixed_eq I hd he rx ry (by rw [fd, fe]; rfl) (A := X.A) (by omega)
        rw [e1] at q
        exact e3 _ _ _ _ ⟨V.bl _, H, I, rfl, q⟩
      | false => exact (seq_eq I (I.eqP 49) hn hd he rx ry fd fe (by omega)).2.1 _ _ _ _ ⟨V.bl _, H, I, rfl, q⟩
theorem op_neU (hu : X.A.units + 64 < cLine) : OpR X (compareOp .NotEq) (rNeU X.K) := fun pins s σ H x y v u Q I rx ry q => by
  unfold rNeU at q
  split at q
  · rename_i i j; exact op_ne pins s σ H _ _ v u Q I rx ry ⟨rfl, by rw [show decide (V.int i = V.int j) = decide (i = j) from by simp]; exact q⟩
  · rename_i i j; exact op_ne pins s σ H _ _ v u Q I rx ry ⟨rfl, by rw [show decide (V.str i = V.str j) = decide (i = j) from by simp]; exact q⟩
  · rename_i i j; exact op_ne pins s σ H _ _ v u Q I rx ry ⟨rfl, by rw [show decide (V.bl i = V.bl j) = decide (i = j) from by simp]; exact q⟩
  · exact op_ne pins s σ H _ _ v u Q I rx ry ⟨rfl, by simpa using q⟩
  · obtain ⟨d, e, hd, he, hn, hf, q⟩ := q
    show wpAny (model X.prog X.w) X.A (richCompare .NotEq v u) (EP X pins σ Q) X.xe s
    cases fd : flatD d with
    | true =>
      cases fe : flatD e with
      | true => rw [fd, fe] at hf; cases hf
      | false =>
        obtain ⟨e1, _, _, e3⟩ := mixed_eq I hd he rx ry (by rw [fd, fe]; rfl) (A := X.A) (by omega)
        rw [e1] at q
        exact e3 _ _ _ _ ⟨V.bl _, H, I, rfl, q⟩
    | false =>
      cases fe : flatD e with
      | true =>
        obtain ⟨e1, _, _, e3⟩ := mixed_eq I hd he rx ry (by rw [fd, fe]; rfl) (A := X.A) (by omega)
        rw [e1] at q
        exact e3 _ _ _ _ ⟨V.bl _, H, I, rfl, q⟩
      | false => exact (seq_eq I (I.eqP 49) hn hd he rx ry fd fe (by omega)).2.2 _ _ _ _ ⟨V.bl _, H, I, rfl, q⟩
end

def DivOk (j : Int) : Prop := j ≠ 0 ∧ j.natAbs.log2 < 9000
section
variable {X : Cx}
def rAddU (K : PySem.W.Frag) : R2 := fun x y H Q => match x, y with
  | .int i, .int j => Q (.int (i + j)) H
  | .str i, .str j => i.length + j.length ≤ sizeLine ∧ Q (.str (i ++ j)) H
  | .ref a, .ref b => rCat (.ref a) (.ref b) H Q ∨ rCatT K (.ref a) (.ref b) H Q
  | _, _ => False
theorem op_addU : OpR X (binaryOp .Add) (rAddU X.K) := fun pins s σ H x y v u Q I rx ry q => by
  unfold rAddU at q
  split at q
  · exact op_add pins s σ H _ _ v u Q I rx ry ⟨_, _, rfl, rfl, q⟩
  · exact op_add_str pins s σ H _ _ v u Q I rx ry ⟨_, _, rfl, rfl, q.1, q.2⟩
  · rcases q with q | q
    · exact op_cat pins s σ H _ _ v u Q I rx ry q
    · exact op_catT pins s σ H _ _ v u Q I rx ry q
  · exact q.elim
def rMulU : R2 := fun x y H Q => match x, y with
  | .int i, .int j => IntMulOk i j ∧ Q (.int (i * j)) H
  | _, _ => False
theorem op_mulI : OpR X (binaryOp .Mult) (rI IntMulOk fun i j => .int (i * j)) := opI fun _ _ _ _ _ _ _ hc q => mul_int q hc
theorem op_mulU : OpR X (binaryOp .Mult) rMulU := fun pins s σ H x y v u Q I rx ry q => by
  unfold rMulU at q
  split at q
  · exact op_mulI pins s σ H _ _ v u Q I rx ry ⟨_, _, rfl, rfl, q.1, q.2⟩
  · exact q.elim
def rFdivU : R2 := fun x y H Q => match x, y with
  | .int i, .int j => DivOk j ∧ Q (.int (i.fdiv j)) H
  | _, _ => False
theorem op_fdivI : OpR X (binaryOp .FloorDiv) (rI (fun _ j => DivOk j) fun i j => .int (i.fdiv j)) := opI fun _ _ _ _ _ _ _ hc q => floordiv_int hc.1 q (.inl (PyProof.noPylong_of_log2 hc.2))
theorem op_fdivU : OpR X (binaryOp .FloorDiv) rFdivU := fun pins s σ H x y v u Q I rx ry q => by
  unfold rFdivU at q
  split at q
  · exact op_fdivI pins s σ H _ _ v u Q I rx ry ⟨_, _, rfl, rfl, q.1, q.2⟩
  · exact q.elim
def rModU : R2 := fun x y H Q => match x, y with
  | .int i, .int j => j ≠ 0 ∧ Q (.int (i.fmod j)) H
  | _, _ => False
theorem op_modU : OpR X (binaryOp .Mod) rModU := fun pins s σ H x y v u Q I rx ry q => by
  unfold rModU at q
  split at q
  · exact op_modN pins s σ H _ _ v u Q I rx ry ⟨_, _, rfl, rfl, q.1, q.2⟩
  · exact q.elim
def rPowU : R2 := fun x y H Q => match x, y with
  | .int i, .int j => CPow i j ∧ Q (.int (i ^ j.toNat)) H
  | _, _ => False
theorem op_powU : OpR X (binaryOp .Pow) rPowU := fun pins s σ H x y v u Q I rx ry q => by
  unfold rPowU at q
  split at q
  · exact op_pow pins s σ H _ _ v u Q I rx ry ⟨_, _, rfl, rfl, q.1, q.2⟩
  · exact q.elim
def rCmpU (p : Int → Int → Bool) : R2 := fun x y H Q => match x, y with
  | .int i, .int j => Q (.bl (p i j)) H
  | _, _ => False
theorem op_cmpU {op : CmpOp} {p : Int → Int → Bool} (h : OpR X (compareOp op) (rI0 fun i j => .bl (p i j))) : OpR X (compareOp op) (rCmpU p) := fun pins s σ H x y v u Q I rx ry q => by
  unfold rCmpU at q
  split at q
  · exact h pins s σ H _ _ v u Q I rx ry ⟨_, _, rfl, rfl, q⟩
  · exact q.elim
theorem op_ltU : OpR X (compareOp .Lt) (rCmpU fun i j => decide (i < j)) := op_cmpU op_lt
theorem op_gtU : OpR X (compareOp .Gt) (rCmpU fun i j => decide (j < i)) := op_cmpU op_gt
theorem op_geU : OpR X (compareOp .GtE) (rCmpU fun i j => decide (j ≤ i)) := op_cmpU op_ge

def SqA (K : PySem.W.Frag) (H : Hp) (a : Addr) (xs : List V) : Prop := SqL K H a xs ∨ SqT K H a xs
def rIxU (K : PySem.W.Frag) : R2 := fun x y H Q => match x, y with
  | .ref p, .int i => ∃ xs v, SqA K H p xs ∧ atI xs i = some v ∧ Q v H
  | .str z, .int i => ∃ c, z.length ≤ sizeLine ∧ atI z.cps.toList i = some c ∧ Q (.str ⟨#[c]⟩) H
  | _, _ => False
theorem ix_U : IxR X (rIxU X.K) := fun value slice pins s σ H x y v u Q I rx ry q hs => by
  unfold rIxU at q
  split at q
  · obtain ⟨xs, w, h | h, e, q⟩ := q
    · exact ix_list value slice pins s σ H _ _ v u Q I rx ry ⟨_, _, _, _, rfl, rfl, h, e, q⟩ hs
    · exact ix_tup value slice pins s σ H _ _ v u Q I rx ry ⟨_, _, _, _, rfl, rfl, h, e, q⟩ hs
  · obtain ⟨c, h1, h2, q⟩ := q
    exact ix_str value slice pins s σ H _ _ v u Q I rx ry ⟨_, _, _, rfl, rfl, h1, h2, q⟩ hs
  · exact q.elim
def rLen (K : PySem.W.Frag) : List V → Hp → VK → Prop := fun xs H Q => match xs with
  | [.ref p] => ∃ ys, SqA K H p ys ∧ Q (.int ys.length) H
  | [.str z] => z.length ≤ sizeLine ∧ Q (.int z.length) H
  | _ => False
theorem call_lenU : CallR X (.builtin "len") (rLen X.K) := fun pins s σ H xs us Q I r q => by
  unfold rLen at q
  split at q
  · obtain ⟨ys, h, q⟩ := q
    exact call_len_seq pins s σ H _ us Q I r ⟨_, _, rfl, h, q⟩
  · exact call_len_str pins s σ H _ us Q I r ⟨_, rfl, q.1, q.2⟩
  · exact q.elim
def rAbs : List V → Hp → VK → Prop := fun xs H Q => match xs with
  | [.int i] => Q (.int (if i < 0 then -i else i)) H
  | _ => False
theorem call_absU : CallR X (.builtin "abs") rAbs := fun pins s σ H xs us Q I r q => by
  unfold rAbs at q
  split at q
  · exact call_abs pins s σ H _ us Q I r ⟨_, rfl, q⟩
  · exact q.elim
def rMin : List V → Hp → VK → Prop := fun xs H Q => match xs with
  | [.int i, .int j] => Q (.int (if j < i then j else i)) H
  | _ => False
def isiB (t T : String) : Bool := t == T || (t == "bool" && T == "int")
def tyN (K : PySem.W.Frag) (H : Hp) (x : V) (t : String) : Prop := match x with
  | .int _ => t = "int"
  | .str _ => t = "str"
  | .bl _ => t = "bool"
  | .non => t = "NoneType"
  | .ref a => (t = "list" ∧ ∃ xs, SqL K H a xs) ∨ (t = "tuple" ∧ ∃ xs, SqT K H a xs)
  | _ => False
theorem kit_b (K : PySem.W.Frag) {t T : String} (ht : t ∈ ["int", "str", "bool", "NoneType", "list", "tuple"]) (hT : T ∈ ["int", "str", "bool", "list", "tuple"]) : PySem.W.kitOne K (.type t) (.type T) = some (isiB t T) := by
  simp only [List.mem_cons, List.not_mem_nil, or_false] at ht hT
  rcases ht with rfl | rfl | rfl | rfl | rfl | rfl <;> rcases hT with rfl | rfl | rfl | rfl | rfl <;> with_unfolding_all rfl
def rIsi (K : PySem.W.Frag) : List V → Hp → VK → Prop := fun xs H Q => match xs with
  | [x, .ty T] => T ∈ ["int", "str", "bool", "list", "tuple"] ∧ ∃ t, tyN K H x t ∧ Q (.bl (isiB t T)) H
  | _ => False
theorem call_isinstanceU : CallR X (.builtin "isinstance") (rIsi X.K) := fun pins s σ H xs us Q I r q => by
  unfold rIsi at q
  split at q
  · rename_i x T
    obtain ⟨hT, t, ht, q⟩ := q
    obtain ⟨u, c, rfl, ru, rc⟩ := vals2 r
    obtain rfl : c = Value.type T := rc
    have fin : ∀ tk, EP X pins σ Q (.bool (isiB t T)) { s with toks := tk } := fun tk => ⟨V.bl _, H, I.tok tk, rfl, q⟩
    unfold tyN at ht
    split at ht
    · subst ht; obtain ⟨_, rfl⟩ := ru; exact PySem.W.kia_one PySem.W.kitx_int I.kIn True.intro (kit_b _ (by decide) hT) (fun z => nomatch z) fin
    · subst ht; obtain ⟨_, rfl⟩ := ru; exact PySem.W.kia_one PySem.W.kitx_str I.kIn True.intro (kit_b _ (by decide) hT) (fun z => nomatch z) fin
    · subst ht; cases (show u = Value.bool _ from ru); exact PySem.W.kia_one PySem.W.kitx_bool I.kIn True.intro (kit_b _ (by decide) hT) (fun z => nomatch z) fin
    · subst ht; cases (show u = Value.none from ru); exact PySem.W.kia_one PySem.W.kitx_none I.kIn True.intro (kit_b _ (by decide) hT) (fun z => nomatch z) fin
    · rename_i a
      cases (show u = Value.ref a from ru)
      rcases ht with ⟨rfl, ys, h⟩ | ⟨rfl, ys, h⟩
      · obtain ⟨its, _, p, _⟩ := I.list h
        obtain ⟨o, _, h1, h2, _⟩ := p
        exact PySem.W.kia_one PySem.W.kitx_list I.kIn ⟨o, h1, h2⟩ (kit_b _ (by decide) hT) (fun z => nomatch z) fin
      · obtain ⟨its, _, p, _⟩ := I.tuple h
        obtain ⟨o, h1, h2, _⟩ := p
        exact PySem.W.kia_one PySem.W.kitx_tuple I.kIn ⟨o, h1, h2⟩ (kit_b _ (by decide) hT) (fun z => nomatch z) fin
    · exact ht.elim
  · exact q.elim
end

section
variable {X : Cx} {tg : Expr}
def iAny (K : PySem.W.Frag) (tl : TE) : TI := fun σ H R => tl σ H fun x H1 => ∃ a, x = .ref a ∧ (((∃ xs, SqL K H1 a xs) ∧ R (Itl K a) H1) ∨ ((∃ xs, SqT K H1 a xs) ∧ R (Itt K a) H1))
theorem pi_U {l : Expr} {tl : TE} (hl : PE X l tl) : PI X tg l (iAny X.K tl) := fun pins s σ H R I h => by
  refine thn (hl pins s σ H _ I h) fun v s1 ⟨x, H1, I1, r1, a, ex, q⟩ => ?_
  subst ex
  cases r1
  rcases q with ⟨⟨xs, hq⟩, q⟩ | ⟨⟨xs, hq⟩, q⟩
  · obtain ⟨its, rv, p, hz⟩ := I1.list hq
    refine wpAny_pyIter_list p.isList ?_
    refine ⟨s1.heap.objs.size, [s1.heap.objs.size], _, _, H1, rfl, I1.kept (t' := s1.toks) fun b o e => Heap.get?_push_of_some _ e, turn_list a _, ⟨_, Heap.get?_push_size _ rfl, rfl, rfl⟩, fun b hb => ?_, q⟩
    have e : b = s1.heap.objs.size := by simpa using hb
    subst e
    exact I1.fpOk (Nat.le_refl _) (I1.hok.fresh (Nat.le_refl _))
  · obtain ⟨its, rv, p, hz⟩ := I1.tuple hq
    refine wpAny_pyIter_tuple (show s1.heap.IsTuple a its.toArray from p) ?_
    refine ⟨s1.heap.objs.size, [s1.heap.objs.size], _, _, H1, rfl, I1.kept (t' := s1.toks) fun b o e => Heap.get?_push_of_some _ e, turn_tuple a _, ⟨_, Heap.get?_push_size _ rfl, rfl, rfl⟩, fun b hb => ?_, q⟩
    have e : b = s1.heap.objs.size := by simpa using hb
    subst e
    exact I1.fpOk (Nat.le_refl _) (I1.hok.fresh (Nat.le_refl _))
/-- for x in a sequence that the body leaves as it is -/
theorem for_any {K : PySem.W.Frag} {a : Addr} {xs : List V} {g : TG} {tb : TS} {D : Ends} {σ : St} {H : Hp} (hA : SqA K H a xs) (Pv : Nat → St → Hp → Prop) (h0 : Pv 0 σ H) (hl : ∀ i σ H', i ≤ xs.length → Pv i σ H' → Same H H')
    (hs : ∀ i x σ H, xs[i]? = some x → Pv i σ H → g x σ H fun σ2 H2 => tb { D with nx := Pv (i + 1), ct := Pv (i + 1), bk := D.nx } σ2 H2) (hd : ∀ σ H, Pv xs.length σ H → D.nx σ H) :
    ((∃ xs, SqL K H a xs) ∧ ∃ W : Nat → Nat → St → Hp → Prop, (∃ m, W 0 m σ H) ∧ ∀ i m σ H, W i m σ H →
      ((Itl K a).stop i H ∧ D.nx σ H) ∨ ((Itl K a).go i H ∧ ∃ N : St → Hp → Prop, (∀ σ' H', N σ' H' → ∃ m', m' < m ∧ W (i + 1) m' σ' H') ∧ ∀ x H', (Itl K a).yld i H x H' → g x σ H' fun σ2 H2 => tb { D with nx := N, ct := N, bk := D.nx } σ2 H2)) ∨
    ((∃ xs, SqT K H a xs) ∧ ∃ W : Nat → Nat → St → Hp → Prop, (∃ m, W 0 m σ H) ∧ ∀ i m σ H, W i m σ H →
      ((Itt K a).stop i H ∧ D.nx σ H) ∨ ((Itt K a).go i H ∧ ∃ N : St → Hp → Prop, (∀ σ' H', N σ' H' → ∃ m', m' < m ∧ W (i + 1) m' σ' H') ∧ ∀ x H', (Itt K a).yld i H x H' → g x σ H' fun σ2 H2 => tb { D with nx := N, ct := N, bk := D.nx } σ2 H2)) := by
  rcases hA with hA | hA
  · exact .inl ⟨⟨xs, hA⟩, for_list (xs := xs) Pv h0 (fun i σ H' hi hp => hA.same (hl i σ H' hi hp)) hs hd⟩
  · exact .inr ⟨⟨xs, hA⟩, for_tup (xs := xs) Pv h0 (fun i σ H' hi hp => hA.same (hl i σ H' hi hp)) hs hd⟩
end

structure FunD (K : PySem.W.Frag) (x qual : Str) (st : Stmt) (dV : Value) (f : Addr) (fd : FuncData) : Prop where
  ex : ∃ (oc : Value) (od : Option Addr) (kV doc pm : Value) (an : Option Addr) (cdv ct : Value) (osl : Array (Option Value)),
    fd = PySem.W.fnOf x qual (defArgs st) (defBody st) (defScope st) dV kV doc pm an cdv ct ∧ K.lookup f = some ⟨oc, od, .func fd, osl⟩ ∧ PySem.W.codeIn K cdv qual = true
  kp : PySem.W.keepIn K (.ref f) = true
section
variable {P : Program} {w : World} {K : PySem.W.Frag} {mg : Str → Option Value} {base : Heap}
/-- a def that lets no exception out -/
theorem FunD.okn {x qual : Str} {st : Stmt} {dV : Value} {f : Addr} {fd : FuncData} {N ps : List Str} {k : Nat} {sp : Sp} (F : FunD K x qual st dV f fd) (S : FnScope N ps (defScope st)) (len : ∀ vs H Q E, sp vs H Q E → vs.length = ps.length)
    (hbody : ∀ (cdv : Value) (A : Around) (outer : List Env) (s : Shared) (H : Hp) (vs : List V) (Q : VK) (E : XK), Room k (A.deeper (envOfC qual (defScope st) s.heap.objs.size f cdv)) → sp vs H Q E →
      ∃ t, PSs (cxOf (CX1 P w) P w K mg base N qual (defScope st) f cdv A outer s H E).nox (defBody st) t ∧ t { nx := fun _ H' => Q .non H', rt := Q } (start N vs) H) : FnOk P w K mg base (CX1 P w) (k + 1) f fd ps sp := by
  obtain ⟨oc, od, kV, doc, pm, an, cdv, ct, osl, rfl, lk, hcd⟩ := F.ex
  refine fn_of lk hcd S len fun A outer s H vs Q E hr hsp => ?_
  obtain ⟨t, h, q⟩ := hbody cdv A outer s H vs Q E hr hsp
  exact ⟨t, h.nox, q⟩
/-- a def that may raise -/
theorem FunD.okx {x qual : Str} {st : Stmt} {dV : Value} {f : Addr} {fd : FuncData} {N ps : List Str} {k : Nat} {sp : Sp} (F : FunD K x qual st dV f fd) (S : FnScope N ps (defScope st)) (len : ∀ vs H Q E, sp vs H Q E → vs.length = ps.length)
    (hbody : ∀ (cdv : Value) (A : Around) (outer : List Env) (s : Shared) (H : Hp) (vs : List V) (Q : VK) (E : XK), Room k (A.deeper (envOfC qual (defScope st) s.heap.objs.size f cdv)) → sp vs H Q E →
      ∃ t, PSs (cxOf (CX1 P w) P w K mg base N qual (defScope st) f cdv A outer s H E) (defBody st) t ∧ t { nx := fun _ H' => Q .non H', rt := Q } (start N vs) H) : FnOk P w K mg base (CX1 P w) (k + 1) f fd ps sp := by
  obtain ⟨oc, od, kV, doc, pm, an, cdv, ct, osl, rfl, lk, hcd⟩ := F.ex
  exact fn_of lk hcd S len fun A outer s H vs Q E hr hsp => hbody cdv A outer s H vs Q E hr hsp
theorem FunD.binds {x qual : Str} {st : Stmt} {dV : Value} {f : Addr} {fd : FuncData} {ps : List Str} (F : FunD K x qual st dV f fd)
    (h : ∀ (kV doc pm : Value) (an : Option Addr) (cdv ct : Value) (us : List Value), us.length = ps.length → bindArgs (PySem.W.fnOf x qual (defArgs st) (defBody st) (defScope st) dV kV doc pm an cdv ct) ⟨us, []⟩ = pure (ps.zip us)) : Binds K fd ps [] := by
  obtain ⟨oc, od, kV, doc, pm, an, cdv, ct, osl, rfl, lk, hcd⟩ := F.ex
  exact .all (h kV doc pm an cdv ct)
theorem funD_mk {x qual : Str} {st : Stmt} {dV : Value} {f : Addr} {oc : Value} {od an : Option Addr} {osl : Array (Option Value)} {kV doc pm cdv ct : Value} (l : K.lookup f = some ⟨oc, od, .func (PySem.W.fnOf x qual (defArgs st) (defBody st) (defScope st) dV kV doc pm an cdv ct), osl⟩)
    (c : PySem.W.codeIn K cdv qual = true) (k : PySem.W.keepIn K (.ref f) = true) : FunD K x qual st dV f (PySem.W.fnOf x qual (defArgs st) (defBody st) (defScope st) dV kV doc pm an cdv ct) := ⟨⟨oc, od, kV, doc, pm, an, cdv, ct, osl, rfl, l, c⟩, k⟩
end
/-- a def that may be called: its promise, its name, its defaults dvs -/
structure Cal (P : Program) (w : World) (K : PySem.W.Frag) (mg : Str → Option Value) (base : Heap) (k : Nat) (x : Str) (ps : List Str) (dvs : List V) (sp : Sp) : Prop where
  ex : ∃ (f : Addr) (fd : FuncData) (ds : List Value), FnOk P w K mg base (CX1 P w) k f fd ps sp ∧ mg x = some (.ref f) ∧ PySem.W.keepIn K (.ref f) = true ∧ Binds K fd ps ds ∧ Vals dvs ds
section
variable {X : Cx} {k k' : Nat} {x : Str} {ps : List Str} {dvs : List V} {sp : Sp} {E : XK} {p pos : Pos} {e : Expr} {es : List Expr} {t : TA}
theorem Cal.ev (G : Cal X.prog X.w X.K X.mg X.base k x ps dvs sp) (hr : Room k' X.A) (hk : k ≤ k') (hg : Gl X x) (hx : Passes (CX1 X.prog X.w) X E) (ha : PA X (e :: es) t)
    (hdb : (x == ("__debug__" : Str)) = false := by decide) (he : starEach (e :: es) X.env = (false, eval e X.env) :: starEach es X.env := by rfl) (hpl : (backTo pos (starEach es X.env)).any (·.1) = false := by rfl) :
    PE X (.Call (.Name x p) (e :: es) [] pos) (tCall sp dvs E t) := by
  obtain ⟨f, fd, ds, F, hm, kp, hb, hd⟩ := G.ex
  exact pe_call F (hr.mono hk) hg hm kp hb hd hx ha hdb he hpl
theorem Cal.ev0 (G : Cal X.prog X.w X.K X.mg X.base k x ps dvs sp) (hr : Room k' X.A) (hk : k ≤ k') (hg : Gl X x) (hx : Passes (CX1 X.prog X.w) X E) (hdb : (x == ("__debug__" : Str)) = false := by decide) :
    PE X (.Call (.Name x p) [] [] pos) (tCall sp dvs E tNil) := by
  obtain ⟨f, fd, ds, F, hm, kp, hb, hd⟩ := G.ex
  exact pe_call0 F (hr.mono hk) hg hm kp hb hd hx hdb
end
end L2

namespace Mth
/-- the greatest common divisor as an int -/
def g (a b : Int) : Int := (Int.gcd a b : Nat)
theorem g_zero (a : Int) : g a 0 = (a.natAbs : Int) := by unfold g; rw [Int.gcd_zero_right]
theorem g_pos {a b : Int} (h : b ≠ 0) : 0 < g a b := by
  unfold g
  exact Int.natCast_pos.mpr (Int.gcd_pos_of_ne_zero_right a h)
theorem g_dvd1 (a b : Int) : g a b ∣ a := Int.gcd_dvd_left ..
theorem g_dvd2 (a b : Int) : g a b ∣ b := Int.gcd_dvd_right ..
theorem g_step (a b : Int) : g b (a % b) = g a b := by
  unfold g
  rw [Int.gcd_comm b (a % b)]
  first
    | rw [Int.gcd_emod_left] 
    | (rw [Int.emod_def]; simp [Int.gcd_comm])
theorem g_abs (a b : Int) : g (if a < 0 then -a else a) (if b < 0 then -b else b) = g a b := by
  unfold g
  split <;> split <;> simp [Int.neg_gcd, Int.gcd_neg]
theorem abs_nn (a : Int) : 0 ≤ (if a < 0 then -a else a) := by split <;> omega
theorem g_le {a b : Int} (h : b ≠ 0) : g a b ≤ (b.natAbs : Int) := by
  unfold g
  exact Int.ofNat_le.mpr (Nat.le_of_dvd (by omega) (Int.natAbs_dvd_natAbs.mpr (by simpa using Int.gcd_dvd_right (a := a) (b := b)) |> fun z => by simpa using z))

theorem fm {x y : Int} (h : 0 < y) : 0 ≤ x.fmod y ∧ x.fmod y < y := by
  rw [Int.fmod_eq_emod_of_nonneg _ (by omega)]
  exact ⟨Int.emod_nonneg _ (by omega), Int.emod_lt_of_pos _ h⟩
theorem g_fstep {x y : Int} (h : 0 < y) : g y (x.fmod y) = g x y := by
  rw [Int.fmod_eq_emod_of_nonneg _ (by omega)]
  exact g_step x y
/-- a fraction made: what the program tells for a bottom that is not 0 -/
def by_ (t b : Int) : Int := if b < 0 then -(g t b) else g t b
def top (t b : Int) : Int := t.fdiv (by_ t b)
def bot (t b : Int) : Int := b.fdiv (by_ t b)
theorem by_ne {t b : Int} (h : b ≠ 0) : by_ t b ≠ 0 := by
  have := g_pos (a := t) h
  unfold by_; split <;> omega
theorem by_dvd1 (t b : Int) : by_ t b ∣ t := by
  unfold by_; split
  · exact Int.neg_dvd.mpr (g_dvd1 t b)
  · exact g_dvd1 t b
theorem by_dvd2 (t b : Int) : by_ t b ∣ b := by
  unfold by_; split
  · exact Int.neg_dvd.mpr (g_dvd2 t b)
  · exact g_dvd2 t b
theorem fdiv_mul {a d : Int} (h : d ∣ a) (hd : d ≠ 0) : a.fdiv d * d = a := by
  obtain ⟨k, rfl⟩ := h
  rw [Int.mul_comm d k, Int.mul_fdiv_cancel _ hd]
theorem top_mul {t b : Int} (h : b ≠ 0) : top t b * by_ t b = t := fdiv_mul (by_dvd1 t b) (by_ne h)
theorem bot_mul {t b : Int} (h : b ≠ 0) : bot t b * by_ t b = b := fdiv_mul (by_dvd2 t b) (by_ne h)
theorem bot_pos {t b : Int} (h : b ≠ 0) : 1 ≤ bot t b := by
  have h1 := bot_mul (t := t) h
  have h2 := g_pos (a := t) h
  by_cases hb : b < 0
  · have e : by_ t b = -(g t b) := by unfold by_; rw [if_pos hb]
    rw [e] at h1
    have h3 : bot t b * g t b = -b := by rw [Int.mul_neg] at h1; omega
    rcases Int.lt_trichotomy (bot t b) 0 with z | z | z
    · have := Int.mul_neg_of_neg_of_pos z h2; omega
    · rw [z] at h3; omega
    · omega
  · have e : by_ t b = g t b := by unfold by_; rw [if_neg hb]
    rw [e] at h1
    rcases Int.lt_trichotomy (bot t b) 0 with z | z | z
    · have := Int.mul_neg_of_neg_of_pos z h2; omega
    · rw [z] at h1; omega
    · omega
theorem cross {t b : Int} (h : b ≠ 0) : top t b * b = t * bot t b := by
  have h1 := top_mul (t := t) h
  have h2 := bot_mul (t := t) h
  calc top t b * b = top t b * (bot t b * by_ t b) := by rw [h2]
    _ = (top t b * by_ t b) * bot t b := by rw [Int.mul_comm (bot t b), Int.mul_assoc]
    _ = t * bot t b := by rw [h1]
theorem natAbs_by (t b : Int) : (by_ t b).natAbs = Int.gcd t b := by
  unfold by_ g; split <;> simp
theorem g_low {t b : Int} (h : b ≠ 0) : g (top t b) (bot t b) = 1 := by
  have hg : 0 < Int.gcd t b := Int.gcd_pos_of_ne_zero_right t h
  have e : Int.gcd (top t b * by_ t b) (bot t b * by_ t b) = Int.gcd (top t b) (bot t b) * (by_ t b).natAbs := Int.gcd_mul_right ..
  rw [top_mul h, bot_mul h, natAbs_by] at e
  have : Int.gcd (top t b) (bot t b) = 1 := by
    rcases Nat.lt_trichotomy (Int.gcd (top t b) (bot t b)) 1 with z | z | z
    · have : Int.gcd (top t b) (bot t b) = 0 := by omega
      rw [this] at e; omega
    · exact z
    · have := Nat.mul_le_mul_right (Int.gcd t b) z
      omega
  unfold g; rw [this]; rfl
theorem dvd_of_cop {a b d : Int} (g1 : Int.gcd a b = 1) (h : b ∣ a * d) : b ∣ d := by
  have h' : b.natAbs ∣ a.natAbs * d.natAbs := by rw [← Int.natAbs_mul]; exact Int.natAbs_dvd_natAbs.mpr h
  have c : Nat.Coprime b.natAbs a.natAbs := by
    unfold Nat.Coprime
    rw [Nat.gcd_comm]
    exact g1
  exact Int.natAbs_dvd_natAbs.mp (c.dvd_of_dvd_mul_left h')
/-- a fraction in lowest terms is known by its value -/
theorem low_unique {a b c d : Int} (hb : 1 ≤ b) (hd : 1 ≤ d) (h1 : g a b = 1) (h2 : g c d = 1) (e : a * d = c * b) : a = c ∧ b = d := by
  have g1 : Int.gcd a b = 1 := by unfold g at h1; omega
  have g2 : Int.gcd c d = 1 := by unfold g at h2; omega
  have d1 : b ∣ d := by
    have : b ∣ a * d := ⟨c, by rw [e, Int.mul_comm]⟩
    exact dvd_of_cop g1 this
  have d2 : d ∣ b := by
    have : d ∣ c * b := ⟨a, by rw [← e, Int.mul_comm]⟩
    exact dvd_of_cop g2 this
  have eb : b = d := Int.dvd_antisymm (by omega) (by omega) d1 d2
  subst eb
  refine ⟨?_, rfl⟩
  exact Int.eq_of_mul_eq_mul_right (by omega) e
theorem top_le {t b : Int} (h : b ≠ 0) : (top t b).natAbs ≤ t.natAbs := by
  have h1 := top_mul (t := t) h
  have h2 : (by_ t b).natAbs ≠ 0 := by have := by_ne (t := t) h; omega
  have h3 := congrArg Int.natAbs h1
  rw [Int.natAbs_mul] at h3
  rw [← h3]
  exact Nat.le_mul_of_pos_right _ (by omega)
theorem bot_le {t b : Int} (h : b ≠ 0) : (bot t b).natAbs ≤ b.natAbs := by
  have h1 := bot_mul (t := t) h
  have h2 : (by_ t b).natAbs ≠ 0 := by have := by_ne (t := t) h; omega
  have h3 := congrArg Int.natAbs h1
  rw [Int.natAbs_mul] at h3
  calc (bot t b).natAbs ≤ (bot t b).natAbs * (by_ t b).natAbs := Nat.le_mul_of_pos_right _ (by omega)
    _ = b.natAbs := h3
/-- the law's own way to lowest terms -/
theorem low_eq {t b : Int} (h : b ≠ 0) : (if b < 0 then -t else t).fdiv (g (if b < 0 then -t else t) (if b < 0 then -b else b)) = top t b ∧ (if b < 0 then -b else b).fdiv (g (if b < 0 then -t else t) (if b < 0 then -b else b)) = bot t b := by
  have h1 := top_mul (t := t) h
  have h2 := bot_mul (t := t) h
  have hp := g_pos (a := t) h
  by_cases c : b < 0
  · have e : by_ t b = -(g t b) := by unfold by_; rw [if_pos c]
    simp only [if_pos c]
    have eg : g (-t) (-b) = g t b := by unfold g; simp [Int.neg_gcd, Int.gcd_neg]
    rw [eg]
    rw [e, Int.mul_neg] at h1 h2
    constructor
    · have : -t = top t b * g t b := by omega
      rw [this, Int.mul_fdiv_cancel _ (by omega)]
    · have : -b = bot t b * g t b := by omega
      rw [this, Int.mul_fdiv_cancel _ (by omega)]
  · have e : by_ t b = g t b := by unfold by_; rw [if_neg c]
    simp only [if_neg c]
    unfold top bot
    rw [e]
    exact ⟨rfl, rfl⟩
theorem log2_le {n k : Nat} (h : n < 2 ^ k) (hk : k < 9000) : n.log2 < 9000 := by
  by_cases z : n = 0
  · rw [z]; decide
  · exact Nat.lt_trans ((Nat.log2_lt z).mpr h) hk
/-- how many bits at most -/
def Sz (n : Nat) (i : Int) : Prop := i.natAbs < 2 ^ n
theorem Sz.mono {m n : Nat} {i : Int} (h : Sz m i) (k : m ≤ n) : Sz n i := Nat.lt_of_lt_of_le h (Nat.pow_le_pow_right (by decide) k)
theorem Sz.mul {m n : Nat} {i j : Int} (h : Sz m i) (k : Sz n j) : Sz (m + n) (i * j) := by
  unfold Sz at *
  rw [Int.natAbs_mul, Nat.pow_add]
  exact Nat.mul_lt_mul'' h k
theorem Sz.add {n : Nat} {i j : Int} (h : Sz n i) (k : Sz n j) : Sz (n + 1) (i + j) := by
  unfold Sz at *
  have := Int.natAbs_add_le i j
  rw [Nat.pow_succ]
  omega
theorem Sz.neg {n : Nat} {i : Int} (h : Sz n i) : Sz n (-i) := by
  unfold Sz at *
  rw [Int.natAbs_neg]
  exact h
theorem Sz.top {n : Nat} {t b : Int} (hb : b ≠ 0) (h : Sz n t) : Sz n (Mth.top t b) := Nat.lt_of_le_of_lt (top_le hb) h
theorem Sz.bot {n : Nat} {t b : Int} (hb : b ≠ 0) (h : Sz n b) : Sz n (Mth.bot t b) := Nat.lt_of_le_of_lt (bot_le hb) h
theorem Sz.lit {n : Nat} {i : Int} (h1 : -(2 ^ n) < i) (h2 : i < 2 ^ n) : Sz n i := by
  unfold Sz
  have e : ((2 ^ n : Nat) : Int) = 2 ^ n := by simp
  omega
end Mth

set_option maxHeartbeats 4000000
namespace Mth
theorem gcd_of_g {a b : Int} (h : g a b = 1) : Int.gcd a b = 1 := by unfold g at h; omega
theorem g_of_gcd {a b : Int} (h : Int.gcd a b = 1) : g a b = 1 := by unfold g; rw [h]; rfl
theorem cop_mulr {t x y : Int} (h1 : Int.gcd t x = 1) (h2 : Int.gcd t y = 1) : Int.gcd t (x * y) = 1 := by
  unfold Int.gcd at *
  rw [Int.natAbs_mul]
  exact Nat.Coprime.mul_right h1 h2
theorem cop_of_all {x y : Int} (h : ∀ k : Int, k ∣ x → k ∣ y → k ∣ 1) : Int.gcd x y = 1 := by
  have := h (Int.gcd x y : Nat) (Int.gcd_dvd_left ..) (Int.gcd_dvd_right ..)
  have z := Int.natAbs_dvd_natAbs.mpr this
  simp at z
  exact z
theorem dvd_one_of {k x y : Int} (h : Int.gcd x y = 1) (h1 : k ∣ x) (h2 : k ∣ y) : k ∣ 1 := by
  have z := Int.dvd_coe_gcd h1 h2
  rw [h] at z
  exact z
theorem cop_sub {t u x : Int} (h : Int.gcd t x = 1) (d : u ∣ t) : Int.gcd u x = 1 := cop_of_all fun k h1 h2 => dvd_one_of h (Int.dvd_trans h1 d) h2
theorem cop_comm {x y : Int} (h : Int.gcd x y = 1) : Int.gcd y x = 1 := by rw [Int.gcd_comm]; exact h
theorem fdiv_pos {a d : Int} (h : d ∣ a) (hd : 1 ≤ d) (ha : 1 ≤ a) : 1 ≤ a.fdiv d := by
  have e := fdiv_mul h (by omega)
  rcases Int.lt_trichotomy (a.fdiv d) 0 with z | z | z
  · have := Int.mul_neg_of_neg_of_pos z (show 0 < d by omega); omega
  · rw [z] at e; omega
  · omega
/-- the quotients by the greatest common divisor are coprime -/
theorem cop_quot {b d s : Int} (hs : s = g b d) (p : 1 ≤ s) : Int.gcd (b.fdiv s) (d.fdiv s) = 1 := by
  have e1 : b.fdiv s * s = b := fdiv_mul (by rw [hs]; exact g_dvd1 ..) (by omega)
  have e2 : d.fdiv s * s = d := fdiv_mul (by rw [hs]; exact g_dvd2 ..) (by omega)
  have e : Int.gcd (b.fdiv s * s) (d.fdiv s * s) = Int.gcd (b.fdiv s) (d.fdiv s) * s.natAbs := Int.gcd_mul_right ..
  rw [e1, e2] at e
  have sn : Int.gcd b d = s.natAbs := by rw [hs]; unfold g; simp
  rw [sn] at e
  rcases Nat.lt_trichotomy (Int.gcd (b.fdiv s) (d.fdiv s)) 1 with z | z | z
  · have : Int.gcd (b.fdiv s) (d.fdiv s) = 0 := by omega
    rw [this] at e; omega
  · exact z
  · have := Nat.mul_le_mul_right s.natAbs z
    omega
theorem fdiv_le {a d : Int} (h : d ∣ a) (hd : 1 ≤ d) : (a.fdiv d).natAbs ≤ a.natAbs := by
  have e := congrArg Int.natAbs (fdiv_mul h (show d ≠ 0 by omega))
  rw [Int.natAbs_mul] at e
  calc (a.fdiv d).natAbs ≤ (a.fdiv d).natAbs * d.natAbs := Nat.le_mul_of_pos_right _ (by omega)
    _ = a.natAbs := e
theorem Sz.fdiv {n : Nat} {a d : Int} (h : Sz n a) (k : d ∣ a) (hd : 1 ≤ d) : Sz n (a.fdiv d) := Nat.lt_of_le_of_lt (fdiv_le k hd) h
theorem g_neg {a b : Int} : g (-a) b = g a b := by unfold g; simp [Int.neg_gcd]
end Mth

set_option maxHeartbeats 4000000
namespace Mth
theorem times_eq {a b c d : Int} (hb : 1 ≤ b) (hd : 1 ≤ d) (h1 : g a b = 1) (h2 : g c d = 1) {u v : Int} (hu : u = g a d) (hv : v = g c b) :
    a.fdiv u * c.fdiv v = top (a * c) (b * d) ∧ b.fdiv v * d.fdiv u = bot (a * c) (b * d) := by
  have up : 1 ≤ u := by rw [hu]; have := g_pos (a := a) (b := d) (by omega); omega
  have vp : 1 ≤ v := by rw [hv]; have := g_pos (a := c) (b := b) (by omega); omega
  have ua : u ∣ a := by rw [hu]; exact g_dvd1 ..
  have ud : u ∣ d := by rw [hu]; exact g_dvd2 ..
  have vc : v ∣ c := by rw [hv]; exact g_dvd1 ..
  have vb : v ∣ b := by rw [hv]; exact g_dvd2 ..
  have ea := fdiv_mul ua (by omega)
  have ed := fdiv_mul ud (by omega)
  have ec := fdiv_mul vc (by omega)
  have eb := fdiv_mul vb (by omega)
  have bp := fdiv_pos vb vp hb
  have dp := fdiv_pos ud up hd
  have k1 := cop_quot hu up
  have k2 := cop_quot hv vp
  have k3 : Int.gcd (a.fdiv u) (b.fdiv v) = 1 := cop_comm (cop_sub (cop_comm (cop_sub (gcd_of_g h1) ⟨u, ea.symm⟩)) ⟨v, eb.symm⟩)
  have k4 : Int.gcd (c.fdiv v) (d.fdiv u) = 1 := cop_comm (cop_sub (cop_comm (cop_sub (gcd_of_g h2) ⟨v, ec.symm⟩)) ⟨u, ed.symm⟩)
  have low : g (a.fdiv u * c.fdiv v) (b.fdiv v * d.fdiv u) = 1 := g_of_gcd (cop_comm (cop_mulr (cop_comm (cop_mulr k3 k1)) (cop_comm (cop_mulr k2 k4))))
  have bd0 : b * d ≠ 0 := Int.mul_ne_zero (by omega) (by omega)
  have lowu := g_low (t := a * c) bd0
  have posu := bot_pos (t := a * c) bd0
  have cru := cross (t := a * c) bd0
  have pos : 1 ≤ b.fdiv v * d.fdiv u := by
    have := Int.mul_pos (show 0 < b.fdiv v by omega) (show 0 < d.fdiv u by omega)
    omega
  have cr : (a.fdiv u * c.fdiv v) * (b * d) = (a * c) * (b.fdiv v * d.fdiv u) := by
    calc (a.fdiv u * c.fdiv v) * (b * d) = (a.fdiv u * c.fdiv v) * ((b.fdiv v * v) * (d.fdiv u * u)) := by rw [eb, ed]
      _ = ((a.fdiv u * u) * (c.fdiv v * v)) * (b.fdiv v * d.fdiv u) := by ac_rfl
      _ = (a * c) * (b.fdiv v * d.fdiv u) := by rw [ea, ec]
  refine low_unique pos posu low lowu ?_
  refine Int.eq_of_mul_eq_mul_right (a := b * d) bd0 ?_
  calc ((a.fdiv u * c.fdiv v) * bot (a * c) (b * d)) * (b * d) = ((a.fdiv u * c.fdiv v) * (b * d)) * bot (a * c) (b * d) := by ac_rfl
    _ = ((a * c) * bot (a * c) (b * d)) * (b.fdiv v * d.fdiv u) := by rw [cr]; ac_rfl
    _ = (top (a * c) (b * d) * (b * d)) * (b.fdiv v * d.fdiv u) := by rw [cru]
    _ = (top (a * c) (b * d) * (b.fdiv v * d.fdiv u)) * (b * d) := by ac_rfl
theorem low_neg {t b : Int} (h : b < 0) : top (-t) (-b) = top t b ∧ bot (-t) (-b) = bot t b := by
  have e1 := low_eq (t := t) (b := b) (by omega)
  have e2 := low_eq (t := -t) (b := -b) (by omega)
  rw [if_pos h, if_pos h] at e1
  rw [if_neg (by omega), if_neg (by omega)] at e2
  exact ⟨e2.1.symm.trans e1.1, e2.2.symm.trans e1.2⟩
theorem g_neg2 {a b : Int} : g a (-b) = g a b := by unfold g; simp [Int.gcd_neg]
theorem g_comm (a b : Int) : g a b = g b a := by unfold g; rw [Int.gcd_comm]
end Mth

set_option Elab.async false
set_option linter.all false
set_option maxRecDepth 100000
set_option maxHeartbeats 4000000

namespace L2
open PySem PySem.Spec PyProof.Rows
section
variable {D : Ends} {σ : St} {H : Hp} {Q : VK} {t u : TS} {ta tb te : TE} {g : TG} {tA : TA} {r : R2} {E : XK} {sp : Sp} {K : PySem.W.Frag}
theorem y7dy : tSeq t u D σ H = t { D with nx := u D } σ H := rfl
theorem y6cy : tNext D σ H = D.nx σ H := rfl
theorem y2ay : tAsg te g D σ H = te σ H fun x H1 => g x σ H1 D.nx := rfl
theorem y67y {i : Nat} {v : V} {R : St → Hp → Prop} : gName i v σ H R = R (σ.set i (some v)) H := rfl
theorem y7ay : tRet te D σ H = te σ H D.rt := rfl
theorem y7by : tRetN D σ H = D.rt .non H := rfl
theorem y44y : tDrop te D σ H = te σ H fun _ H1 => D.nx σ H1 := rfl
theorem y2dy {v : V} : tC v σ H Q = Q v H := rfl
theorem y73y : tOp r ta tb σ H Q = ta σ H fun x H1 => tb σ H1 fun y H2 => r x y H2 Q := rfl
theorem y89y {f : V → Hp → VK → Prop} : tUn f ta σ H Q = ta σ H fun x H1 => f x H1 Q := rfl
theorem y2fy {f : List V → Hp → VK → Prop} : tCB f tA σ H Q = tA σ H fun vs H1 => f vs H1 Q := rfl
theorem y39y {R : List V → Hp → Prop} : tCons ta tA σ H R = ta σ H fun x H1 => tA σ H1 fun xs H2 => R (x :: xs) H2 := rfl
theorem y6dy {R : List V → Hp → Prop} : tNil σ H R = R [] H := rfl
theorem y2ey {dvs : List V} : tCall sp dvs E tA σ H Q = tA σ H fun vs H1 => sp (vs ++ dvs) H1 Q E := rfl
theorem y82y {R : Bool → Hp → Prop} : tTest te σ H R = te σ H fun x H' => ∃ k, x = .bl k ∧ R k H' := rfl
theorem y23y {R : Bool → Hp → Prop} : tB te σ H R = te σ H fun x H' => ∃ k, x = .bl k ∧ R k H' := rfl
theorem y28y {a b : TT} {R : Bool → Hp → Prop} : tAnd a b σ H R = a σ H fun c H1 => if c = true then b σ H1 R else R false H1 := rfl
theorem y74y {a b : TT} {R : Bool → Hp → Prop} : tOr a b σ H R = a σ H fun c H1 => if c = true then R true H1 else b σ H1 R := rfl
theorem y6fy {a : TT} {R : Bool → Hp → Prop} : tNot a σ H R = a σ H fun c H1 => R (!c) H1 := rfl
theorem y29y : tAndV ta tb σ H Q = ta σ H fun x H1 => ∃ c, x = .bl c ∧ if c = true then tb σ H1 Q else Q (.bl false) H1 := rfl
theorem y75y : tOrV ta tb σ H Q = ta σ H fun x H1 => ∃ c, x = .bl c ∧ if c = true then Q (.bl true) H1 else tb σ H1 Q := rfl
theorem y71y : tNotV ta σ H Q = ta σ H fun x H1 => ∃ c, x = .bl c ∧ Q (.bl (!c)) H1 := rfl
theorem y56y {c : TT} : tIfS c t u D σ H = c σ H fun b H1 => if b = true then t D σ H1 else u D σ H1 := rfl
theorem y8by {i : Nat} : tVar i σ H Q = ∃ v, σ[i]? = some (some v) ∧ Q v H := rfl
theorem y26y {i j : Int} : rAddU K (.int i) (.int j) H Q = Q (.int (i + j)) H := rfl
theorem y27y {i j : Str} : rAddU K (.str i) (.str j) H Q = (i.length + j.length ≤ sizeLine ∧ Q (.str (i ++ j)) H) := rfl
theorem y81y {f : Int → Int → V} {i j : Int} : rI0 f (.int i) (.int j) H Q = Q (f i j) H := by
  unfold rI0; simp
theorem y6by {f : Int → V} {i : Int} : rU f (.int i) H Q = Q (f i) H := by
  unfold rU; simp
theorem y64y {i j : Int} : rMulU (.int i) (.int j) H Q = (IntMulOk i j ∧ Q (.int (i * j)) H) := rfl
theorem y49y {i j : Int} : rFdivU (.int i) (.int j) H Q = (DivOk j ∧ Q (.int (i.fdiv j)) H) := rfl
theorem y63y {i j : Int} : rModU (.int i) (.int j) H Q = (j ≠ 0 ∧ Q (.int (i.fmod j)) H) := rfl
theorem y78y {i j : Int} : rPowU (.int i) (.int j) H Q = (CPow i j ∧ Q (.int (i ^ j.toNat)) H) := rfl
theorem y32y {p : Int → Int → Bool} {i j : Int} : rCmpU p (.int i) (.int j) H Q = Q (.bl (p i j)) H := rfl
theorem y47y {i j : Int} : rEqU K (.int i) (.int j) H Q = Q (.bl (decide (i = j))) H := rfl
theorem y69y {i j : Int} : rNeU K (.int i) (.int j) H Q = Q (.bl (!decide (i = j))) H := rfl
theorem y48y {i j : Str} : rEqU K (.str i) (.str j) H Q = Q (.bl (decide (i = j))) H := rfl
theorem y6ay {i j : Str} : rNeU K (.str i) (.str j) H Q = Q (.bl (!decide (i = j))) H := rfl
theorem y46y {i j : Bool} : rEqU K (.bl i) (.bl j) H Q = Q (.bl (decide (i = j))) H := rfl
theorem y68y {i j : Bool} : rNeU K (.bl i) (.bl j) H Q = Q (.bl (!decide (i = j))) H := rfl
theorem y84y : tTup tA σ H Q = tA σ H fun xs H1 => xs.length ≤ sizeLine ∧ ∀ p, H1 p = none → Q (.ref p) (upd H1 p (.tup xs)) := rfl
theorem y5fy : tLst tA σ H Q = tA σ H fun xs H1 => xs.length ≤ sizeLine ∧ ∀ p, H1 p = none → Q (.ref p) (upd H1 p (.lst xs)) := rfl
theorem y5by {x : V} {T : String} : rIsi K [x, .ty T] H Q = (T ∈ ["int", "str", "bool", "list", "tuple"] ∧ ∃ t, tyN K H x t ∧ Q (.bl (isiB t T)) H) := rfl
theorem y25y {i : Int} : rAbs [.int i] H Q = Q (.int (if i < 0 then -i else i)) H := rfl
theorem y62y {i j : Int} : rMin [.int i, .int j] H Q = Q (.int (if j < i then j else i)) H := rfl
theorem y86y {i : Int} {s : String} : tyN K H (.int i) s = (s = "int") := rfl
theorem y88y {i : Str} {s : String} : tyN K H (.str i) s = (s = "str") := rfl
theorem y85y {i : Bool} {s : String} : tyN K H (.bl i) s = (s = "bool") := rfl
theorem y87y {s : String} : tyN K H .non s = (s = "NoneType") := rfl
end
theorem bt_abs : bootBuiltins "abs" = some (.builtin "abs") := by decide +kernel
theorem bt_len : bootBuiltins "len" = some (.builtin "len") := by decide +kernel
theorem bt_isinstance : bootBuiltins "isinstance" = some (.builtin "isinstance") := by decide +kernel
theorem bt_all : bootBuiltins "all" = some (.builtin "all") := by decide +kernel
theorem bt_int : bootBuiltins "int" = some (.type "int") := by decide +kernel
theorem bt_str : bootBuiltins "str" = some (.type "str") := by decide +kernel
theorem bt_bool : bootBuiltins "bool" = some (.type "bool") := by decide +kernel
theorem bt_list : bootBuiltins "list" = some (.type "list") := by decide +kernel
theorem bt_tuple : bootBuiltins "tuple" = some (.type "tuple") := by decide +kernel
theorem bt_range : bootBuiltins "range" = some (.type "range") := by decide +kernel
theorem bt_enumerate : bootBuiltins "enumerate" = some (.type "enumerate") := by decide +kernel
theorem bt_zip : bootBuiltins "zip" = some (.type "zip") := by decide +kernel
theorem bt_reversed : bootBuiltins "reversed" = some (.type "reversed") := by decide +kernel
theorem yby : isiB "int" "int" = true := by decide
theorem ydy : isiB "int" "str" = false := by decide
theorem yay : isiB "int" "bool" = false := by decide
theorem ycy : isiB "int" "list" = false := by decide
theorem yey : isiB "int" "tuple" = false := by decide
theorem y15y : isiB "str" "int" = false := by decide
theorem y17y : isiB "str" "str" = true := by decide
theorem y14y : isiB "str" "bool" = false := by decide
theorem y16y : isiB "str" "list" = false := by decide
theorem y18y : isiB "str" "tuple" = false := by decide
theorem y6y : isiB "bool" "int" = true := by decide
theorem y8y : isiB "bool" "str" = false := by decide
theorem y5y : isiB "bool" "bool" = true := by decide
theorem y7y : isiB "bool" "list" = false := by decide
theorem y9y : isiB "bool" "tuple" = false := by decide
theorem y1y : isiB "NoneType" "int" = false := by decide
theorem y3y : isiB "NoneType" "str" = false := by decide
theorem y0y : isiB "NoneType" "bool" = false := by decide
theorem y2y : isiB "NoneType" "list" = false := by decide
theorem y4y : isiB "NoneType" "tuple" = false := by decide
theorem y10y : isiB "list" "int" = false := by decide
theorem y12y : isiB "list" "str" = false := by decide
theorem yfy : isiB "list" "bool" = false := by decide
theorem y11y : isiB "list" "list" = true := by decide
theorem y13y : isiB "list" "tuple" = false := by decide
theorem y1ay : isiB "tuple" "int" = false := by decide
theorem y1cy : isiB "tuple" "str" = false := by decide
theorem y19y : isiB "tuple" "bool" = false := by decide
theorem y1by : isiB "tuple" "list" = false := by decide
theorem y1dy : isiB "tuple" "tuple" = true := by decide
theorem y1fy : ("int" ∈ ["int", "str", "bool", "list", "tuple"]) = True := by simp
theorem y21y : ("str" ∈ ["int", "str", "bool", "list", "tuple"]) = True := by simp
theorem y1ey : ("bool" ∈ ["int", "str", "bool", "list", "tuple"]) = True := by simp
theorem y20y : ("list" ∈ ["int", "str", "bool", "list", "tuple"]) = True := by simp
theorem y22y : ("tuple" ∈ ["int", "str", "bool", "list", "tuple"]) = True := by simp
theorem y24y {CX : CXT} {P : Program} {w : World} {K : PySem.W.Frag} {mg : Str → Option Value} {base : Heap} {N : List Str} {qual : Str} {scope : Scope} {f : Addr} {cd : Value} {A : Around} {outer : List Env} {s : Shared} {H : Hp} {E : XK} : (cxOf CX P w K mg base N qual scope f cd A outer s H E).K = K := rfl
def ForR (lo : Int) (n : Nat) (g : TG) (tb : TS) (D : Ends) (σ : St) (H : Hp) : Prop := ∃ W : Nat → Nat → St → Hp → Prop, (∃ m, W 0 m σ H) ∧ ∀ i m σ H, W i m σ H →
  ((Itr lo n).stop i H ∧ D.nx σ H) ∨ ((Itr lo n).go i H ∧ ∃ N : St → Hp → Prop, (∀ σ' H', N σ' H' → ∃ m', m' < m ∧ W (i + 1) m' σ' H') ∧ ∀ x H', (Itr lo n).yld i H x H' → g x σ H' fun σ2 H2 => tb { D with nx := N, ct := N, bk := D.nx } σ2 H2)
def ForA (K : PySem.W.Frag) (a : Addr) (g : TG) (tb : TS) (D : Ends) (σ : St) (H : Hp) : Prop :=
  ((∃ xs, SqL K H a xs) ∧ ∃ W : Nat → Nat → St → Hp → Prop, (∃ m, W 0 m σ H) ∧ ∀ i m σ H, W i m σ H →
    ((Itl K a).stop i H ∧ D.nx σ H) ∨ ((Itl K a).go i H ∧ ∃ N : St → Hp → Prop, (∀ σ' H', N σ' H' → ∃ m', m' < m ∧ W (i + 1) m' σ' H') ∧ ∀ x H', (Itl K a).yld i H x H' → g x σ H' fun σ2 H2 => tb { D with nx := N, ct := N, bk := D.nx } σ2 H2)) ∨
  ((∃ xs, SqT K H a xs) ∧ ∃ W : Nat → Nat → St → Hp → Prop, (∃ m, W 0 m σ H) ∧ ∀ i m σ H, W i m σ H →
    ((Itt K a).stop i H ∧ D.nx σ H) ∨ ((Itt K a).go i H ∧ ∃ N : St → Hp → Prop, (∀ σ' H', N σ' H' → ∃ m', m' < m ∧ W (i + 1) m' σ' H') ∧ ∀ x H', (Itt K a).yld i H x H' → g x σ H' fun σ2 H2 => tb { D with nx := N, ct := N, bk := D.nx } σ2 H2))
theorem y4cy {ta : TA} {g : TG} {tb : TS} {D : Ends} {σ : St} {H : Hp} : tFor (iRng1 ta) g tb D σ H = ta σ H fun vs H1 => ∃ j : Int, vs = [.int j] ∧ -(2 ^ 62) ≤ j ∧ j < 2 ^ 62 ∧ ForR 0 j.toNat g tb D σ H1 := rfl
theorem y4dy {ta : TA} {g : TG} {tb : TS} {D : Ends} {σ : St} {H : Hp} : tFor (iRng2 ta) g tb D σ H = ta σ H fun vs H1 => ∃ i j : Int, vs = [.int i, .int j] ∧ (-(2 ^ 62) ≤ i ∧ i < 2 ^ 62 ∧ -(2 ^ 62) ≤ j ∧ j < 2 ^ 62) ∧ ForR i (j - i).toNat g tb D σ H1 := rfl
theorem y4ey {K : PySem.W.Frag} {tl : TE} {g : TG} {tb : TS} {D : Ends} {σ : St} {H : Hp} : tFor (iAny K tl) g tb D σ H = tl σ H fun x H1 => ∃ a, x = .ref a ∧ ForA K a g tb D σ H1 := rfl
theorem ForR.by {lo : Int} {n : Nat} {g : TG} {tb : TS} {D : Ends} {σ : St} {H : Hp} (Pv : Nat → St → Hp → Prop) (h0 : Pv 0 σ H)
    (hs : ∀ i σ H, i < n → Pv i σ H → g (.int (lo + i)) σ H fun σ2 H2 => tb { D with nx := Pv (i + 1), ct := Pv (i + 1), bk := D.nx } σ2 H2) (hd : ∀ σ H, Pv n σ H → D.nx σ H) : ForR lo n g tb D σ H := for_range Pv h0 hs hd
theorem ForA.by {K : PySem.W.Frag} {a : Addr} {xs : List V} {g : TG} {tb : TS} {D : Ends} {σ : St} {H : Hp} (hA : SqA K H a xs) (Pv : Nat → St → Hp → Prop) (h0 : Pv 0 σ H) (hl : ∀ i σ H', i ≤ xs.length → Pv i σ H' → Same H H')
    (hs : ∀ i x σ H, xs[i]? = some x → Pv i σ H → g x σ H fun σ2 H2 => tb { D with nx := Pv (i + 1), ct := Pv (i + 1), bk := D.nx } σ2 H2) (hd : ∀ σ H, Pv xs.length σ H → D.nx σ H) : ForA K a g tb D σ H := for_any hA Pv h0 hl hs hd
/-- a new object: from here on only what stands in the heap is known -/
theorem new_obj {H : Hp} {o : HO} {R : V → Hp → Prop} (h : ∀ p H1, Same H H1 → H1 p = some o → R (.ref p) H1) : ∀ p, H p = none → R (.ref p) (upd H p o) := fun p hp =>
  h p _ (fun b u q => by rw [upd_ne (ne_of_none q hp)]; exact q) upd_same
theorem newS {H H' : Hp} {p : Addr} {o : HO} (h : H p = none) (e : upd H p o = H') : Same H H' := fun b u q => by rw [← e, upd_ne (ne_of_none q h)]; exact q
theorem newE {H H' : Hp} {p : Addr} {o : HO} (e : upd H p o = H') : H' p = some o := by rw [← e, upd_same]
theorem bits_sz {n : Nat} {i : Int} (h : Mth.Sz n i) : Builtin.Int.intBits i ≤ n := by
  unfold Builtin.Int.intBits
  split
  · exact Nat.zero_le _
  · rename_i z
    have : i.natAbs.log2 < n := (Nat.log2_lt (by simpa using z)).mpr h
    omega
theorem mulOk {m n : Nat} {i j : Int} (h : Mth.Sz m i) (k : Mth.Sz n j) (hm : m ≤ 2 ^ 20 := by decide) (hn : n ≤ 2 ^ 20 := by decide) : IntMulOk i j := IntMulOk.of_bits (Nat.le_trans (bits_sz h) hm) (Nat.le_trans (bits_sz k) hn)
theorem mulOkR {i j : Int} (h : Mth.Sz 64 j) : IntMulOk i j := IntMulOk.of_right (bits_sz h)
theorem divOk {n : Nat} {j : Int} (h : j ≠ 0) (k : Mth.Sz n j) (hn : n < 9000 := by decide) : DivOk j := ⟨h, Mth.log2_le k hn⟩
theorem len0 : ([] : List V).length ≤ sizeLine := by decide
theorem len2 {a b : V} : [a, b].length ≤ sizeLine := by show 2 ≤ sizeLine; decide
theorem len5 {a b c d e : V} : [a, b, c, d, e].length ≤ sizeLine := by show 5 ≤ sizeLine; decide
theorem divOkL {j : Int} (h : decide (j ≠ 0 ∧ j.natAbs < 2 ^ 64) = true) : DivOk j := by
  have z := of_decide_eq_true h
  exact divOk z.1 (n := 64) z.2
theorem mulOkL {i j : Int} (h : decide (j.natAbs < 2 ^ 64) = true) : IntMulOk i j := by
  have z : j.natAbs < 2 ^ 64 := of_decide_eq_true h
  exact mulOkR z
theorem mulOkL' {i j : Int} (h : decide (i.natAbs < 2 ^ 64) = true) : IntMulOk i j := by
  have z : i.natAbs < 2 ^ 64 := of_decide_eq_true h
  exact IntMulOk.of_left (bits_sz (n := 64) z)
theorem powOkL {i j : Int} (h : decide (0 ≤ j ∧ j ≤ 1000000 ∧ i.natAbs < 2 ^ 64) = true) : CPow i j := by
  have z : 0 ≤ j ∧ j ≤ 1000000 ∧ i.natAbs < 2 ^ 64 := of_decide_eq_true h
  exact z
/-- a pair of ints, a fraction -/
def FrV (K : PySem.W.Frag) (H : Hp) (v : V) (a b : Int) : Prop := ∃ p, v = .ref p ∧ SqT K H p [.int a, .int b]
theorem FrV.same {K : PySem.W.Frag} {H H' : Hp} {v : V} {a b : Int} (S : Same H H') (h : FrV K H v a b) : FrV K H' v a b := by
  obtain ⟨p, e, q⟩ := h
  exact ⟨p, e, q.same S⟩
theorem FrV.of {K : PySem.W.Frag} {H : Hp} {p : Addr} {a b : Int} (h : H p = some (.tup [.int a, .int b])) : FrV K H (.ref p) a b := ⟨p, rfl, SqT.of h⟩
theorem ixT0 {K : PySem.W.Frag} {H : Hp} {p : Addr} {x : V} {r : List V} {Q : VK} (h : SqT K H p (x :: r)) (q : Q x H) : rIxU K (.ref p) (.int 0) H Q := ⟨_, x, .inr h, atI_nat (j := 0) rfl, q⟩
theorem ixT1 {K : PySem.W.Frag} {H : Hp} {p : Addr} {x y : V} {r : List V} {Q : VK} (h : SqT K H p (x :: y :: r)) (q : Q y H) : rIxU K (.ref p) (.int 1) H Q := ⟨_, y, .inr h, atI_nat (j := 1) rfl, q⟩
theorem ixF0 {K : PySem.W.Frag} {H : Hp} {v : V} {a b : Int} {Q : VK} (h : FrV K H v a b) (q : Q (.int a) H) : rIxU K v (.int 0) H Q := by
  obtain ⟨p, rfl, z⟩ := h
  exact ixT0 z q
theorem ixF1 {K : PySem.W.Frag} {H : Hp} {v : V} {a b : Int} {Q : VK} (h : FrV K H v a b) (q : Q (.int b) H) : rIxU K v (.int 1) H Q := by
  obtain ⟨p, rfl, z⟩ := h
  exact ixT1 z q
theorem FrV.rep {K : PySem.W.Frag} {H : Hp} {v : V} {a b : Int} (h : FrV K H v a b) : Rep K H (.tup [.int a, .int b]) v := by
  obtain ⟨p, rfl, z⟩ := h
  simp only [Rep, RepL]
  exact ⟨p, _, rfl, z, _, _, rfl, rfl, _, _, rfl, rfl, rfl⟩
theorem neF {K : PySem.W.Frag} {H : Hp} {x y : V} {a b c d : Int} {Q : VK} (h : FrV K H x a b) (g : FrV K H y c d) (q : Q (.bl (!(decide (a = c) && decide (b = d)))) H) : rNeU K x y H Q := by
  have e : eqD (.tup [.int a, .int b]) (.tup [.int c, .int d]) = (decide (a = c) && decide (b = d)) := by
    simp only [eqD, eqL, Bool.and_true]
    congr 1 <;> simp [BEq.beq]
  have hr := h.rep
  have gr := g.rep
  obtain ⟨p, rfl, _⟩ := h
  obtain ⟨p', rfl, _⟩ := g
  exact ⟨_, _, hr, gr, by simp [depD, depL], rfl, by rw [e]; exact q⟩
theorem ixT {K : PySem.W.Frag} {H : Hp} {p : Addr} {xs : List V} {i : Nat} {v : V} {Q : VK} (h : SqT K H p xs) (e : xs[i]? = some v) (q : Q v H) : rIxU K (.ref p) (.int (i : Int)) H Q := ⟨xs, v, .inr h, atI_nat e, q⟩
theorem ixL {K : PySem.W.Frag} {H : Hp} {p : Addr} {xs : List V} {i : Nat} {v : V} {Q : VK} (h : SqL K H p xs) (e : xs[i]? = some v) (q : Q v H) : rIxU K (.ref p) (.int (i : Int)) H Q := ⟨xs, v, .inl h, atI_nat e, q⟩
end L2

set_option Elab.async false
set_option linter.all false
set_option maxRecDepth 100000
set_option maxHeartbeats 4000000

namespace L2
open PySem PySem.Spec PyProof.Rows
section
open PySem.W PySem.Builtin PySem.Builtin.ObjectAttr PySem.Builtin.Getset_descriptor
variable {prog : Program} {w : World} {A : Around} {E : Value → Shared → Prop} {s : Shared} {K : Frag} {x D : Addr} {ox : Obj}
end
section
variable {X : Cx}
def tChain3 (r r' r'' : R2) (ta tb tc td : TE) : TE := fun σ H Q => ta σ H fun x H1 => tb σ H1 fun y H2 => r x y H2 fun z H3 => ∃ k, z = .bl k ∧
  (if k = true then tc σ H3 fun w' H4 => r' y w' H4 fun z' H5 => ∃ k', z' = .bl k' ∧ (if k' = true then td σ H5 fun u' H6 => r'' w' u' H6 Q else Q (.bl false) H5) else Q (.bl false) H3)
def rFmt : V → Hp → VK → Prop := fun x H Q => match x with
  | .int i => i.natAbs.log2 < 1920 ∧ Q (.str (toString i)) H
  | _ => False
def TJ := St → Hp → Str → VK → Prop
def jNil : TJ := fun _ H acc Q => acc.length ≤ sizeLine ∧ Q (.str acc) H
def jCons (te : TE) (t : TJ) : TJ := fun σ H acc Q => te σ H fun x H1 => ∃ y, x = .str y ∧ (acc ++ y).length ≤ sizeLine ∧ t σ H1 (acc ++ y) Q
def tFstr (t : TJ) : TE := fun σ H Q => t σ H Str.empty Q
def rStrI : List V → Hp → VK → Prop := fun xs H Q => match xs with
  | [.int i] => i.natAbs.log2 < 1920 ∧ Q (.str (toString i)) H
  | _ => False
end
end L2

set_option Elab.async false
set_option linter.all false
set_option maxRecDepth 100000
set_option maxHeartbeats 4000000

namespace L2
open PySem PySem.Spec PyProof.Rows
section
variable {En : Ends} {σ : St} {H : Hp} {Q : VK} {t u : TS} {ta tb te tc td : TE} {g : TG} {gs : TGs} {tA : TA} {E : XK} {sp : Sp} {K : PySem.W.Frag}
theorem y7fy {r : V → Option Int → Option Int → Hp → VK → Prop} {tl th : TO} : tSl r te tl th σ H Q = te σ H fun x H1 => tl σ H1 fun l H2 => th σ H2 fun u H3 => r x l u H3 Q := rfl
theorem y77y {R : Option Int → Hp → Prop} : tPart te σ H R = te σ H fun x H1 => ∃ i, x = .int i ∧ R (some i) H1 := rfl
theorem y6ey {R : Option Int → Hp → Prop} : tNoPart σ H R = R none H := rfl
theorem y30y {r r' : R2} : tChain r r' ta tb tc σ H Q = ta σ H fun x H1 => tb σ H1 fun y H2 => r x y H2 fun z H3 => ∃ k, z = .bl k ∧ (if k = true then tc σ H3 fun w' H4 => r' y w' H4 Q else Q (.bl false) H3) := rfl
theorem y31y {r r' r'' : R2} : tChain3 r r' r'' ta tb tc td σ H Q = ta σ H fun x H1 => tb σ H1 fun y H2 => r x y H2 fun z H3 => ∃ k, z = .bl k ∧
  (if k = true then tc σ H3 fun w' H4 => r' y w' H4 fun z' H5 => ∃ k', z' = .bl k' ∧ (if k' = true then td σ H5 fun u' H6 => r'' w' u' H6 Q else Q (.bl false) H5) else Q (.bl false) H3) := rfl
theorem y50y {tj : TJ} : tFstr tj σ H Q = tj σ H Str.empty Q := rfl
theorem y5dy {tj : TJ} {acc : Str} : jCons te tj σ H acc Q = te σ H fun x H1 => ∃ y, x = .str y ∧ (acc ++ y).length ≤ sizeLine ∧ tj σ H1 (acc ++ y) Q := rfl
theorem y5ey {acc : Str} : jNil σ H acc Q = (acc.length ≤ sizeLine ∧ Q (.str acc) H) := rfl
theorem y4by {i : Int} : rFmt (.int i) H Q = (i.natAbs.log2 < 1920 ∧ Q (.str (toString i)) H) := rfl
theorem y80y {i : Int} : rStrI [.int i] H Q = (i.natAbs.log2 < 1920 ∧ Q (.str (toString i)) H) := rfl
theorem y83y {D0 : Addr} {i : Nat} {tx : St → Hp → VK → XK → Prop} {ts : TS} : tTryAs K D0 i tx ts En σ H = tx σ H (fun _ H1 => En.nx σ H1) fun cls _ H1 => ∃ C, cls = .ref C ∧ Catches K C D0 ∧
  ∀ ea, H1 ea = none → ts { nx := fun σ' H' => En.nx (σ'.set i none) H', rt := En.rt, bk := fun σ' H' => En.bk (σ'.set i none) H', ct := fun σ' H' => En.ct (σ'.set i none) H' } (σ.set i (some (.ref ea))) (upd H1 ea (ExcO ea C)) := rfl
theorem y8cy {dvs : List V} {Qx : VK} {Ex : XK} : xCall sp dvs tA σ H Qx Ex = tA σ H fun vs H1 => sp (vs ++ dvs) H1 Qx Ex := rfl
theorem y79y {C : Addr} : tRaise E C tA En σ H = tA σ H fun vs H1 => vs.length ≤ sizeLine ∧ E (.ref C) none H1 := rfl
end
end L2

set_option Elab.async false
set_option linter.all false
set_option maxRecDepth 100000
set_option maxHeartbeats 4000000

namespace L2
open PySem PySem.Spec PyProof.Rows
def Its (x : Str) : It := ⟨fun i _ => i < x.cps.size, fun i H v H' => H' = H ∧ ∃ c, x.cps[i]? = some c ∧ v = .str ⟨#[c]⟩, fun i _ => i = x.cps.size⟩
theorem turn_walk {P : Program} {w : World} {K : PySem.W.Frag} {tg : Expr} {it : Addr} {x : Str} {n : String} {St : Nat → Heap → Prop} (hn : ["enumerate", "zip", "dict_itemiterator", "dict_reverseitemiterator", "odict_iterator", "itertools.zip_longest", "itertools.pairwise"].contains n = false)
    (hst : ∀ i h, St i h → ∃ o vs, h.get? it = some o ∧ o.cls = .type n ∧ o.data = .fields vs) (mk : ∀ A : Around, A.handled = none → Walks P w A it [it] [it] x.cps.size (SignAt x) St)
    (hself : ∀ (A : Around) (i : Nat) (s : Shared) (Q : Value → Shared → Prop) (E : Value → Shared → Prop), St i s.heap → Q (.ref it) s → wpAny (model P w) A (pyIter (.ref it)) Q E s) : Turn P w K tg (Its x) [it] it St where
  mem := by simp
  obj := fun i h st b hb => by
    obtain rfl : b = it := by simpa using hb
    obtain ⟨o, vs, e, _, d⟩ := hst i h st
    exact ⟨o, e, fun v z => by rw [d] at z; cases z⟩
  keep := fun i h h' st k => (mk {} rfl).frame i h h' st fun b hb o e => k b hb o e
  item := by
    intro X hP hw hK hc i pins s σ H E I hf st hg
    subst hP hw hK
    obtain ⟨f0, f1, f2, f3, f4, f5⟩ := hf it (by simp)
    refine (mk X.A (I.ok.hd hc)).item i s _ _ hg st fun v h' tk hv st' kk => ?_
    obtain ⟨c, u, hc', rfl⟩ := hv
    have I1 : Inv X pins σ H { s with heap := h', toks := tk } := I.turned (fun b o hb e => kk b o (by simpa using hb) e) f0 f1 f3 f4 f5
    obtain ⟨o, vs, e1, e2, e3⟩ := hst _ _ st'
    exact ⟨_, rfl, go_of (s := { s with heap := h', toks := tk }) e1 e2 e3 hn ⟨.str ⟨#[c]⟩, H, I1, ⟨u, rfl⟩, ⟨rfl, c, hc', rfl⟩, st', fun b hb => (hf b hb).1⟩⟩
  done := by
    intro X hP hw hK hc i pins s σ H E I hf st hg
    subst hP hw hK
    obtain ⟨f0, f1, f2, f3, f4, f5⟩ := hf it (by simp)
    have hg' : i = x.cps.size := hg
    subst hg'
    exact (mk X.A (I.ok.hd hc)).done s _ _ st fun h' tk kk => ⟨rfl, I.turned (fun b o hb e => kk b o (by simpa using hb) e) f0 f1 f3 f4 f5⟩
  self := hself
section
variable {X : Cx} {tg : Expr}
def iStr (tl : TE) : TI := fun σ H R => tl σ H fun x H1 => ∃ z, x = .str z ∧ R (Its z) H1
theorem pi_str {l : Expr} {tl : TE} (hl : PE X l tl) : PI X tg l (iStr tl) := fun pins s σ H R I h => by
  refine thn (hl pins s σ H _ I h) fun v s1 ⟨x, H1, I1, r1, z, ex, q⟩ => ?_
  subst ex
  obtain ⟨t, rfl⟩ := r1
  have key : ∀ (n : String), (n = "str_ascii_iterator" ∨ n = "str_iterator") → PIE X pins σ tg R (.ref s1.heap.objs.size) { s1 with heap := s1.heap.push { cls := .type n, data := .fields #[.str z t, .int 0 0] } } := fun n hn => by
    have hT : Turn X.prog X.w X.K tg (Its z) [s1.heap.objs.size] s1.heap.objs.size (fun i h => h.IsStrIter s1.heap.objs.size n z t i) := by
      rcases hn with rfl | rfl
      · exact turn_walk (n := "str_ascii_iterator") (by decide) (fun i h st => let ⟨o, a, b, c⟩ := st; ⟨o, _, a, b, c⟩) (fun A hA => Walks.strAscii hA _ z t) fun A i s Q E st q => wpAny_pyIter_striter_ascii st q
      · exact turn_walk (n := "str_iterator") (by decide) (fun i h st => let ⟨o, a, b, c⟩ := st; ⟨o, _, a, b, c⟩) (fun A hA => Walks.strWide hA _ z t) fun A i s Q E st q => wpAny_pyIter_striter_wide st q
    refine ⟨s1.heap.objs.size, [s1.heap.objs.size], _, _, H1, rfl, I1.kept (t' := s1.toks) fun b o e => Heap.get?_push_of_some _ e, hT, ⟨_, Heap.get?_push_size _ rfl, rfl, rfl⟩, fun b hb => ?_, q⟩
    obtain rfl : b = s1.heap.objs.size := by simpa using hb
    exact I1.fpOk (Nat.le_refl _) (I1.hok.fresh (Nat.le_refl _))
  cases ha : z.cps.all (· < 128)
  · exact wpAny_pyIter_wide ha (key _ (.inr rfl))
  · exact wpAny_pyIter_ascii ha (key _ (.inl rfl))
end

abbrev Cx.inc (X : Cx) (N' : List Str) (scope : Scope) (cl : List (Str × Addr)) (fp : List Addr) (s2 : Shared) (H2 : Hp) (C : Addr) : Cx :=
  { X with N := N', s₀ := s2, H₀ := H2, env := compEnvC scope cl C X.env, outer := X.stack, ex := fp, fn := fun _ => false, pn := [], xe := fun _ _ => False }
section
variable {X : Cx} {pins : List (Addr × Obj)} {σ : St} {H2 : Hp} {s2 : Shared} {N' : List Str} {scope : Scope} {cl : List (Str × Addr)} {fp : List Addr} {C : Addr}
theorem Inv.incOk (I : Inv X pins σ H2 s2) (hf : ∀ b ∈ fp, FpOk X pins H2 b) (hfp : ∀ b ∈ fp, b < s2.heap.objs.size) (hk : scope.kind = .function) (hC : s2.heap.objs.size ≤ C) (hcl : ∀ x c, cl.lookup x = some c → X.env.cells.lookup x = some c)
    (hhas : ∀ y, ((relabel scope X.env).names.lookup y = some .cell ∨ (relabel scope X.env).names.lookup y = some .free) → ∃ c, cl.lookup y = some c) : (X.inc N' scope cl fp s2 H2 C).Ok where
  mod := I.ok.mod
  kind := hk
  glob := I.ok.glob
  blt := I.ok.blt
  above := hC
  inj := fun x y c h1 h2 => I.ok.inj x y c (hcl x c h1) (hcl y c h2)
  has := fun y hy => hhas y hy
  cab := fun x c h => by cases h
  hd := I.ok.hd
  frames := I.ok.frames
  stk := .inl rfl
  exf := fun b hb => ⟨Nat.ne_of_lt (Nat.lt_of_lt_of_le (hfp b hb) hC), fun x c e => (hf b hb).2.2.2.2.1 x c (hcl x c e)⟩
  bs := I.bs
  bsz := Nat.le_trans I.ok.bsz I.sz
  noex := fun b o e hb => by
    rcases (hf b hb).2.2.2.1 with z | z
    · exact I.ok.noex b o e z
    · exact absurd (Nat.lt_of_lt_of_le (Nat.lt_of_lt_of_le (Heap.lt_size e) I.ok.bsz) z) (Nat.lt_irrefl _)
  exfs := fun b hb hm => by
    rcases List.mem_cons.mp (I.stkSub b hm) with z | z
    · exact (hf b hb).2.1 z
    · exact (hf b hb).2.2.1 z
  funs := I.stack
  frf := I.stkFree
/-- the captured names' values -/
def capsAt (cs : List (Nat × Str)) (σ : St) : St := cs.map fun p => (σ[p.1]?).join
theorem Inv.capsLoc {s4 : Shared} {m : Str → Option Value} {own : List Str} {cs : List (Nat × Str)} (I : Inv X pins σ H2 s2) (ok : (X.inc (own ++ cs.map (·.2)) scope cl fp s2 H2 C).Ok) (kept : ∀ c v, (∃ x, cl.lookup x = some c) → s2.heap.IsCell c v → s4.heap.IsCell c v)
    (hcl : ∀ x c, cl.lookup x = some c → X.env.cells.lookup x = some c) (hcs : ∀ p ∈ cs, X.N[p.1]? = some p.2 ∧ X.env.scope.names.lookup p.2 = some .cell ∧ (relabel scope X.env).names.lookup p.2 = some .cell) :
    ∀ (i : Nat) (x : Str) (v : V), (own ++ cs.map (·.2))[i]? = some x → (List.replicate own.length none ++ capsAt cs σ)[i]? = some (some v) → ∃ u, RelV v u ∧ Look (compEnvC scope cl C X.env) s4.heap m x u := fun i x v h1 h2 => by
    by_cases hi : i < own.length
    · rw [List.getElem?_append_left (by simpa using hi), List.getElem?_replicate, if_pos hi] at h2
      cases h2
    · have h2' : (capsAt cs σ)[i - own.length]? = some (some v) := by rw [List.getElem?_append_right (by simp; omega)] at h2; simpa using h2
      have h1' : (cs.map (·.2))[i - own.length]? = some x := by
        rwa [List.getElem?_append_right (by omega)] at h1
      unfold capsAt at h2'
      rw [List.getElem?_map] at h1' h2'
      cases q : cs[i - own.length]? with
      | none => rw [q] at h1'; cases h1'
      | some p =>
        rw [q] at h1' h2'
        obtain rfl : p.2 = x := by simpa using h1'
        have e2 : (σ[p.1]?).join = some v := by simpa using h2'
        have e2' : σ[p.1]? = some (some v) := by
          cases z : σ[p.1]? with
          | none => rw [z] at e2; cases e2
          | some o => rw [z] at e2; exact congrArg some e2
        obtain ⟨c1, c2, c3⟩ := hcs p (List.mem_of_getElem? q)
        obtain ⟨m0, _, hl⟩ := I.loc
        obtain ⟨u, ru, lk⟩ := hl p.1 p.2 v c1 e2' (.inr (.inl c2))
        refine ⟨u, ru, .inr ⟨.inl c3, ?_⟩⟩
        obtain ⟨c, hc⟩ := ok.has p.2 (.inl c3)
        refine ⟨c, hc, ?_⟩
        rcases lk with ⟨k, _⟩ | ⟨_, c', e', hcell⟩
        · have k : X.env.scope.names.lookup p.2 = some .local := k
          rw [c2] at k; cases k
        · rw [hcl _ _ hc] at e'
          cases e'
          exact kept _ _ ⟨_, hc⟩ hcell
theorem Inv.incStart {s4 : Shared} {m : Str → Option Value} {own : List Str} {cs : List (Nat × Str)} (I : Inv X pins σ H2 s2) (ok : (X.inc (own ++ cs.map (·.2)) scope cl fp s2 H2 C).Ok) (kept : ∀ b o, s2.heap.get? b = some o → s4.heap.get? b = some o) (hos : s4.os = s2.os) (hg : s4.gens = s2.gens) (hm : s4.heap.Ns C m)
    (hC : s2.heap.objs.size ≤ C) (hcl : ∀ x c, cl.lookup x = some c → X.env.cells.lookup x = some c)
    (hcs : ∀ p ∈ cs, X.N[p.1]? = some p.2 ∧ X.env.scope.names.lookup p.2 = some .cell ∧ (relabel scope X.env).names.lookup p.2 = some .cell) :
    Inv (X.inc (own ++ cs.map (·.2)) scope cl fp s2 H2 C) [] (List.replicate own.length none ++ capsAt cs σ) H2 s4 where
  ok := ok
  os := hos
  bare := by rw [hg]; exact I.bare
  base := Un.kept kept
  loc := ⟨m, hm, fun i x v h1 h2 _ => I.capsLoc (m := m) ok (fun c v _ ⟨o, ho, hd⟩ => ⟨o, kept _ _ ho, hd⟩) hcl hcs i x v h1 h2⟩
  cell := fun x c e => by
    obtain ⟨v, o, ho, hd⟩ := I.cell x c (hcl x c e)
    exact ⟨v, o, kept _ _ ho, hd⟩
  free := I.hok.fresh hC
  freeC := fun x c e => I.freeC x c (hcl x c e)
  pin := fun p hp => by simp at hp
  hok := I.hok.kept kept
  len := by simp [capsAt]
theorem Inv.incAgain {s' : Shared} {H' : Hp} {σ' : St} {pl : List (Addr × Obj)} {own : List Str} {cs : List (Nat × Str)} (I : Inv X pins σ H2 s2) (J : Inv (X.inc (own ++ cs.map (·.2)) scope cl fp s2 H2 C) pl σ' H' s')
    (hf : ∀ b ∈ fp, FpOk X pins H2 b) (hcl : ∀ x c, cl.lookup x = some c → X.env.cells.lookup x = some c) (hcs : ∀ p ∈ cs, X.N[p.1]? = some p.2 ∧ X.env.scope.names.lookup p.2 = some .cell ∧ (relabel scope X.env).names.lookup p.2 = some .cell) :
    Inv (X.inc (own ++ cs.map (·.2)) scope cl fp s2 H2 C) [] (List.replicate own.length none ++ capsAt cs σ) H' s' where
  ok := J.ok
  os := J.os
  bare := J.bare
  base := J.base
  loc := by
    obtain ⟨m, hm, _⟩ := J.loc
    refine ⟨m, hm, fun i x v h1 h2 _ => I.capsLoc (m := m) J.ok (fun c v ⟨x, hx⟩ ⟨o, ho, hd⟩ => ?_) hcl hcs i x v h1 h2⟩
    have nf : c ∉ fp := fun z => (hf c z).2.2.2.2.1 x c (hcl x c hx) rfl
    by_cases hm : c ∈ frs X.stack
    · obtain ⟨sl, z⟩ := J.base.slot c o ho (I.freeC x c (hcl x c hx)) hm nf
      exact ⟨_, z, hd⟩
    · exact ⟨o, J.base.keep c o ho (I.freeC x c (hcl x c hx)) hm nf, hd⟩
  cell := J.cell
  free := J.free
  freeC := J.freeC
  pin := fun p hp => by simp at hp
  hok := J.hok
  len := by simp [capsAt]
end

section
variable {prog : Program} {w : World} {A : Around} {E : Value → Shared → Prop} {R : Result → Shared → Prop} {s : Shared}
theorem comp_turns {elt target iter : Expr} {scope : Scope} {pos : Pos} {it acc : Value} {env : Env} (J : Nat → Shared → Prop)
    (turn : ∀ n s, J n s → wpAny (model prog w) A (pyNext it) (fun r s1 => match r with
      | none => R (.ok .next) s1
      | some v => wpAny (model prog w) A (letOwnedTupleGo target it v) (fun _ s2 => wpAny (model prog w) A (assign target env v) (fun _ s3 => wpAny (model prog w) A (eval elt env) (fun x s4 =>
          wpAny (model prog w) A (call (.builtin "list.append") [acc, x]) (fun _ s5 => ∃ m, m < n ∧ J m s5) (fun _ _ => False) s4) (fun _ _ => False) s3) (fun _ _ => False) s2) (fun _ _ => False) s1) (fun _ _ => False) s) (n : Nat) (h : J n s) :
    codeAny (model prog w) A (.compLoop (.ListComp elt [⟨target, iter, [], 0⟩] scope pos) 0 it acc env) R s := by
  refine codeAny_loop rfl J (fun n s hJ => ?_) n h
  show wpAny _ A ((compTurn (.ListComp elt [⟨target, iter, [], 0⟩] scope pos) 0 it acc env).onRaise (fun y => do noteFrame y env; theTreesLotGoes y)) _ _ s
  (refine wpAny_noted ?_; rw [compTurn_list])
  refine wpAny_bind (wpAny_standAt (wpAny_bind (wpAny_mono (turn n s hJ) (fun r s1 q1 => ?_) fun _ _ z => z.elim)))
  cases r with
  | none => exact wpAny_pure q1
  | some v =>
    refine wpAny_bind (wpAny_mono q1 (fun _ s2 q2 => wpAny_bind (wpAny_mono q2 (fun _ s3 q3 => ?_) fun _ _ z => z.elim)) fun _ _ z => z.elim)
    refine wpAny_bind (wpAny_tests_nil ?_)
    exact wpAny_bind (wpAny_bind (wpAny_mono q3 (fun x s4 q4 => (wpAny_bind (wpAny_mono q4 (fun _ s5 q5 => (wpAny_pure (wpAny_pure ⟨rfl, q5⟩))) fun _ _ z => z.elim))) fun _ _ z => z.elim))
end

/-- [elt for tg in iter] -/
def tComp (k : Nat) (cs : List (Nat × Str)) (wi : TI) (g : TG) (te : TE) : TE := fun σ H Q => wi σ H fun J H1 => ∃ W : Nat → Nat → List V → Hp → Prop, (∃ m, W 0 m [] H1) ∧ ∀ i m ys H2, W i m ys H2 → ys.length ≤ sizeLine ∧
  ((J.stop i H2 ∧ ∀ p, H2 p = none → Q (.ref p) (upd H2 p (.lst ys))) ∨
   (J.go i H2 ∧ ∀ x H3, J.yld i H2 x H3 → g x (List.replicate k none ++ capsAt cs σ) H3 fun σ4 H4 => te σ4 H4 fun y H5 => ∃ m', m' < m ∧ W (i + 1) m' (ys ++ [y]) H5))
theorem lstP {us : List Value} {v : Value} : (us.toArray.push v) = (us ++ [v]).toArray := by simp
section
variable {X : Cx} {tg : Expr}
theorem pe_comp {iter elt : Expr} {scope : Scope} {pos : Pos} {own : List Str} {cl : List (Str × Addr)} {cs : List (Nat × Str)} {wi : TI} {g : TG} {te : TE} (hc : X.calm = true) (hi : PI X tg iter wi)
    (hg : ∀ fp s2 H2 C, PG (X.inc (own ++ cs.map (·.2)) scope cl fp s2 H2 C) tg g) (he : ∀ fp s2 H2 C, PE (X.inc (own ++ cs.map (·.2)) scope cl fp s2 H2 C) elt te)
    (hclos : closureFor scope X.env = pure cl) (hcell : ∀ y ∈ scope.names, y.2 ≠ .cell) (hkind : scope.kind = .function) (hnames : ∀ y ∈ scope.names, y.2 = .local → scope.names.lookup y.1 = some .local)
    (hcl : ∀ x c, cl.lookup x = some c → X.env.cells.lookup x = some c) (hhas : ∀ y, ((relabel scope X.env).names.lookup y = some .cell ∨ (relabel scope X.env).names.lookup y = some .free) → ∃ c, cl.lookup y = some c)
    (hcs : ∀ p ∈ cs, X.N[p.1]? = some p.2 ∧ X.env.scope.names.lookup p.2 = some .cell ∧ (relabel scope X.env).names.lookup p.2 = some .cell)
    (hs : ∀ x, foldedSetIterable iter X.env x = pure x := by intro _; rfl) : PE X (.ListComp elt [⟨tg, iter, [], 0⟩] scope pos) (tComp own.length cs wi g te) := by
  intro pins s σ H Q I h
  rw [eval_ListComp]
  refine wpAny_comprehension_free (use := none) rfl hs hclos hkind hnames (thn (hi pins s σ H _ I h) fun v s1 h1 => thn h1 fun itv s2 h2 => ?_)
  obtain ⟨it, fp, tn, J, H2, rfl, I2, T, st2, f2, W, ⟨m0, w0⟩, turn⟩ := h2
  have hfp : ∀ b ∈ fp, b < s2.heap.objs.size := fun b hb => by
    obtain ⟨o, e, _⟩ := T.obj _ _ st2 b hb
    exact Heap.lt_size e
  refine wpAny_newObj_type (wpAny_newFunctionEnv hcell (by intro y hy; simp at hy) (fun h4 hns4 hsb4 => ?_) hkind)
  dsimp only at hns4 hsb4 ⊢
  generalize hH3 : s2.heap.push { cls := .type "list", dict := none, data := .seq ([] : List Value).toArray } = H3 at hns4 hsb4 ⊢
  have hCs : H3.objs.size = s2.heap.objs.size + 1 := by rw [← hH3, Heap.size_push]
  have hC : s2.heap.objs.size ≤ H3.objs.size := by omega
  have hDC : s2.heap.objs.size ≠ H3.objs.size := by omega
  have old : ∀ b o, s2.heap.get? b = some o → h4.get? b = some o := fun b o e => hsb4.extBut b o (by have := Heap.lt_size e; exact Nat.ne_of_lt (Nat.lt_of_lt_of_le this hC)) (Heap.get?_push_of_some _ (hH3 ▸ Heap.get?_push_of_some _ e))
  have hD4 : h4.get? s2.heap.objs.size = some { cls := .type "list", data := .seq ([] : List Value).toArray } := hsb4.extBut _ _ hDC (Heap.get?_push_of_some _ (hH3 ▸ Heap.get?_push_size _ rfl))
  obtain ⟨D, hDe⟩ : ∃ D, D = s2.heap.objs.size := ⟨_, rfl⟩
  obtain ⟨C, hCe⟩ : ∃ C, C = H3.objs.size := ⟨_, rfl⟩
  rw [← hCe] at hCs hns4 hsb4 hC hDC ⊢
  rw [← hDe] at hfp hCs hC hDC hD4 ⊢
  have ok' := I2.incOk (N' := own ++ cs.map (·.2)) (C := C) f2 (fun b hb => by rw [← hDe]; exact hfp b hb) hkind (by rw [← hDe]; exact hC) hcl hhas
  have I4 : Inv (X.inc (own ++ cs.map (·.2)) scope cl fp s2 H2 C) [] (List.replicate own.length none ++ capsAt cs σ) H2 { s2 with heap := h4, toks := s2.toks + ([] : List (Str × Value)).length } :=
    I2.incStart (s4 := { s2 with heap := h4, toks := s2.toks + ([] : List (Str × Value)).length }) ok' old rfl rfl hns4 (by rw [← hDe]; exact hC) hcl hcs
  have Dfree : H2 D = none := I2.hok.fresh (Nat.le_of_eq hDe.symm)
  have ltD : ∀ b o, s2.heap.get? b = some o → b ≠ D := fun b o e => by
    rw [hDe]
    exact Nat.ne_of_lt (Heap.lt_size e)
  have ltC : ∀ b o, s2.heap.get? b = some o → b ≠ C := fun b o e => Nat.ne_of_lt (Nat.lt_of_lt_of_le (by rw [hDe]; exact Heap.lt_size e) hC)
  have Dfs : D ∉ frs X.stack := fun hm => by
    obtain ⟨_, o, e, _⟩ := I2.stack.mem hm
    exact ltD _ _ e rfl
  have pinD : ∀ {σ' : St} {H' : Hp} {s' : Shared} {us : List Value} {n : Nat} {pl : List (Addr × Obj)}, Inv (X.inc (own ++ cs.map (·.2)) scope cl fp s2 H2 C) pl σ' H' s' → s'.heap.get? D = some { cls := .type "list", data := .seq us.toArray n } → H' D = none →
      Inv (X.inc (own ++ cs.map (·.2)) scope cl fp s2 H2 C) [(D, { cls := .type "list", data := .seq us.toArray n })] σ' H' s' := fun {σ' H' s' us n pl} J' e n' => J'.pins_of fun p hp => by
    rcases List.mem_singleton.mp hp with rfl
    exact ⟨e, n', hDC, Dfs, fun v z => by cases z⟩
  have fpok : ∀ {H' : Hp} {o : Obj}, (∀ b ∈ fp, H' b = none) → ∀ b ∈ fp, FpOk (X.inc (own ++ cs.map (·.2)) scope cl fp s2 H2 C) [(D, o)] H' b := fun {H' o} hn b hb => by
    refine ⟨hn b hb, (ok'.exf b hb).1, ok'.exfs b hb, .inl hb, (ok'.exf b hb).2, fun p hp => ?_⟩
    rcases List.mem_singleton.mp hp with rfl
    exact Nat.ne_of_gt (hfp b hb)
  have loop : ∀ s3 : Shared, s3 = { s2 with heap := h4, toks := s2.toks + ([] : List (Str × Value)).length } →
      codeAny (model X.prog X.w) X.A (.compLoop (.ListComp elt [⟨tg, iter, [], 0⟩] scope pos) 0 (.ref it) (.ref D) (compEnvC scope cl C X.env)) (compPost (model X.prog X.w) X.A X.xe none (EP X pins σ Q) (.ref D) C) s3 := by
    rintro s3 rfl
    refine comp_turns (fun n s' => ∃ i ys us nn H', Inv (X.inc (own ++ cs.map (·.2)) scope cl fp s2 H2 C) [(D, { cls := .type "list", data := .seq us.toArray nn })] (List.replicate own.length none ++ capsAt cs σ) H' s' ∧ tn i s'.heap ∧ (∀ b ∈ fp, H' b = none) ∧ Vals ys us ∧ W i n ys H') ?_ m0
      ⟨0, [], [], 0, H2, pinD (us := []) (n := 0) I4 hD4 Dfree, T.keep _ _ _ st2 fun b hb o e => old b o e, fun b hb => (f2 b hb).1, .nil, w0⟩
    rintro n s5 ⟨i, ys, us, nn, H5, I5, st5, fr5, vy, w5⟩
    obtain ⟨hz, ⟨stop, qn⟩ | ⟨go, step⟩⟩ := turn i n ys H5 w5
    · refine wpAny_mono (T.done (X.inc (own ++ cs.map (·.2)) scope cl fp s2 H2 C) rfl rfl rfl hc i _ s5 _ H5 (fun _ _ => False) I5 (fpok fr5) st5 stop) (fun r s6 z => ?_) fun _ _ z => z
      obtain ⟨rfl, I6⟩ := z
      obtain ⟨m6, hn6, _⟩ := id I6.loc
      refine ⟨m6, hn6, fun h7 hs7 => ?_⟩
      obtain ⟨pD, pN, _, _, _⟩ := I6.pin (D, { cls := .type "list", data := .seq us.toArray nn }) (by simp)
      have same : ∀ b, b ≠ C → h7.get? b = s6.heap.get? b := fun b hb => hs7.2 b hb
      have lt2 := ltC
      have u7 : Un (frs X.stack) fp H2 H5 s2.heap h7 := ⟨fun b o e n1 n2 n3 => (same b (lt2 b o e)).trans (I6.base.keep b o e n1 n2 n3), fun b o e n1 n2 n3 => by
          obtain ⟨sl, z⟩ := I6.base.slot b o e n1 n2 n3
          exact ⟨sl, (same b (lt2 b o e)).trans z⟩, I6.base.free, fun b o e n1 => by
          obtain ⟨o', z⟩ := I6.base.there b o e n1
          exact ⟨o', (same b (lt2 b o e)).trans z⟩, I6.base.tups, I6.base.frzs, I6.base.tbls⟩
      have Cfree : H5 C = none := I6.free
      have hok7 : HOk X.prog X.w H5 h7 := fun a o e => by
        refine (I6.hok a o e).stay (fun c v hcc q => (same c ?_).trans q) (fun _ q => q) fun _ _ q => q
        rintro rfl
        rcases hcc with z | z
        · rw [← z] at e; rw [Cfree] at e; cases e
        · rw [Cfree] at z; cases z
      have I7 : Inv X pins σ H5 { s6 with heap := h7 } := I2.call' (s' := { s6 with heap := h7 }) I6.os u7 hok7 I6.bare fun b hb => ⟨(f2 b hb).2.2.2.1, (f2 b hb).2.1, (f2 b hb).2.2.2.2.1, (f2 b hb).2.2.2.2.2⟩
      have I8 := I7.track (a := D) (o := .lst ys) pN (Heap.get?_none_of_le (by rw [hDe]; exact I2.sz)) (by rw [hDe]; exact Nat.ne_of_gt I2.lt) (fun x c e z => by
          obtain ⟨v, o, ho, _⟩ := I2.cell x c e
          exact ltD _ _ ho z) (fun p hp z => ltD _ _ (I2.pin p hp).1 z) ⟨hz, us, nn, vy, (same D hDC).trans pD⟩
      exact ⟨.ref D, _, I8, rfl, qn D pN⟩
    · refine wpAny_mono (T.item (X.inc (own ++ cs.map (·.2)) scope cl fp s2 H2 C) rfl rfl rfl hc i _ s5 _ H5 (fun _ _ => False) I5 (fpok fr5) st5 go) (fun r s6 z => ?_) fun _ _ z => z
      obtain ⟨u, rfl, z⟩ := z
      refine wpAny_mono z (fun _ s7 ⟨x, H7, I7, r7, y7, st7, fr7⟩ => ?_) fun _ _ z => z
      have I7' := I7.pinned (fpok fr7) (T.obj _ _ st7)
      refine wpAny_mono (hg fp s2 H2 C _ s7 _ H7 x u _ I7' r7 (step x H7 y7)) (fun _ s8 ⟨σ8, H8, I8, q8⟩ => ?_) fun _ _ z => z
      refine wpAny_mono (he fp s2 H2 C _ s8 σ8 H8 _ I8 q8) (fun uy s9 ⟨y, H9, I9, r9, m', hm', w9⟩ => ?_) fun _ _ z => z
      obtain ⟨pD, pN, _, _, _⟩ := I9.pin (D, { cls := .type "list", data := .seq us.toArray nn }) (by simp)
      refine append_at (its := us.toArray) (n := nn) pD (fun h10 hs10 hD10 => ?_) (by rw [List.size_toArray, ← vy.length]; exact hz)
      have keepfp : ∀ b ∈ fp, ∀ o, s7.heap.get? b = some o → s9.heap.get? b = some o ∧ H9 b = none := fun b hb o e => by
        have z := I9.pin (b, o) (List.mem_append_right _ (List.mem_append_right _ (mem_pinsAt hb e)))
        exact ⟨z.1, z.2.1⟩
      have I9' : Inv (X.inc (own ++ cs.map (·.2)) scope cl fp s2 H2 C) [] (List.replicate own.length none ++ capsAt cs σ) H9 s9 := I2.incAgain I9 f2 hcl hcs
      have I10 : Inv (X.inc (own ++ cs.map (·.2)) scope cl fp s2 H2 C) [] (List.replicate own.length none ++ capsAt cs σ) H9 { s9 with heap := h10 } := I9'.turned (it := D) (t' := s9.toks) (fun b o hb e => (hs10.2 b hb).trans e) pN hDC (.inr (Nat.le_of_eq hDe.symm)) (fun x c e z => by
          obtain ⟨v, o, ho, _⟩ := I2.cell x c (hcl x c e)
          exact ltD _ _ ho z) fun p hp => by simp at hp
      rw [lstP] at hD10
      refine ⟨m', hm', i + 1, ys ++ [y], us ++ [uy], nn + 1, H9, pinD I10 hD10 pN, T.keep _ _ _ st7 fun b hb o e => ?_, fun b hb => ?_, vy.append (.cons r9 .nil), w9⟩
      · exact (hs10.2 b (Nat.ne_of_lt (hfp b hb))).trans (keepfp b hb o e).1
      · obtain ⟨o, e, _⟩ := T.obj _ _ st7 b hb
        exact (keepfp b hb o e).2
  exact codeAny_compStart_list (loop _ rfl) (T.self _ 0 _ _ _ (T.keep _ _ _ st2 fun b hb o e => old b o e) (loop _ rfl))
end
end L2

set_option Elab.async false
set_option linter.all false
set_option maxRecDepth 100000
set_option maxHeartbeats 4000000

namespace L2
open PySem PySem.Spec PyProof.Rows
section
variable {X : Cx}
def rInU (K : PySem.W.Frag) : R2 := fun x y H Q => match x, y with
  | .str i, .str j => Q (.bl (!(Builtin.Str.occurrences j i 0 j.length 1).isEmpty)) H
  | x, y => rIn K false x y H Q
theorem op_inU : OpR X (compareOp .In) (rInU X.K) := fun pins s σ H x y v u Q I rx ry q => by
  unfold rInU at q
  split at q
  · exact op_in_str pins s σ H _ _ v u Q I rx ry ⟨_, _, rfl, rfl, q⟩
  · exact op_in_seq pins s σ H _ _ v u Q I rx ry q
theorem op_inK {K : PySem.W.Frag} (hK : X.K = K) : OpR X (compareOp .In) (rInU K) := hK ▸ op_inU
theorem ix_UK {K : PySem.W.Frag} (hK : X.K = K) : IxR X (rIxU K) := hK ▸ ix_U
theorem op_addK {K : PySem.W.Frag} (hK : X.K = K) : OpR X (binaryOp .Add) (rAddU K) := hK ▸ op_addU
theorem y57y {K : PySem.W.Frag} {i j : Str} {H : Hp} {Q : VK} : rInU K (.str i) (.str j) H Q = Q (.bl (!(Builtin.Str.occurrences j i 0 j.length 1).isEmpty)) H := rfl
theorem all_range : ∀ bs : List Bool, (List.range bs.length).all (fun i => bs.getD i false) = bs.all id := fun bs => by
  rw [Bool.eq_iff_iff]
  simp only [List.all_eq_true, List.mem_range, id]
  constructor
  · intro h x hx
    obtain ⟨i, hi, rfl⟩ := List.mem_iff_getElem.mp hx
    have := h i hi
    simpa [List.getD_eq_getElem?_getD, hi] using this
  · intro h i hi
    have := h bs[i] (List.getElem_mem hi)
    simpa [List.getD_eq_getElem?_getD, hi] using this
def rAll (K : PySem.W.Frag) : List V → Hp → VK → Prop := fun xs H Q => ∃ (p : Addr) (bs : List Bool), xs = [.ref p] ∧ SqL K H p (bs.map V.bl) ∧ Q (.bl (bs.all id)) H
theorem call_allU (hc : X.calm = true) : CallR X (.builtin "all") (rAll X.K) := fun pins s σ H xs us Q I r q => by
  obtain ⟨p, bs, rfl, hL, q⟩ := q
  obtain ⟨its, rv, pl, hz⟩ := I.list hL
  obtain ⟨u, rfl, ru⟩ := vals1 r
  cases (show u = Value.ref p from ru)
  refine call_all_walk (wpAny_pyIter_list pl.isList ?_)
  have hlt : p < s.heap.objs.size := by
    obtain ⟨_, e, _⟩ := pl.isList
    exact Heap.lt_size e
  refine ⟨s.heap.objs.size, _, _, its.toArray.size, _, _, fun i => bs.getD i false, rfl, Walks.list (by show X.A.handled = none; exact I.ok.hd hc) s.heap.objs.size p (Nat.ne_of_lt hlt) its.toArray, ⟨⟨_, Heap.get?_push_size _ rfl, rfl, rfl⟩, pl.isList.push _⟩, ?_, ?_⟩
  · intro i v s' Q' E' hv hQ
    have hv' : its[i]? = some v := by simpa using hv
    have hi : i < bs.length := by
      obtain ⟨hl, _⟩ := List.getElem?_eq_some_iff.mp hv'
      have l := rv.length
      rw [List.length_map] at l
      omega
    obtain ⟨v', e1, e2⟩ := rv.get (i := i) (x := .bl bs[i]) (by simp [hi])
    rw [hv'] at e1
    cases e1
    cases (show v = Value.bool bs[i] from e2)
    refine wpAny_truthy_bool ?_
    simpa [List.getD_eq_getElem?_getD, hi] using hQ
  · intro h' tk k
    have l := rv.length
    rw [List.length_map] at l
    have ea : (List.range its.toArray.size).all (fun i => bs.getD i false) = bs.all id := by rw [List.size_toArray, ← l]; exact all_range bs
    rw [ea]
    exact ⟨.bl _, H, I.kept (t' := tk) fun b ob e => k b ob (by have := Heap.lt_size e; simp; exact Nat.ne_of_lt this) (Heap.get?_push_of_some _ e), rfl, q⟩
end
theorem hcl0 {X : Cx} : ∀ (x : Str) (c : Addr), ([] : List (Str × Addr)).lookup x = some c → X.env.cells.lookup x = some c := fun _ _ h => by simp at h
theorem hcs0 {X : Cx} {scope : Scope} : ∀ p ∈ ([] : List (Nat × Str)), X.N[p.1]? = some p.2 ∧ X.env.scope.names.lookup p.2 = some .cell ∧ (relabel scope X.env).names.lookup p.2 = some .cell := fun _ h => by simp at h
theorem hhas0 {X : Cx} {scope : Scope} (h : scope.names.all (fun p => p.2 != .free && p.2 != .cell) = true) : ∀ y, ((relabel scope X.env).names.lookup y = some .cell ∨ (relabel scope X.env).names.lookup y = some .free) → ∃ c, ([] : List (Str × Addr)).lookup y = some c := fun y hy => by
  exfalso
  have h' := List.all_eq_true.mp h
  have go : ∀ k, (relabel scope X.env).names.lookup y = some k → k ≠ .cell ∧ k ≠ .free := fun k e => by
    have m := PySem.mem_of_lookup e
    obtain ⟨⟨n, k'⟩, hm, e'⟩ := List.mem_map.mp (show (y, k) ∈ scope.names.map _ from m)
    have z := h' _ hm
    simp only [bne_iff_ne, ne_eq, Bool.and_eq_true] at z
    have e2 : (if (k' == NameKind.free && X.env.scope.kind == .function && X.env.kindOf n == some .cell) = true then (n, NameKind.cell) else (n, k')) = (y, k) := e'
    split at e2
    · rename_i c
      rw [Bool.and_eq_true, Bool.and_eq_true] at c
      exact absurd (beq_iff_eq.mp c.1.1) z.1
    · cases e2
      exact ⟨z.2, z.1⟩
  rcases hy with hy | hy
  · exact (go _ hy).1 rfl
  · exact (go _ hy).2 rfl
def tyD : D → String
  | .non => "NoneType"
  | .bl _ => "bool"
  | .int _ => "int"
  | .str _ => "str"
  | .tup _ => "tuple"
  | .lst _ => "list"
theorem Rep.tyN {K : PySem.W.Frag} {H : Hp} {d : D} {x : V} (h : Rep K H d x) : L2.tyN K H x (tyD d) := by
  cases d <;> simp only [Rep] at h
  · subst h; rfl
  · subst h; rfl
  · subst h; rfl
  · subst h; rfl
  · obtain ⟨a, xs, rfl, q, _⟩ := h; exact .inr ⟨rfl, xs, q⟩
  · obtain ⟨a, xs, rfl, q, _⟩ := h; exact .inl ⟨rfl, xs, q⟩
mutual
def szD : D → Prop
  | .int i => Mth.Sz 4000 i
  | .str s => s.length ≤ 1000
  | .tup xs => szL xs
  | .lst xs => szL xs
  | _ => True
def szL : List D → Prop
  | [] => True
  | x :: xs => szD x ∧ szL xs
end
def lowB (c : Nat) : Bool := decide (97 ≤ c ∧ c ≤ 122)
def nameS (s : Str) : Bool := (decide (1 ≤ s.length) && decide (s.length ≤ 8)) && s.cps.toList.all lowB
def nameB : D → Bool
  | .str s => nameS s
  | _ => false
def wholeB : D → Bool
  | .int _ => true
  | _ => false
def fracB : D → Bool
  | .tup [.int a, .int b] => decide (1 ≤ b) && decide (Mth.g a b = 1)
  | _ => false
def boundB : D → Bool
  | .non => true
  | d => fracB d
def facesB (d e : D) : Bool := nameB d && nameB e && !eqD d e
/-- whether the one fraction is less -/
def lessD : D → D → Bool
  | .tup [.int a, .int b], .tup [.int c, .int d] => decide (a * d < c * b)
  | _, _ => false
def boundsB (l g : D) : Bool := boundB l && boundB g && !lessD g l
def tieB : D → Bool
  | .tup [n, s, e, l, g] => nameB n && facesB s e && boundsB l g
  | _ => false
theorem letters_eq : (Str.ofString "abcdefghijklmnopqrstuvwxyz").cps.toList = List.range' 97 26 := by decide
theorem in_letters (c : Nat) : (!(Builtin.Str.occurrences (Str.ofString "abcdefghijklmnopqrstuvwxyz") ⟨#[c]⟩ 0 (Str.ofString "abcdefghijklmnopqrstuvwxyz").length 1).isEmpty) = lowB c := by
  rw [StrLaws.found_one, letters_eq]
  unfold lowB
  congr 1
  rw [List.mem_range']
  refine propext ⟨fun ⟨i, hi, e⟩ => by omega, fun h => ⟨c - 97, by omega, by omega⟩⟩
end L2

set_option Elab.async false
set_option linter.all false
set_option maxRecDepth 100000
set_option maxHeartbeats 4000000

namespace L2
open PySem PySem.Spec PyProof.Rows
/-- a class that may be called: what its __init__ promises -/
structure KCal (P : Program) (w : World) (K : PySem.W.Frag) (mg : Str → Option Value) (base : Heap) (k : Nat) (x : Str) (C : Addr) (ps : List Str) (sp : Sp) : Prop where
  ex : ∃ (f : Addr) (fd : FuncData), FnOk P w K mg base (CX1 P w) k f fd ps sp ∧ mg x = some (.ref C) ∧ Mk K C f ∧ Binds K fd ps []
/-- a method that may be called upon an instance of any of these classes -/
structure MCal (P : Program) (w : World) (K : PySem.W.Frag) (mg : Str → Option Value) (base : Heap) (k : Nat) (m : Str) (Cs : Addr → Prop) (ps : List Str) (sp : Sp) : Prop where
  ex : ∃ (f : Addr) (fd : FuncData), FnOk P w K mg base (CX1 P w) k f fd ps sp ∧ (∀ C, Cs C → Cls K C ∧ Meth K C m f) ∧ PySem.W.keepIn K (.ref f) = true ∧ Binds K fd ps []
def tMethU (Cs : Addr → Prop) (m : Str) (sp : Sp) (E : XK) (ta : TE) (t : TA) : TE := fun σ H Q => ta σ H fun x H1 => ∃ a C dx fs, x = .ref a ∧ H1 a = some (.ins C dx fs) ∧ Cs C ∧ fs.lookup m = none ∧ t σ H1 fun vs H2 => sp (x :: vs) H2 Q E
section
variable {X : Cx} {k k' : Nat} {x mn : Str} {C : Addr} {Cs : Addr → Prop} {ps : List Str} {sp : Sp} {E : XK} {p pos apos : Pos} {e o : Expr} {es : List Expr} {t : TA} {ta : TE}
theorem KCal.ev (G : KCal X.prog X.w X.K X.mg X.base k x C ps sp) (hr : Room k' X.A) (hk : k + 1 ≤ k') (hg : Gl X x) (hx : Passes (CX1 X.prog X.w) X E) (ha : PA X (e :: es) t)
    (hdb : (x == ("__debug__" : Str)) = false := by decide) (he : starEach (e :: es) X.env = (false, eval e X.env) :: starEach es X.env := by rfl) (hpl : (backTo pos (starEach es X.env)).any (·.1) = false := by rfl) :
    PE X (.Call (.Name x p) (e :: es) [] pos) (tMake C sp [] E t) := by
  obtain ⟨f, fd, F, hm, M, hb⟩ := G.ex
  exact pe_make M F (hr.mono hk) hg hm hb .nil hx ha hdb he hpl
theorem MCal.m {pl : Sem Bool} (G : MCal X.prog X.w X.K X.mg X.base k mn Cs ps sp) (hr : Room k' X.A) (hk : k ≤ k') (hx : Passes (CX1 X.prog X.w) X E) (ho : PE X o ta) (ha : PA X (e :: es) t)
    (hst : starEach (e :: es) X.env = (false, eval e X.env) :: starEach es X.env := by rfl) (hpl : (backTo pos (starEach es X.env)).any (·.1) = false := by rfl)
    (ht : eval (.Call (.Attribute o mn apos) (e :: es) [] pos) X.env = (do
      let ov ← eval o X.env
      standAt apos.atName
      let (f, first) ← holding [ov] (getMethod ov mn pl)
      callWith pos f first (backTo pos (starEach (e :: es) X.env)) (backToKw pos (keywordEach [] X.env))) := by rfl) :
    PE X (.Call (.Attribute o mn apos) (e :: es) [] pos) (tMethU Cs mn sp E ta t) := by
  obtain ⟨f, fd, F, hm, kp, hb⟩ := G.ex
  intro pins s σ H Q I h
  refine PySem.W.methodCall_KW (pl := pl) (thn (ho pins s σ H _ I h) fun u s1 ⟨x, H1, I1, rx, a, C, dx, fs, ex, ea, hC, l, q⟩ => ?_) ht
  subst ex
  obtain rfl : u = Value.ref a := rx
  refine getmeth_ok I1 ea (hm C hC).1 (hm C hC).2 l ?_
  refine PySem.W.callWith_K (first := [.ref a]) (h₀ := X.base) I.ok.mod.kin kp (thn (ha pos pins s1 σ H1 _ I1 q) fun us s2 ⟨vs, H2, I2, r, q2⟩ => ⟨I2.kIn, ?_⟩) hst hpl
  exact run_fn (us := .ref a :: us) (vs := .ref a :: vs) F (hr.mono hk) hb .nil hx I2 (.cons rfl r) (by simpa using q2)
theorem MCal.m0 {pl : Sem Bool} (G : MCal X.prog X.w X.K X.mg X.base k mn Cs ps sp) (hr : Room k' X.A) (hk : k ≤ k') (hx : Passes (CX1 X.prog X.w) X E) (ho : PE X o ta)
    (ht : eval (.Call (.Attribute o mn apos) [] [] pos) X.env = (do
      let ov ← eval o X.env
      standAt apos.atName
      let (f, first) ← holding [ov] (getMethod ov mn pl)
      callWith pos f first (backTo pos (starEach [] X.env)) (backToKw pos (keywordEach [] X.env))) := by rfl) :
    PE X (.Call (.Attribute o mn apos) [] [] pos) (tMethU Cs mn sp E ta tNil) := by
  obtain ⟨f, fd, F, hm, kp, hb⟩ := G.ex
  intro pins s σ H Q I h
  refine PySem.W.methodCall_KW (pl := pl) (thn (ho pins s σ H _ I h) fun u s1 ⟨x, H1, I1, rx, a, C, dx, fs, ex, ea, hC, l, q⟩ => ?_) ht
  subst ex
  obtain rfl : u = Value.ref a := rx
  refine getmeth_ok I1 ea (hm C hC).1 (hm C hC).2 l ?_
  exact PySem.W.callWith_K0 (first := [.ref a]) I1.kIn kp (run_fn (us := [.ref a]) (vs := [.ref a]) F (hr.mono hk) hb .nil hx I1 (.cons rfl .nil) (show sp ([.ref a] ++ []) H1 Q E from q))
def rMulS : R2 := fun x y H Q => match x, y with
  | .str z, .int n => 0 < n ∧ n < 1000 ∧ z.length ≤ 1000 ∧ ∀ z' : Str, z'.cps.toList = (List.replicate n.toNat z.cps.toList).flatten → Q (.str z') H
  | x, y => rMulU x y H Q
theorem cat_fold : ∀ (l : List (Array Nat)) (acc : Array Nat), (l.foldl (· ++ ·) acc).toList = acc.toList ++ (l.map (·.toList)).flatten
  | [], acc => by simp
  | x :: l, acc => by
    rw [List.foldl_cons, cat_fold l]
    simp
theorem op_mulS : OpR X (binaryOp .Mult) rMulS := fun pins s σ H x y v u Q I rx ry q => by
  unfold rMulS at q
  split at q
  · rename_i z n
    obtain ⟨h0, h1, h2, q⟩ := q
    obtain ⟨t, rfl⟩ := rx
    obtain ⟨t', rfl⟩ := ry
    have hz : z.cps.size = z.length := rfl
    have big : z.length * n.toNat ≤ 1000 * 1000 := Nat.mul_le_mul h2 (by omega)
    refine PySem.P.mul_str (by simp; omega) (fun _ _ => ?_) (fun _ _ => ?_) ?_
    · have : (1000 : Int) ≤ (2 ^ 63 - 1) / n := by
        rw [Int.le_ediv_iff_mul_le h0]
        omega
      omega
    · unfold Builtin.Str.tooLong
      simp
      have : (1000 * 1000 : Nat) ≤ sizeLine := by decide
      omega
    · rw [if_neg (by omega)]
      split
      · rename_i c
        refine ⟨.str z, H, I, ⟨_, rfl⟩, q z ?_⟩
        rcases Bool.or_eq_true _ _ |>.mp c with c | c
        · obtain rfl : n = 1 := by simpa using c
          simp
        · have e : z.cps.toList = [] := by
            have : z.length = 0 := by simpa using c
            exact List.eq_nil_of_length_eq_zero (by rw [Array.length_toList]; exact this)
          rw [e]
          simp
      · refine ⟨?_, .str _, H, I.tok _, ⟨_, rfl⟩, q _ ?_⟩
        · show (Array.size _) ≤ sizeLine
          rw [← Array.length_toList, cat_fold]
          simp
          have : (1000 * 1000 : Nat) ≤ sizeLine := by decide
          rw [Nat.mul_comm, hz]
          omega
        · rw [cat_fold]
          simp
  · exact op_mulU pins s σ H _ _ v u Q I rx ry q
def rIsN : R2 := fun x y H Q => y = .non ∧ Q (.bl (decide (x = .non))) H
def rNotN : R2 := fun x y H Q => y = .non ∧ Q (.bl (!decide (x = .non))) H
theorem op_isNU : OpR X (compareOp .Is) rIsN := op_isN
theorem op_notNU : OpR X (compareOp .IsNot) rNotN := op_notN
def rListU (K : PySem.W.Frag) : List V → Hp → VK → Prop := fun xs H Q => ∃ p ys, xs = [.ref p] ∧ (SqL K H p ys ∨ SqT K H p ys) ∧ ∀ l, H l = none → Q (.ref l) (upd H l (.lst ys))
theorem call_listU : CallR X (.type "list") (rListU X.K) := call_list_of
end
section
variable {K : PySem.W.Frag} {H : Hp} {Q : VK}
theorem y5ay {x : V} : rIsN x .non H Q = Q (.bl (decide (x = .non))) H := by simp [rIsN]
theorem y70y {x : V} : rNotN x .non H Q = Q (.bl (!decide (x = .non))) H := by simp [rNotN]
theorem y60y {C : Addr} {sp : Sp} {dvs : List V} {E : XK} {t : TA} {σ : St} : tMake C sp dvs E t σ H Q = t σ H fun vs H1 => ∀ x dx, H1 x = none → H1 dx = none → dx ≠ x → sp (.ref x :: (vs ++ dvs)) (upd (upd H1 dx (.own x)) x (.ins C dx [])) (fun v H2 => v = .non ∧ Q (.ref x) H2) E := rfl
theorem y61y {Cs : Addr → Prop} {mn : Str} {sp : Sp} {E : XK} {ta : TE} {t : TA} {σ : St} : tMethU Cs mn sp E ta t σ H Q = ta σ H fun x H1 => ∃ a C dx fs, x = .ref a ∧ H1 a = some (.ins C dx fs) ∧ Cs C ∧ fs.lookup mn = none ∧ t σ H1 fun vs H2 => sp (x :: vs) H2 Q E := rfl
theorem y4ay {ta : TE} {f : Str} {σ : St} : tFld K ta f σ H Q = ta σ H fun x H1 => ∃ a C dx fs v, x = .ref a ∧ H1 a = some (.ins C dx fs) ∧ Cls K C ∧ NoAttr K C f ∧ fs.lookup f = some v ∧ Q v H1 := rfl
theorem y7ey {ta tv : TE} {f : Str} {σ : St} {En : Ends} : sFld K ta tv f En σ H = tv σ H fun y H1 => ta σ H1 fun x H2 => ∃ a C dx fs, x = .ref a ∧ H2 a = some (.ins C dx fs) ∧ Cls K C ∧ NoAttr K C f ∧ fs.length < 1000 ∧ En.nx σ (upd H2 a (.ins C dx (putF f y fs))) := rfl
theorem y2by {T : String} {r : V → List V → Hp → VK → Prop} {to : TE} {t : TA} {σ : St} : tBM K T r to t σ H Q = to σ H fun x H1 => tyV K T x H1 ∧ t σ H1 fun vs H2 => r x vs H2 Q := rfl
theorem y52y {g : TG} {gs : TGs} {v : V} {r : List V} {σ : St} {R : St → Hp → Prop} : gCons g gs (v :: r) σ H R = g v σ H fun σ' H' => gs r σ' H' R := by
  unfold gCons
  refine propext ⟨fun ⟨v', r', e, h⟩ => ?_, fun h => ⟨v, r, rfl, h⟩⟩
  cases e
  exact h
theorem y54y {σ : St} {R : St → Hp → Prop} : gNil [] σ H R = R σ H := by unfold gNil; simp
theorem FrV.of_rep {x : V} {a b : Int} (h : Rep K H (.tup [.int a, .int b]) x) : FrV K H x a b := by
  simp only [Rep, RepL] at h
  obtain ⟨p, xs, rfl, q, v, r, rfl, rfl, v', r', rfl, rfl, rfl⟩ := h
  exact ⟨p, rfl, q⟩
theorem frac_shape {d : D} (h : fracB d = true) : ∃ a b, d = .tup [.int a, .int b] ∧ 1 ≤ b ∧ Mth.g a b = 1 := by
  unfold fracB at h
  split at h
  · rw [Bool.and_eq_true] at h
    exact ⟨_, _, rfl, by simpa using h.1, by simpa using h.2⟩
  · cases h
theorem name_shape {d : D} (h : nameB d = true) : ∃ z, d = .str z ∧ nameS z = true := by
  cases d <;> first | exact ⟨_, rfl, h⟩ | (simp [nameB] at h)
theorem Rep.str {d : Str} {x : V} (h : Rep K H (.str d) x) : x = .str d := by simpa only [Rep] using h
def nonD : D → Bool
  | .non => true
  | _ => false
theorem nonD_no {d : D} (h : d ≠ .non) : nonD d = false := by cases d <;> first | rfl | exact absurd rfl h
theorem Rep.nonV {d : D} {x : V} (hx : Rep K H d x) : decide (x = .non) = nonD d := by
  cases d <;> simp only [Rep] at hx
  · subst hx; rfl
  · subst hx; rfl
  · subst hx; rfl
  · subst hx; rfl
  · obtain ⟨a, xs, rfl, _⟩ := hx; rfl
  · obtain ⟨a, xs, rfl, _⟩ := hx; rfl
/-- another object is stored: what is of another content stays -/
theorem putE {H' : Hp} {l : Addr} {o : HO} (e : upd H l o = H') : H' l = some o := by rw [← e, upd_same]
end
end L2

set_option Elab.async false
set_option linter.all false
set_option maxRecDepth 100000
set_option maxHeartbeats 4000000

namespace L2
open PySem PySem.Spec PyProof.Rows
section
variable {En : Ends} {σ : St} {H : Hp} {Q : VK} {ta tb te tc td : TE} {K : PySem.W.Frag}
end
end L2

set_option Elab.async false
set_option linter.all false
set_option maxRecDepth 100000
set_option maxHeartbeats 4000000

namespace L2
open PySem PySem.Spec PyProof.Rows
def clFold (cells : List (Str × Addr)) : List (Str × NameKind) → List (Str × Addr) → List (Str × Addr)
  | [], acc => acc
  | (n, k) :: r, acc => clFold cells r (if k == .free then (n, (cells.lookup n).getD 0) :: acc else acc)
theorem clos_go {env : Env} : ∀ (names : List (Str × NameKind)) (acc : List (Str × Addr)), (∀ p ∈ names, p.2 = .free → ∃ c, env.cells.lookup p.1 = some c) →
    (forIn names acc fun (p : Str × NameKind) cs => (if p.2 == .free then do let c ← cellOf env p.1; pure (ForInStep.yield ((p.1, c) :: cs)) else pure (ForInStep.yield cs) : Sem (ForInStep (List (Str × Addr))))) = (pure (clFold env.cells names acc) : Sem (List (Str × Addr)))
  | [], acc, _ => by simp [clFold]
  | (n, k) :: r, acc, h => by
    rw [List.forIn_cons]
    by_cases c : (k == .free) = true
    · obtain ⟨a, ha⟩ := h (n, k) List.mem_cons_self (beq_iff_eq.mp c)
      have e : cellOf env n = pure a := by unfold cellOf; rw [ha]
      simp only [c, if_true, e, pure_bind]
      have := clos_go (env := env) r ((n, a) :: acc) fun p hp => h p (List.mem_cons_of_mem _ hp)
      simp only [clFold, c, if_true, ha, Option.getD_some]
      exact this
    · have c' : (k == .free) = false := by simpa using c
      simp only [c', Bool.false_eq_true, if_false, pure_bind]
      have := clos_go (env := env) r acc fun p hp => h p (List.mem_cons_of_mem _ hp)
      simp only [clFold, c', Bool.false_eq_true, if_false]
      exact this
theorem clos_eq {scope : Scope} {env : Env} (h : ∀ p ∈ scope.names, p.2 = .free → ∃ c, env.cells.lookup p.1 = some c) : closureFor scope env = pure (clFold env.cells scope.names []) := by
  have := clos_go (env := env) scope.names [] h
  unfold closureFor
  simp only [pure_bind]
  refine Eq.trans ?_ (congrArg (fun m : Sem (List (Str × Addr)) => m >>= pure) this |>.trans (by simp))
  first | rfl | (congr 1)

theorem clFold_sub {cells : List (Str × Addr)} : ∀ (names : List (Str × NameKind)) (acc : List (Str × Addr)), (∀ x c, acc.lookup x = some c → cells.lookup x = some c) → (∀ p ∈ names, p.2 = .free → ∃ c, cells.lookup p.1 = some c) →
    ∀ x c, (clFold cells names acc).lookup x = some c → cells.lookup x = some c
  | [], acc, ha, _, x, c, h => ha x c h
  | (n, k) :: r, acc, ha, hf, x, c, h => by
    simp only [clFold] at h
    refine clFold_sub r _ ?_ (fun p hp => hf p (List.mem_cons_of_mem _ hp)) x c h
    intro y d hy
    by_cases f : (k == .free) = true
    · rw [if_pos f] at hy
      obtain ⟨a, e⟩ := hf (n, k) List.mem_cons_self (beq_iff_eq.mp f)
      rw [List.lookup_cons] at hy
      by_cases q : (y == n) = true
      · rw [q] at hy
        have q' : y = n := beq_iff_eq.mp q
        subst q'
        have e' : cells.lookup y = some a := e
        rw [e'] at hy ⊢
        simpa using hy
      · have q' : (y == n) = false := by simpa using q
        rw [q'] at hy
        exact ha y d hy
    · rw [if_neg f] at hy
      exact ha y d hy
theorem clFold_has {cells : List (Str × Addr)} : ∀ (names : List (Str × NameKind)) (acc : List (Str × Addr)) (y : Str), ((∃ c, acc.lookup y = some c) ∨ (y, NameKind.free) ∈ names) → ∃ c, (clFold cells names acc).lookup y = some c
  | [], acc, y, h => by
    rcases h with h | h
    · exact h
    · simp at h
  | (n, k) :: r, acc, y, h => by
    simp only [clFold]
    refine clFold_has r _ y ?_
    rcases h with ⟨c, h⟩ | h
    · refine .inl ?_
      split
      · rw [List.lookup_cons]
        cases (y == n)
        · exact ⟨c, h⟩
        · exact ⟨_, rfl⟩
      · exact ⟨c, h⟩
    · rcases List.mem_cons.mp h with e | h
      · cases e
        refine .inl ?_
        rw [if_pos (by decide), List.lookup_cons]
        simp
      · exact .inr h
section
variable {X : Cx} {tg : Expr}
/-- [elt for tg in iter], elt reads names of the def around -/
theorem pe_compC {iter elt : Expr} {scope : Scope} {pos : Pos} {own : List Str} {cs : List (Nat × Str)} {wi : TI} {g : TG} {te : TE} (hc : X.calm = true) (hi : PI X tg iter wi)
    (hg : ∀ fp s2 H2 C, PG (X.inc (own ++ cs.map (·.2)) scope (clFold X.env.cells scope.names []) fp s2 H2 C) tg g) (he : ∀ fp s2 H2 C, PE (X.inc (own ++ cs.map (·.2)) scope (clFold X.env.cells scope.names []) fp s2 H2 C) elt te)
    (hfree : ∀ p ∈ scope.names, p.2 = .free → X.env.scope.names.lookup p.1 = some .cell) (hcell : ∀ y ∈ scope.names, y.2 ≠ .cell) (hkind : scope.kind = .function) (hnames : ∀ y ∈ scope.names, y.2 = .local → scope.names.lookup y.1 = some .local)
    (hcs : ∀ p ∈ cs, X.N[p.1]? = some p.2 ∧ X.env.scope.names.lookup p.2 = some .cell ∧ (relabel scope X.env).names.lookup p.2 = some .cell)
    (hs : ∀ x, foldedSetIterable iter X.env x = pure x := by intro _; rfl) : PE X (.ListComp elt [⟨tg, iter, [], 0⟩] scope pos) (tComp own.length cs wi g te) := by
  intro pins s σ H Q I h
  have hf : ∀ p ∈ scope.names, p.2 = .free → ∃ c, X.env.cells.lookup p.1 = some c := fun p hp hk => I.ok.has p.1 (.inl (hfree p hp hk))
  refine pe_comp hc hi hg he (clos_eq hf) hcell hkind hnames (clFold_sub scope.names [] (fun _ _ z => by simp at z) hf) (fun y hy => clFold_has scope.names [] y (.inr ?_)) hcs hs pins s σ H Q I h
  have go : ∀ k, (k = .cell ∨ k = .free) → (relabel scope X.env).names.lookup y = some k → (y, NameKind.free) ∈ scope.names := fun k hk e => by
    have m := PySem.mem_of_lookup e
    obtain ⟨⟨n, k'⟩, hm, e'⟩ := List.mem_map.mp (show (y, k) ∈ scope.names.map _ from m)
    have e2 : (if (k' == NameKind.free && X.env.scope.kind == .function && X.env.kindOf n == some .cell) = true then (n, NameKind.cell) else (n, k')) = (y, k) := e'
    split at e2
    · rename_i c
      rw [Bool.and_eq_true, Bool.and_eq_true] at c
      have := beq_iff_eq.mp c.1.1
      subst this
      cases e2
      exact hm
    · cases e2
      rcases hk with rfl | rfl
      · exact absurd rfl (hcell _ hm)
      · exact hm
  rcases hy with hy | hy
  · exact go _ (.inl rfl) hy
  · exact go _ (.inr rfl) hy
theorem hfreeD {scope sc : Scope} (h : scope.names.all (fun p => p.2 != .free || (sc.names.lookup p.1 == some .cell)) = true) : ∀ p ∈ scope.names, p.2 = .free → sc.names.lookup p.1 = some .cell := fun p hp hk => by
  have z := List.all_eq_true.mp h p hp
  rw [hk] at z
  simpa using z
end
theorem hcs1 {X : Cx} {scope : Scope} {i : Nat} {x : Str} (a : X.N[i]? = some x) (b : X.env.scope.names.lookup x = some .cell) (c : (relabel scope X.env).names.lookup x = some .cell) :
    ∀ p ∈ [(i, x)], X.N[p.1]? = some p.2 ∧ X.env.scope.names.lookup p.2 = some .cell ∧ (relabel scope X.env).names.lookup p.2 = some .cell := fun p hp => by
  rcases List.mem_singleton.mp hp with rfl
  exact ⟨a, b, c⟩
theorem hcs2 {X : Cx} {scope : Scope} {i j : Nat} {x y : Str} (a : X.N[i]? = some x) (b : X.env.scope.names.lookup x = some .cell) (c : (relabel scope X.env).names.lookup x = some .cell)
    (a' : X.N[j]? = some y) (b' : X.env.scope.names.lookup y = some .cell) (c' : (relabel scope X.env).names.lookup y = some .cell) :
    ∀ p ∈ [(i, x), (j, y)], X.N[p.1]? = some p.2 ∧ X.env.scope.names.lookup p.2 = some .cell ∧ (relabel scope X.env).names.lookup p.2 = some .cell := fun p hp => by
  rcases List.mem_cons.mp hp with rfl | hp
  · exact ⟨a, b, c⟩
  · rcases List.mem_singleton.mp hp with rfl
    exact ⟨a', b', c'⟩
end L2

set_option Elab.async false
set_option linter.all false
set_option maxRecDepth 100000
set_option maxHeartbeats 4000000

namespace L2
open PySem PySem.Spec PyProof.Rows
section
variable {X : Cx} {tg : Expr}
end
end L2

set_option Elab.async false
set_option linter.all false
set_option maxRecDepth 100000
set_option maxHeartbeats 4000000

namespace L2
open PySem PySem.Spec PyProof.Rows
section
variable {prog : Program} {w : World} {A : Around} {E : Value → Shared → Prop} {R : Result → Shared → Prop} {s : Shared}
end
/-- [elt for tg in iter if tst] -/
def tCompI (k : Nat) (cs : List (Nat × Str)) (wi : TI) (g : TG) (tt : TT) (te : TE) : TE := fun σ H Q => wi σ H fun J H1 => ∃ W : Nat → Nat → List V → Hp → Prop, (∃ m, W 0 m [] H1) ∧ ∀ i m ys H2, W i m ys H2 → ys.length ≤ sizeLine ∧
  ((J.stop i H2 ∧ ∀ p, H2 p = none → Q (.ref p) (upd H2 p (.lst ys))) ∨
   (J.go i H2 ∧ ∀ x H3, J.yld i H2 x H3 → g x (List.replicate k none ++ capsAt cs σ) H3 fun σ4 H4 => tt σ4 H4 fun b H5 => if b = true then te σ4 H5 fun y H6 => ∃ m', m' < m ∧ W (i + 1) m' (ys ++ [y]) H6 else ∃ m', m' < m ∧ W (i + 1) m' ys H5))
section
variable {X : Cx} {tg : Expr}
end
end L2

set_option Elab.async false
set_option linter.all false
set_option maxRecDepth 100000
set_option maxHeartbeats 4000000

namespace L2
open PySem PySem.Spec PyProof.Rows
section
variable {X : Cx} {pins : List (Addr × Obj)} {σ : St} {H : Hp} {s : Shared} {h' : Heap}
theorem Inv.turnedL {t' : Nat} {ch : List Addr} (I : Inv X pins σ H s) (k : ∀ b o, b ∉ ch → s.heap.get? b = some o → h'.get? b = some o) (hf : ∀ b ∈ ch, FpOk X pins H b) : Inv X pins σ H { s with heap := h', toks := t' } := by
  have nit : ∀ b u, H b = some u → b ∉ ch := fun b u e z => by rw [(hf b z).1] at e; cases e
  refine I.step (g' := s.gens) (d' := s.drawn) (ch := ch) (fun b hb => ?_) (fun b o _ _ hc e _ => k b o hc e) (fun b o _ _ hc e _ => ⟨o.slots, k b o hc e⟩) (fun _ _ _ _ n => n)
    (fun b o hc e => ⟨o, k b o hc e⟩) (fun _ _ e => e) (fun _ _ _ e => e) (fun b ps e => ⟨#[], by rw [e]; simp⟩) (fun m hm => ?_) (fun b u e => ?_) I.bare
  · obtain ⟨_, f1, _, f3, f4, f5⟩ := hf b hb
    exact ⟨f3, f1, f4, f5⟩
  · obtain ⟨o, es, ep, ho, r⟩ := hm
    exact ⟨o, es, ep, k _ o (fun z => (hf _ z).2.1 rfl) ho, r⟩
  · refine (I.hok b u e).stay (fun c v hc q => k c v ?_ q) (fun _ q => q) fun _ _ q => q
    rcases hc with z | z
    · rw [z]; exact nit b u e
    · exact nit c _ z
end
theorem za (n a b : Nat) (h1 : a < n) (h2 : b < n) : ZipApart (n + 4) (n + 2) (n + 3) n (n + 1) a b where
  TIz := Nat.ne_of_lt (show n + 2 < n + 4 by omega)
  TOz := Nat.ne_of_lt (show n + 3 < n + 4 by omega)
  i1z := Nat.ne_of_lt (show n < n + 4 by omega)
  i2z := Nat.ne_of_lt (show n + 1 < n + 4 by omega)
  TITO := Nat.ne_of_lt (show n + 2 < n + 3 by omega)
  TIi1 := Nat.ne_of_gt (show n < n + 2 by omega)
  TIi2 := Nat.ne_of_gt (show n + 1 < n + 2 by omega)
  TOi1 := Nat.ne_of_gt (show n < n + 3 by omega)
  TOi2 := Nat.ne_of_gt (show n + 1 < n + 3 by omega)
  i12 := Nat.ne_of_lt (show n < n + 1 by omega)
  l1z := Nat.ne_of_lt (show a < n + 4 by omega)
  l1TO := Nat.ne_of_lt (show a < n + 3 by omega)
  l1i1 := Nat.ne_of_lt (show a < n by omega)
  l1i2 := Nat.ne_of_lt (show a < n + 1 by omega)
  l2z := Nat.ne_of_lt (show b < n + 4 by omega)
  l2TO := Nat.ne_of_lt (show b < n + 3 by omega)
  l2i1 := Nat.ne_of_lt (show b < n by omega)
  l2i2 := Nat.ne_of_lt (show b < n + 1 by omega)
def Itz (K : PySem.W.Frag) (a b : Addr) : It :=
  ⟨fun i H => ∃ xs ys x y, SqL K H a xs ∧ SqL K H b ys ∧ xs[i]? = some x ∧ ys[i]? = some y,
   fun i H v H' => ∃ p x y, (∀ xs, SqL K H a xs → xs[i]? = some x) ∧ (∀ ys, SqL K H b ys → ys[i]? = some y) ∧ H p = none ∧ v = .ref p ∧ H' = upd H p (.tup [x, y]),
   fun i H => ∃ xs ys, SqL K H a xs ∧ SqL K H b ys ∧ (xs.length ≤ i ∨ ys.length ≤ i)⟩
theorem turn_zip {P : Program} {w : World} {K : PySem.W.Frag} {elts : List Expr} {x1 : Nat} {tp : Pos} {z TI TO i1 i2 a b : Addr} (D : ZipApart z TI TO i1 i2 a b) :
    Turn P w K (.Tuple elts x1 tp) (Itz K a b) [z, TI, TO, i1, i2] z (fun i h => IsZip h z TI TO .none ∧ IsPair h TI (.ref i1) (.ref i2) ∧ (∃ u v, IsPair h TO u v) ∧ h.IsListIter i1 a i ∧ h.IsListIter i2 b i) where
  mem := by simp
  obj := fun i h st c hc => by
    obtain ⟨hz, hTI, ⟨u, v, hTO⟩, h1, h2⟩ := st
    simp only [List.mem_cons, List.not_mem_nil, or_false] at hc
    rcases hc with rfl | rfl | rfl | rfl | rfl
    · exact ⟨_, hz, fun v z => by cases z⟩
    · exact ⟨_, hTI, fun v z => by cases z⟩
    · exact ⟨_, hTO, fun v z => by cases z⟩
    · obtain ⟨o, e, c, d⟩ := h1; exact ⟨o, e, fun v z => by rw [d] at z; cases z⟩
    · obtain ⟨o, e, c, d⟩ := h2; exact ⟨o, e, fun v z => by rw [d] at z; cases z⟩
  keep := fun i h h' st k => by
    obtain ⟨hz, hTI, ⟨u, v, hTO⟩, h1, h2⟩ := st
    exact ⟨k z (by simp) _ hz, k TI (by simp) _ hTI, ⟨u, v, k TO (by simp) _ hTO⟩, h1.at fun o e => k i1 (by simp) o e, h2.at fun o e => k i2 (by simp) o e⟩
  item := by
    intro X hP hw hK hc i pins s σ H E I hf st hg
    subst hP hw hK
    obtain ⟨hz, hTI, ⟨u, v, hTO⟩, h1, h2⟩ := st
    obtain ⟨xs, ys, x, y, sx, sy, hx, hy⟩ := hg
    obtain ⟨its, rx, px, zx⟩ := I.list sx
    obtain ⟨jts, ry, py, zy⟩ := I.list sy
    obtain ⟨ux, hux, rux⟩ := rx.get hx
    obtain ⟨uy, huy, ruy⟩ := ry.get hy
    refine wpAny_pyNext_zip_item D hz hTI hTO h1 h2 px.isList py.isList (x := ux) (y := uy) (by simpa using hux) (by simpa using huy) fun h' a1 a2 a3 a4 a5 a6 hk => ?_
    refine ⟨_, rfl, ?_⟩
    refine wpAny_letOwnedTupleGo_zip (s := { s with heap := h' }) a1 fun h2' hz' hs' => ?_
    have lt : ∀ {c o}, s.heap.get? c = some o → c ≠ s.heap.objs.size := fun e => Nat.ne_of_lt (Heap.lt_size e)
    have nz : s.heap.objs.size ≠ z := fun q => lt hz q.symm
    have I1 : Inv X pins σ H { s with heap := h2', toks := s.toks } := I.turnedL (ch := [z, TI, TO, i1, i2]) (fun c o hc e => by
      simp only [List.mem_cons, List.not_mem_nil, or_false, not_or] at hc
      exact hs'.extBut _ _ hc.1 (hk c o hc.1 hc.2.2.1 hc.2.2.2.1 hc.2.2.2.2 e)) hf
    have fr : H s.heap.objs.size = none := I.hok.fresh (Nat.le_refl _)
    have hT : h2'.get? s.heap.objs.size = some { cls := .type "tuple", data := .seq #[ux, uy] } := hs'.extBut _ _ nz a5
    have I2 := I1.track (a := s.heap.objs.size) (o := .tup [x, y]) fr (Heap.get?_none_of_le I.sz) (Nat.ne_of_gt I.lt) (fun n c e q => by
      obtain ⟨v, o, ho, _⟩ := I.cell n c e
      exact lt ho q) (fun p hp q => lt (I.pin p hp).1 q) ⟨by show 2 ≤ sizeLine; decide, [ux, uy], .cons rux (.cons ruy .nil), ⟨_, hT, rfl, _, rfl⟩⟩
    refine ⟨.ref s.heap.objs.size, _, I2, rfl, ⟨_, x, y, fun zs q => by rw [I.list_inj q sx]; exact hx, fun zs q => by rw [I.list_inj q sy]; exact hy, fr, rfl, rfl⟩, ?_, fun c hc => ?_⟩
    · exact ⟨hz', hs'.extBut _ _ D.TIz (hk _ _ D.TIz D.TITO D.TIi1 D.TIi2 hTI), ⟨_, _, hs'.extBut _ _ D.TOz a2⟩, a3.extBut hs'.extBut D.i1z, a4.extBut hs'.extBut D.i2z⟩
    · have ne : c ≠ s.heap.objs.size := by
        simp only [List.mem_cons, List.not_mem_nil, or_false] at hc
        rcases hc with rfl | rfl | rfl | rfl | rfl
        · exact lt hz
        · exact lt hTI
        · exact lt hTO
        · obtain ⟨o, e, _⟩ := h1; exact lt e
        · obtain ⟨o, e, _⟩ := h2; exact lt e
      rw [upd_ne ne]
      exact (hf c hc).1
  done := by
    intro X hP hw hK hc i pins s σ H E I hf st hg
    subst hP hw hK
    obtain ⟨hz, hTI, ⟨u, v, hTO⟩, h1, h2⟩ := st
    obtain ⟨xs, ys, sx, sy, he⟩ := hg
    obtain ⟨its, rx, px, zx⟩ := I.list sx
    obtain ⟨jts, ry, py, zy⟩ := I.list sy
    have lx := rx.length
    have ly := ry.length
    refine wpAny_pyNext_zip_end (I.ok.hd hc) D hz hTI hTO h1 h2 px.isList py.isList (by
      rcases he with he | he
      · exact .inl (by simp; omega)
      · exact .inr (by simp; omega)) fun h' hk => ⟨rfl, ?_⟩
    exact I.turnedL (t' := s.toks) (ch := [z, TI, TO, i1, i2]) (fun c o hc e => by
      simp only [List.mem_cons, List.not_mem_nil, or_false, not_or] at hc
      exact hk c o hc.1 hc.2.2.1 hc.2.2.2.1 hc.2.2.2.2 e) hf
  self := fun A i s Q E st q => wpAny_pyIter_zip st.1 q
section
variable {X : Cx} {elts : List Expr} {x1 : Nat} {tp : Pos}
def iZip (K : PySem.W.Frag) (ta : TA) : TI := fun σ H R => ta σ H fun vs H1 => ∃ a b, vs = [.ref a, .ref b] ∧ (∃ xs, SqL K H1 a xs) ∧ (∃ ys, SqL K H1 b ys) ∧ R (Itz K a b) H1
theorem pi_zip {a b : Expr} {ta : TA} {p pos : Pos} (hg : Gl X "zip") (hm : X.mg "zip" = none) (hv : bootBuiltins "zip" = some (.type "zip")) (ha : PA X [a, b] ta)
    (he : starEach [a, b] X.env = (false, eval a X.env) :: starEach [b] X.env := by rfl) (hpl : (backTo pos (starEach [b] X.env)).any (·.1) = false := by rfl) :
    PI X (.Tuple elts x1 tp) (.Call (.Name "zip" p) [a, b] [] pos) (iZip X.K ta) := by
  intro pins s σ H R I h
  refine wpAny_Call_Name_kw (ld_blt I hg hm hv ?_)
  refine PyProof.Rows.callWith_type1 (thn (ha pos pins s σ H _ I h) fun us s1 ⟨vs, H1, I1, r1, q1⟩ => ?_) he hpl
  obtain ⟨l1, l2, e, ⟨xs, sx⟩, ⟨ys, sy⟩, q⟩ := q1
  subst e
  obtain ⟨u, v, rfl, ru, rv⟩ := vals2 r1
  cases (show u = Value.ref l1 from ru)
  cases (show v = Value.ref l2 from rv)
  obtain ⟨its, rx, px, zx⟩ := I1.list sx
  obtain ⟨jts, ry, py, zy⟩ := I1.list sy
  have n1 : l1 < s1.heap.objs.size := by obtain ⟨_, e, _⟩ := px.isList; exact Heap.lt_size e
  have n2 : l2 < s1.heap.objs.size := by obtain ⟨_, e, _⟩ := py.isList; exact Heap.lt_size e
  refine call_zip_2 px.isList py.isList fun h' b1 b2 b3 b4 b5 b6 hk => ?_
  have ZA : ZipApart (s1.heap.objs.size + 4) (s1.heap.objs.size + 2) (s1.heap.objs.size + 3) s1.heap.objs.size (s1.heap.objs.size + 1) l1 l2 := za _ l1 l2 n1 n2
  refine wpAny_pyIter_zip b1 ?_
  refine ⟨s1.heap.objs.size + 4, [s1.heap.objs.size + 4, s1.heap.objs.size + 2, s1.heap.objs.size + 3, s1.heap.objs.size, s1.heap.objs.size + 1], _, _, H1, rfl, I1.kept (t' := s1.toks) hk, turn_zip ZA, ⟨b1, b2, ⟨_, _, b3⟩, b4, b5⟩, fun c hc => ?_, q⟩
  have hge : s1.heap.objs.size ≤ c := by
    simp only [List.mem_cons, List.not_mem_nil, or_false] at hc
    rcases hc with rfl | rfl | rfl | rfl | rfl
    · exact Nat.le_add_right _ _
    · exact Nat.le_add_right _ _
    · exact Nat.le_add_right _ _
    · exact Nat.le_refl _
    · exact Nat.le_add_right _ _
  exact I1.fpOk hge (I1.hok.fresh hge)
end
section
variable {σ : St} {H : Hp} {Q : VK} {td ty tv tx : TE} {K : PySem.W.Frag} {En : Ends}
theorem y3ay : tDGet td ty σ H Q = td σ H fun x H1 => ty σ H1 fun y H2 => ∃ a v, x = .ref a ∧ DGet H2 a y (some v) ∧ Q v H2 := rfl
theorem y43y : sDPut td ty tv En σ H = tv σ H fun v H1 => td σ H1 fun x H2 => ty σ H2 fun y H3 => ∃ a H4, x = .ref a ∧ DPut H3 a y v H4 ∧ En.nx σ H4 := rfl
theorem y40y : tDNewT σ H Q = ∀ p, H p = none → Q (.ref p) (upd H p (.dT [])) := rfl
theorem y3fy : tDNewK σ H Q = ∀ p, H p = none → Q (.ref p) (upd H p (.dK [])) := rfl
end
end L2

set_option Elab.async false
set_option linter.all false
set_option maxRecDepth 100000
set_option maxHeartbeats 4000000

namespace L2
open PySem PySem.Spec PyProof.Rows
theorem hu1 {a b : Nat} (h : a + 64 < b) : a + 1 < b := by omega
section
variable {X : Cx}
def rMul0 : R2 := fun x y H Q => match x, y with
  | .str z, .int n => 0 ≤ n ∧ n < 1000 ∧ z.length ≤ 1000 ∧ ∀ z' : Str, z'.cps.toList = (List.replicate n.toNat z.cps.toList).flatten → Q (.str z') H
  | x, y => rMulS x y H Q
theorem op_mul0 : OpR X (binaryOp .Mult) rMul0 := fun pins s σ H x y v u Q I rx ry q => by
  unfold rMul0 at q
  split at q
  · rename_i z n
    obtain ⟨h0, h1, h2, q⟩ := q
    by_cases hn : n = 0
    · subst hn
      obtain ⟨t, rfl⟩ := rx
      obtain ⟨t', rfl⟩ := ry
      exact PySem.P.mul_str_none (by decide) (by decide) ⟨.str _, H, I.tok _, ⟨_, rfl⟩, q Str.empty rfl⟩
    · exact op_mulS pins s σ H _ _ v u Q I rx ry ⟨by omega, h1, h2, q⟩
  · exact op_mulS pins s σ H _ _ v u Q I rx ry q
end
section
variable {K : PySem.W.Frag} {H : Hp} {Q : VK} {σ : St} {td ty : TE}
theorem y65y {i j : Int} : rMul0 (.int i) (.int j) H Q = (IntMulOk i j ∧ Q (.int (i * j)) H) := rfl
theorem y3by : tDGet1 td ty σ H Q = td σ H fun x H1 => ∃ a, x = .ref a ∧ IsD H1 a ∧ ty σ H1 fun y H2 => ∃ o, DGet H2 a y o ∧ Q (o.getD .non) H2 := rfl
end
end L2
namespace L2
open PySem PySem.Spec PyProof.Rows
/-- a loop over a list that stays, whatever else changes -/
theorem ForA.byL {K : PySem.W.Frag} {a : Addr} {xs : List V} {g : TG} {tb : TS} {D : Ends} {σ : St} {H : Hp} (hA : SqL K H a xs) (Pv : Nat → St → Hp → Prop) (h0 : Pv 0 σ H) (hl : ∀ i σ H', Pv i σ H' → SqL K H' a xs)
    (hs : ∀ i x σ H, xs[i]? = some x → Pv i σ H → g x σ H fun σ2 H2 => tb { D with nx := Pv (i + 1), ct := Pv (i + 1), bk := D.nx } σ2 H2) (hd : ∀ σ H, Pv xs.length σ H → D.nx σ H) : ForA K a g tb D σ H := by
  refine .inl ⟨⟨xs, hA⟩, fun i m σ H => Pv i σ H ∧ i ≤ xs.length ∧ m = xs.length - i, ⟨_, h0, Nat.zero_le _, rfl⟩, ?_⟩
  rintro i m σ H ⟨hp, hi, rfl⟩
  have hq := hl i σ H hp
  by_cases lt : i < xs.length
  · refine .inr ⟨⟨xs, xs[i], hq, List.getElem?_eq_getElem lt⟩, Pv (i + 1), fun σ' H' p => ⟨_, Nat.sub_lt_sub_left lt (Nat.lt_succ_self i), p, lt, rfl⟩, ?_⟩
    rintro x H' ⟨rfl, hx⟩
    exact hs i x σ _ (hx xs hq) hp
  · have e : i = xs.length := by omega
    subst e
    exact .inl ⟨⟨xs, hq, Nat.le_refl _⟩, hd σ H hp⟩
def ForJ (J : It) (g : TG) (tb : TS) (D : Ends) (σ : St) (H : Hp) : Prop := ∃ W : Nat → Nat → St → Hp → Prop, (∃ m, W 0 m σ H) ∧ ∀ i m σ H, W i m σ H →
  (J.stop i H ∧ D.nx σ H) ∨ (J.go i H ∧ ∃ N : St → Hp → Prop, (∀ σ' H', N σ' H' → ∃ m', m' < m ∧ W (i + 1) m' σ' H') ∧ ∀ x H', J.yld i H x H' → g x σ H' fun σ2 H2 => tb { D with nx := N, ct := N, bk := D.nx } σ2 H2)
theorem y4fy {K : PySem.W.Frag} {ta : TA} {g : TG} {tb : TS} {D : Ends} {σ : St} {H : Hp} : tFor (iZip K ta) g tb D σ H = ta σ H fun vs H1 => ∃ a b, vs = [.ref a, .ref b] ∧ (∃ xs, SqL K H1 a xs) ∧ (∃ ys, SqL K H1 b ys) ∧ ForJ (Itz K a b) g tb D σ H1 := rfl
theorem ForJ.zip {K : PySem.W.Frag} {a b : Addr} {xs ys : List V} {g : TG} {tb : TS} {D : Ends} {σ : St} {H : Hp} (Pv : Nat → St → Hp → Prop) (h0 : Pv 0 σ H) (hl : ∀ i σ H', Pv i σ H' → SqL K H' a xs ∧ SqL K H' b ys)
    (hs : ∀ i x y σ H p H', xs[i]? = some x → ys[i]? = some y → Pv i σ H → H p = none → Same H H' → H' p = some (.tup [x, y]) → g (.ref p) σ H' fun σ2 H2 => tb { D with nx := Pv (i + 1), ct := Pv (i + 1), bk := D.nx } σ2 H2)
    (hd : ∀ σ H, Pv (min xs.length ys.length) σ H → D.nx σ H) : ForJ (Itz K a b) g tb D σ H := by
  refine ⟨fun i m σ H => Pv i σ H ∧ i ≤ min xs.length ys.length ∧ m = min xs.length ys.length - i, ⟨_, h0, Nat.zero_le _, rfl⟩, ?_⟩
  rintro i m σ H ⟨hp, hi, rfl⟩
  obtain ⟨qa, qb⟩ := hl i σ H hp
  by_cases lt : i < min xs.length ys.length
  · have l1 : i < xs.length := by omega
    have l2 : i < ys.length := by omega
    refine .inr ⟨⟨xs, ys, xs[i], ys[i], qa, qb, List.getElem?_eq_getElem l1, List.getElem?_eq_getElem l2⟩, Pv (i + 1), fun σ' H' p => ⟨_, Nat.sub_lt_sub_left lt (Nat.lt_succ_self i), p, lt, rfl⟩, ?_⟩
    rintro v H' ⟨p, x, y, hx, hy, hn, rfl, rfl⟩
    exact hs i x y σ H p _ (hx xs qa) (hy ys qb) hp hn (newS hn rfl) (newE rfl)
  · have e : i = min xs.length ys.length := by omega
    subst e
    exact .inl ⟨⟨xs, ys, qa, qb, by omega⟩, hd σ H hp⟩
/-- comprehensions over a list -/
theorem compL {K : PySem.W.Frag} {cs : List (Nat × Str)} {k : Nat} {g : TG} {te : TE} {σ : St} {a : Addr} {xs : List V} {H1 : Hp} {Q : VK} (Pv : Nat → List V → Hp → Prop) (h0 : Pv 0 [] H1) (hl : ∀ i ys H', i ≤ xs.length → Pv i ys H' → SqL K H' a xs ∧ ys.length ≤ sizeLine)
    (hs : ∀ i x ys H2, xs[i]? = some x → Pv i ys H2 → g x (List.replicate k none ++ capsAt cs σ) H2 fun σ4 H4 => te σ4 H4 fun y H5 => Pv (i + 1) (ys ++ [y]) H5) (hd : ∀ ys H2, Pv xs.length ys H2 → ∀ p, H2 p = none → Q (.ref p) (upd H2 p (.lst ys))) :
    ∃ W : Nat → Nat → List V → Hp → Prop, (∃ m, W 0 m [] H1) ∧ ∀ i m ys H2, W i m ys H2 → ys.length ≤ sizeLine ∧ (((Itl K a).stop i H2 ∧ ∀ p, H2 p = none → Q (.ref p) (upd H2 p (.lst ys))) ∨
      ((Itl K a).go i H2 ∧ ∀ x H3, (Itl K a).yld i H2 x H3 → g x (List.replicate k none ++ capsAt cs σ) H3 fun σ4 H4 => te σ4 H4 fun y H5 => ∃ m', m' < m ∧ W (i + 1) m' (ys ++ [y]) H5)) := by
  refine ⟨fun i m ys H2 => Pv i ys H2 ∧ i ≤ xs.length ∧ m = xs.length - i, ⟨_, h0, Nat.zero_le _, rfl⟩, ?_⟩
  rintro i m ys H2 ⟨hp, hi, rfl⟩
  obtain ⟨hq, hz⟩ := hl i ys H2 hi hp
  refine ⟨hz, ?_⟩
  by_cases lt : i < xs.length
  · refine .inr ⟨⟨xs, xs[i], hq, List.getElem?_eq_getElem lt⟩, ?_⟩
    rintro x H3 ⟨rfl, hx⟩
    have e : (fun (σ4 : St) (H4 : Hp) => te σ4 H4 fun y H5 => Pv (i + 1) (ys ++ [y]) H5) = fun σ4 H4 => te σ4 H4 fun y H5 => ∃ m', m' < xs.length - i ∧ Pv (i + 1) (ys ++ [y]) H5 ∧ i + 1 ≤ xs.length ∧ m' = xs.length - (i + 1) := by
      funext σ4 H4
      congr 1
      funext y H5
      exact propext ⟨fun q => ⟨_, Nat.sub_lt_sub_left lt (Nat.lt_succ_self i), q, lt, rfl⟩, fun ⟨_, _, q, _⟩ => q⟩
    rw [← e]
    exact hs i x ys _ (hx xs hq) hp
  · have e : i = xs.length := by omega
    subst e
    exact .inl ⟨⟨xs, hq, Nat.le_refl _⟩, hd ys H2 hp⟩
theorem compIL {K : PySem.W.Frag} {cs : List (Nat × Str)} {k : Nat} {g : TG} {tt : TT} {te : TE} {σ : St} {a : Addr} {xs : List V} {H1 : Hp} {Q : VK} (Pv : Nat → List V → Hp → Prop) (h0 : Pv 0 [] H1) (hl : ∀ i ys H', i ≤ xs.length → Pv i ys H' → SqL K H' a xs ∧ ys.length ≤ sizeLine)
    (hs : ∀ i x ys H2, xs[i]? = some x → Pv i ys H2 → g x (List.replicate k none ++ capsAt cs σ) H2 fun σ4 H4 => tt σ4 H4 fun b H5 => if b = true then te σ4 H5 fun y H6 => Pv (i + 1) (ys ++ [y]) H6 else Pv (i + 1) ys H5) (hd : ∀ ys H2, Pv xs.length ys H2 → ∀ p, H2 p = none → Q (.ref p) (upd H2 p (.lst ys))) :
    ∃ W : Nat → Nat → List V → Hp → Prop, (∃ m, W 0 m [] H1) ∧ ∀ i m ys H2, W i m ys H2 → ys.length ≤ sizeLine ∧ (((Itl K a).stop i H2 ∧ ∀ p, H2 p = none → Q (.ref p) (upd H2 p (.lst ys))) ∨
      ((Itl K a).go i H2 ∧ ∀ x H3, (Itl K a).yld i H2 x H3 → g x (List.replicate k none ++ capsAt cs σ) H3 fun σ4 H4 => tt σ4 H4 fun b H5 => if b = true then te σ4 H5 fun y H6 => ∃ m', m' < m ∧ W (i + 1) m' (ys ++ [y]) H6 else ∃ m', m' < m ∧ W (i + 1) m' ys H5)) := by
  refine ⟨fun i m ys H2 => Pv i ys H2 ∧ i ≤ xs.length ∧ m = xs.length - i, ⟨_, h0, Nat.zero_le _, rfl⟩, ?_⟩
  rintro i m ys H2 ⟨hp, hi, rfl⟩
  obtain ⟨hq, hz⟩ := hl i ys H2 hi hp
  refine ⟨hz, ?_⟩
  by_cases lt : i < xs.length
  · refine .inr ⟨⟨xs, xs[i], hq, List.getElem?_eq_getElem lt⟩, ?_⟩
    rintro x H3 ⟨rfl, hx⟩
    have w : ∀ (zs : List V) (H5 : Hp), Pv (i + 1) zs H5 = ∃ m', m' < xs.length - i ∧ Pv (i + 1) zs H5 ∧ i + 1 ≤ xs.length ∧ m' = xs.length - (i + 1) := fun zs H5 =>
      propext ⟨fun q => ⟨_, Nat.sub_lt_sub_left lt (Nat.lt_succ_self i), q, lt, rfl⟩, fun ⟨_, _, q, _⟩ => q⟩
    have w1 : (fun (y : V) (H6 : Hp) => Pv (i + 1) (ys ++ [y]) H6) = fun y H6 => ∃ m', m' < xs.length - i ∧ Pv (i + 1) (ys ++ [y]) H6 ∧ i + 1 ≤ xs.length ∧ m' = xs.length - (i + 1) := by
      funext y H6
      exact w _ _
    have e : (fun (σ4 : St) (H4 : Hp) => tt σ4 H4 fun b H5 => if b = true then te σ4 H5 fun y H6 => Pv (i + 1) (ys ++ [y]) H6 else Pv (i + 1) ys H5) = fun σ4 H4 => tt σ4 H4 fun b H5 => if b = true then te σ4 H5 fun y H6 => ∃ m', m' < xs.length - i ∧ Pv (i + 1) (ys ++ [y]) H6 ∧ i + 1 ≤ xs.length ∧ m' = xs.length - (i + 1) else ∃ m', m' < xs.length - i ∧ Pv (i + 1) ys H5 ∧ i + 1 ≤ xs.length ∧ m' = xs.length - (i + 1) := by
      funext σ4 H4
      congr 1
      funext b H5
      by_cases hb : b = true
      · rw [if_pos hb, if_pos hb, ← w1]
      · rw [if_neg hb, if_neg hb]
        exact w ys H5
    have := hs i x ys _ (hx xs hq) hp
    rw [e] at this
    exact this
  · have e : i = xs.length := by omega
    subst e
    exact .inl ⟨⟨xs, hq, Nat.le_refl _⟩, hd ys H2 hp⟩
end L2

set_option linter.all false
set_option maxHeartbeats 4000000
namespace Ch
open PySem
structure TD where
  nm : Str
  st : Str
  en : Str
  lo : Option (Int × Int)
  hi : Option (Int × Int)
structure SD where
  src : Str
  dst : Str
  c : Int × Int
  nm : Str
  fw : Bool
def fwd (t : TD) : List SD := match t.hi with
  | some h => [⟨t.st, t.en, h, t.nm, true⟩]
  | none => []
def bwd (t : TD) : List SD := match t.lo with
  | some l => [⟨t.en, t.st, (-l.1, l.2), t.nm, false⟩]
  | none => []
def steps (t : TD) : List SD := fwd t ++ bwd t
def all (ts : List TD) : List SD := ts.flatMap steps
abbrev Pr := Str × Bool
def key (s : SD) : Pr := (s.nm, s.fw)
def find (ss : List SD) (k : Pr) : Option SD := ss.find? fun s => decide (key s = k)
def lastA (acc : Option SD) (ss : List SD) (k : Pr) : Option SD := ss.foldl (fun a s => if key s = k then some s else a) acc
def last (ss : List SD) (k : Pr) : Option SD := lastA none ss k
def addF (a c : Int × Int) : Int × Int := (Mth.top (a.1 * c.2 + c.1 * a.2) (a.2 * c.2), Mth.bot (a.1 * c.2 + c.1 * a.2) (a.2 * c.2))
structure FOk (n : Nat) (a : Int × Int) : Prop where
  s1 : Mth.Sz n a.1
  s2 : Mth.Sz n a.2
  b1 : 1 ≤ a.2
  g1 : Mth.g a.1 a.2 = 1
end Ch

set_option Elab.async false
set_option linter.all false
set_option maxRecDepth 100000
set_option maxHeartbeats 4000000
namespace L2
open PySem PySem.Spec PyProof.Rows Ch
def isTF : HO → Bool
  | .tup _ => true
  | .frz _ _ => true
  | _ => false
/-- tuples stay -/
def SameT (H H' : Hp) : Prop := ∀ b u, isTF u = true → H b = some u → H' b = some u
theorem SameT.refl (H : Hp) : SameT H H := fun _ _ _ h => h
theorem SameT.trans {H H1 H2 : Hp} (a : SameT H H1) (b : SameT H1 H2) : SameT H H2 := fun c o t h => b c o t (a c o t h)
theorem Same.t {H H' : Hp} (a : Same H H') : SameT H H' := fun b u _ h => a b u h
theorem SameT.put {H H' : Hp} {l : Addr} {o o' : HO} (e : upd H l o = H') (hl : H l = some o') (ht : isTF o' = false) : SameT H H' := fun b u t h => by
  rw [← e, upd_ne (ne_of h hl fun q => by rw [q, ht] at t; cases t)]
  exact h
theorem SqT.sameT {K : PySem.W.Frag} {H H' : Hp} {a : Addr} {xs : List V} (e : SameT H H') (h : SqT K H a xs) : SqT K H' a xs := by
  rcases h with (h | ⟨o, h⟩) | h
  · exact .inl (.inl (e _ _ rfl h))
  · exact .inl (.inr ⟨o, e _ _ rfl h⟩)
  · exact .inr h
theorem FrV.sameT {K : PySem.W.Frag} {H H' : Hp} {v : V} {a b : Int} (S : SameT H H') (h : FrV K H v a b) : FrV K H' v a b := by
  obtain ⟨p, e, q⟩ := h
  exact ⟨p, e, q.sameT S⟩
def frD (a : Int × Int) : D := .tup [.int a.1, .int a.2]
def bD : Option (Int × Int) → D
  | none => .non
  | some a => frD a
def tdD (t : TD) : D := .tup [.str t.nm, .str t.st, .str t.en, bD t.lo, bD t.hi]
def pD (s : SD) : D := .tup [.str s.src, .str s.dst, frD s.c, .bl s.fw]
/-- a bound in the heap -/
def BV (K : PySem.W.Frag) (H : Hp) : Option (Int × Int) → V → Prop
  | none, v => v = .non
  | some a, v => FrV K H v a.1 a.2
theorem BV.rep {K : PySem.W.Frag} {H : Hp} {o : Option (Int × Int)} {v : V} (h : BV K H o v) : Rep K H (bD o) v := by
  cases o with
  | none => simp only [bD, Rep]; exact h
  | some a => exact FrV.rep h
theorem BV.sameT {K : PySem.W.Frag} {H H' : Hp} {o : Option (Int × Int)} {v : V} (S : SameT H H') (h : BV K H o v) : BV K H' o v := by
  cases o with
  | none => exact h
  | some a => exact FrV.sameT S h
/-- a tie, a step, a pair -/
def TV (K : PySem.W.Frag) (H : Hp) (t : TD) (x : V) : Prop := ∃ b vl vg, x = .ref b ∧ SqT K H b [.str t.nm, .str t.st, .str t.en, vl, vg] ∧ BV K H t.lo vl ∧ BV K H t.hi vg
def PV (K : PySem.W.Frag) (H : Hp) (s : SD) (x : V) : Prop := ∃ b v, x = .ref b ∧ SqT K H b [.str s.src, .str s.dst, v, .bl s.fw] ∧ FrV K H v s.c.1 s.c.2
def CV (H : Hp) (c : Pr) (x : V) : Prop := ∃ b, x = .ref b ∧ H b = some (.tup [.str c.1, .bl c.2])
section
variable {K : PySem.W.Frag} {H H' : Hp}
theorem TV.sameT {t : TD} {x : V} (S : SameT H H') : TV K H t x → TV K H' t x := fun ⟨b, vl, vg, e, q, h1, h2⟩ => ⟨b, vl, vg, e, q.sameT S, h1.sameT S, h2.sameT S⟩
theorem CV.sameT {c : Pr} {x : V} (S : SameT H H') : CV H c x → CV H' c x := fun ⟨b, e, q⟩ => ⟨b, e, S _ _ rfl q⟩
theorem TV.rep {t : TD} {x : V} : TV K H t x → Rep K H (tdD t) x := fun ⟨b, vl, vg, e, q, h1, h2⟩ => by
  simp only [tdD, Rep, RepL]
  exact ⟨b, _, e, q, _, _, rfl, rfl, _, _, rfl, rfl, _, _, rfl, rfl, _, _, rfl, h1.rep, _, _, rfl, h2.rep, rfl⟩
end
/-- lists of such -/
def All2 {α : Type} (P : α → V → Prop) : List α → List V → Prop
  | [], xs => xs = []
  | a :: as, xs => ∃ x r, xs = x :: r ∧ P a x ∧ All2 P as r
section
variable {α : Type} {P P' : α → V → Prop}
theorem All2.mono : ∀ {as : List α} {xs : List V}, (∀ a x, P a x → P' a x) → All2 P as xs → All2 P' as xs
  | [], _, _, h => h
  | a :: as, xs, f, h => by
    obtain ⟨x, r, e, h1, h2⟩ := h
    exact ⟨x, r, e, f _ _ h1, All2.mono f h2⟩
theorem All2.length : ∀ {as : List α} {xs : List V}, All2 P as xs → xs.length = as.length
  | [], _, h => by rw [show _ = _ from h]; rfl
  | a :: as, xs, h => by
    obtain ⟨x, r, e, h1, h2⟩ := h
    rw [e, List.length_cons, List.length_cons, h2.length]
theorem All2.at_ : ∀ {as : List α} {xs : List V} {i : Nat} {x : V}, All2 P as xs → xs[i]? = some x → ∃ a, as[i]? = some a ∧ P a x
  | [], _, _, _, h, hx => by rw [show _ = _ from h] at hx; simp at hx
  | a :: as, xs, i, y, h, hx => by
    obtain ⟨x, r, e, h1, h2⟩ := h
    subst e
    cases i with
    | zero => simp at hx; subst hx; exact ⟨a, rfl, h1⟩
    | succ i => simpa using All2.at_ h2 (by simpa using hx)
theorem All2.get : ∀ {as : List α} {xs : List V} {i : Nat} {a : α}, All2 P as xs → as[i]? = some a → ∃ x, xs[i]? = some x ∧ P a x
  | [], _, _, _, h, hx => by simp at hx
  | a :: as, xs, i, b, h, hx => by
    obtain ⟨x, r, e, h1, h2⟩ := h
    subst e
    cases i with
    | zero => simp at hx; subst hx; exact ⟨x, rfl, h1⟩
    | succ i => simpa using All2.get h2 (by simpa using hx)
theorem All2.append : ∀ {as bs : List α} {xs ys : List V}, All2 P as xs → All2 P bs ys → All2 P (as ++ bs) (xs ++ ys)
  | [], bs, xs, ys, h, g => by rw [show xs = [] from h]; exact g
  | a :: as, bs, xs, ys, h, g => by
    obtain ⟨x, r, e, h1, h2⟩ := h
    subst e
    exact ⟨x, r ++ ys, rfl, h1, All2.append h2 g⟩
theorem All2.one {a : α} {x : V} (h : P a x) : All2 P [a] [x] := ⟨x, [], rfl, h, rfl⟩
theorem All2.take : ∀ {as : List α} {xs : List V} (j : Nat), All2 P as xs → All2 P (as.take j) (xs.take j)
  | as, xs, 0, _ => by simp only [List.take_zero]; exact rfl
  | [], xs, j + 1, h => by rw [show xs = [] from h]; simp; exact rfl
  | a :: as, xs, j + 1, h => by
    obtain ⟨x, r, e, h1, h2⟩ := h
    subst e
    exact ⟨x, r.take j, by simp, h1, All2.take j h2⟩
theorem All2.drop : ∀ {as : List α} {xs : List V} (j : Nat), All2 P as xs → All2 P (as.drop j) (xs.drop j)
  | as, xs, 0, h => by simpa using h
  | [], xs, j + 1, h => by rw [show xs = [] from h]; simp; exact rfl
  | a :: as, xs, j + 1, h => by
    obtain ⟨x, r, e, h1, h2⟩ := h
    subst e
    simpa using All2.drop j h2
theorem All2.repL {K : PySem.W.Frag} {H : Hp} {f : α → D} (g : ∀ a x, P a x → Rep K H (f a) x) : ∀ {as : List α} {xs : List V}, All2 P as xs → RepL K H (as.map f) xs
  | [], xs, h => by simp only [List.map_nil, RepL]; exact h
  | a :: as, xs, h => by
    obtain ⟨x, r, e, h1, h2⟩ := h
    simp only [List.map_cons, RepL]
    exact ⟨x, r, e, g _ _ h1, All2.repL g h2⟩
end
/-- a good tie -/
structure TOk (t : TD) : Prop where
  n1 : nameS t.nm = true
  n2 : nameS t.st = true
  n3 : nameS t.en = true
  ne : t.st ≠ t.en
  lo : ∀ a, t.lo = some a → FOk 200 a
  hi : ∀ a, t.hi = some a → FOk 200 a
  le : lessD (bD t.hi) (bD t.lo) = false
theorem len8 {z : Str} (h : nameS z = true) : z.length ≤ 8 := by
  unfold nameS at h
  simp only [Bool.and_eq_true, decide_eq_true_eq] at h
  exact h.1.2
theorem bD_ok {o : Option (Int × Int)} (h : ∀ a, o = some a → FOk 200 a) : boundB (bD o) = true ∧ szD (bD o) := by
  cases o with
  | none => exact ⟨rfl, by simp only [bD, szD]⟩
  | some a =>
    have k := h a rfl
    refine ⟨by simp [bD, frD, boundB, fracB, k.b1, k.g1], ?_⟩
    simp only [bD, frD, szD, szL]
    exact ⟨k.s1.mono (by decide), k.s2.mono (by decide), trivial⟩
theorem TOk.tie {t : TD} (h : TOk t) : tieB (tdD t) = true := by
  have e : eqD (.str t.st) (.str t.en) = false := by simp only [eqD, beq_eq_false_iff_ne]; exact h.ne
  simp [tdD, tieB, nameB, facesB, h.n1, h.n2, h.n3, e, boundsB, (bD_ok h.lo).1, (bD_ok h.hi).1, h.le]
theorem TOk.sz {t : TD} (h : TOk t) : szD (tdD t) := by
  simp only [tdD, szD, szL]
  have := len8 h.n1
  have := len8 h.n2
  have := len8 h.n3
  exact ⟨by omega, by omega, by omega, (bD_ok h.lo).2, (bD_ok h.hi).2, trivial⟩
/-- the dict of the steps -/
def kP (c : Pr) : List Key := [.inr c.1, .inl c.2]
def DOk (K : PySem.W.Frag) (H : Hp) (kvs : List (List Key × V)) (ss : List SD) : Prop := ∀ c : Pr, match last ss c with
  | none => valV kvs (kP c) = none
  | some s => ∃ v, valV kvs (kP c) = some v ∧ PV K H s v
theorem DOk.nil {K : PySem.W.Frag} {H : Hp} : DOk K H [] [] := fun c => rfl
end L2

set_option Elab.async false
set_option linter.all false
set_option maxRecDepth 100000
set_option maxHeartbeats 4000000
namespace L2
open PySem PySem.Spec PyProof.Rows Ch
section
variable {K : PySem.W.Frag} {H : Hp} {kvs : List (List Key × V)} {ss : List SD}
end
def CompJ (J : It) (k : Nat) (cs : List (Nat × Str)) (g : TG) (te : TE) (σ : St) (Q : VK) (H1 : Hp) : Prop := ∃ W : Nat → Nat → List V → Hp → Prop, (∃ m, W 0 m [] H1) ∧ ∀ i m ys H2, W i m ys H2 → ys.length ≤ sizeLine ∧
  ((J.stop i H2 ∧ ∀ p, H2 p = none → Q (.ref p) (upd H2 p (.lst ys))) ∨
   (J.go i H2 ∧ ∀ x H3, J.yld i H2 x H3 → g x (List.replicate k none ++ capsAt cs σ) H3 fun σ4 H4 => te σ4 H4 fun y H5 => ∃ m', m' < m ∧ W (i + 1) m' (ys ++ [y]) H5))
def CompIJ (J : It) (k : Nat) (cs : List (Nat × Str)) (g : TG) (tt : TT) (te : TE) (σ : St) (Q : VK) (H1 : Hp) : Prop := ∃ W : Nat → Nat → List V → Hp → Prop, (∃ m, W 0 m [] H1) ∧ ∀ i m ys H2, W i m ys H2 → ys.length ≤ sizeLine ∧
  ((J.stop i H2 ∧ ∀ p, H2 p = none → Q (.ref p) (upd H2 p (.lst ys))) ∨
   (J.go i H2 ∧ ∀ x H3, J.yld i H2 x H3 → g x (List.replicate k none ++ capsAt cs σ) H3 fun σ4 H4 => tt σ4 H4 fun b H5 => if b = true then te σ4 H5 fun y H6 => ∃ m', m' < m ∧ W (i + 1) m' (ys ++ [y]) H6 else ∃ m', m' < m ∧ W (i + 1) m' ys H5))
section
variable {K : PySem.W.Frag} {k : Nat} {cs : List (Nat × Str)} {g : TG} {tt : TT} {te tl : TE} {σ : St} {H H1 : Hp} {Q : VK} {a : Addr} {xs : List V}
theorem y33y : tComp k cs (iAny K tl) g te σ H Q = tl σ H fun x H1 => ∃ a, x = .ref a ∧ (((∃ xs, SqL K H1 a xs) ∧ CompJ (Itl K a) k cs g te σ Q H1) ∨ ((∃ xs, SqT K H1 a xs) ∧ CompJ (Itt K a) k cs g te σ Q H1)) := rfl
theorem y35y : tCompI k cs (iAny K tl) g tt te σ H Q = tl σ H fun x H1 => ∃ a, x = .ref a ∧ (((∃ xs, SqL K H1 a xs) ∧ CompIJ (Itl K a) k cs g tt te σ Q H1) ∨ ((∃ xs, SqT K H1 a xs) ∧ CompIJ (Itt K a) k cs g tt te σ Q H1)) := rfl
theorem CompJ.list (Pv : Nat → List V → Hp → Prop) (h0 : Pv 0 [] H1) (hl : ∀ i ys H', i ≤ xs.length → Pv i ys H' → SqL K H' a xs ∧ ys.length ≤ sizeLine)
    (hs : ∀ i x ys H2, xs[i]? = some x → Pv i ys H2 → g x (List.replicate k none ++ capsAt cs σ) H2 fun σ4 H4 => te σ4 H4 fun y H5 => Pv (i + 1) (ys ++ [y]) H5) (hd : ∀ ys H2, Pv xs.length ys H2 → ∀ p, H2 p = none → Q (.ref p) (upd H2 p (.lst ys))) :
    CompJ (Itl K a) k cs g te σ Q H1 := compL Pv h0 hl hs hd
theorem CompIJ.list (Pv : Nat → List V → Hp → Prop) (h0 : Pv 0 [] H1) (hl : ∀ i ys H', i ≤ xs.length → Pv i ys H' → SqL K H' a xs ∧ ys.length ≤ sizeLine)
    (hs : ∀ i x ys H2, xs[i]? = some x → Pv i ys H2 → g x (List.replicate k none ++ capsAt cs σ) H2 fun σ4 H4 => tt σ4 H4 fun b H5 => if b = true then te σ4 H5 fun y H6 => Pv (i + 1) (ys ++ [y]) H6 else Pv (i + 1) ys H5) (hd : ∀ ys H2, Pv xs.length ys H2 → ∀ p, H2 p = none → Q (.ref p) (upd H2 p (.lst ys))) :
    CompIJ (Itl K a) k cs g tt te σ Q H1 := compIL Pv h0 hl hs hd
end

theorem app_cps' (x y : Str) : (x ++ y).cps.toList = x.cps.toList ++ y.cps.toList := by
  show (x.cps ++ y.cps).toList = _
  simp
theorem len_cps' (z : Str) : z.length = z.cps.toList.length := by simp [Str.length]

end L2

set_option linter.all false
namespace L2
open PySem PySem.Spec PyProof.Rows Ch
section
variable {ss : List SD} {c : Pr} {cs : List Pr} {s : SD} {tot : Int × Int} {f l : Str}
end
end L2

set_option linter.all false
set_option maxHeartbeats 4000000
namespace L2
open PySem PySem.Spec PyProof.Rows Ch
theorem depL_map {α : Type} {f : α → D} {n : Nat} (h : ∀ a, depD (f a) ≤ n) : ∀ as : List α, depL (as.map f) ≤ n
  | [] => by simp [depL]
  | a :: as => by
    rw [List.map_cons, depL]
    exact Nat.max_le.mpr ⟨h a, depL_map h as⟩
section
variable {K : PySem.W.Frag} {H : Hp} {Q : VK}
end
end L2

set_option linter.all false
set_option maxHeartbeats 4000000
set_option maxRecDepth 100000
namespace L2
open PySem PySem.Spec PyProof.Rows
section
variable {prog : Program} {w : World} {A : Around} {E : Value → Shared → Prop} {s : Shared}
theorem stored {h : Heap} {a : Addr} {es es' : Array (Int × Value)} {ep : Nat} {t t' : SetTable} (ho : h.get? a = some { cls := .type "set", dict := none, data := .set es ep t, slots := #[] }) :
    (h.update a (Obj.putSet es' t')).get? a = some { cls := .type "set", dict := none, data := .set es' (ep + 1) t', slots := #[] } := by
  have e := Heap.get?_update_self (Obj.putSet es' t') ho (by rw [putSet_of es' t' rfl]; rfl)
  rw [e, putSet_of es' t' rfl]
end
end L2

set_option linter.all false
set_option maxHeartbeats 4000000
set_option maxRecDepth 100000
namespace L2
open PySem PySem.Spec PyProof.Rows
def addS (l : List Str) (z : Str) : List Str := if z ∈ l then l else l ++ [z]
def met (val : Nat → Str) (i : Nat) : List Str := ((List.range i).map val).foldl addS []
section
variable {prog : Program} {w : World} {A : Around} {E : Value → Shared → Prop} {s : Shared}
end
end L2

set_option linter.all false
set_option maxHeartbeats 4000000
set_option maxRecDepth 100000
namespace L2
open PySem PySem.Spec PyProof.Rows
section
variable {prog : Program} {w : World} {A : Around} {E : Value → Shared → Prop} {s : Shared}
end
end L2

set_option linter.all false
set_option maxHeartbeats 4000000
set_option maxRecDepth 100000
namespace L2
open PySem PySem.Spec PyProof.Rows
end L2

set_option linter.all false
set_option maxHeartbeats 4000000
set_option maxRecDepth 100000
namespace L2
open PySem PySem.Spec PyProof.Rows
section
variable {M : Model} {A : Around} {E : Value → Shared → Prop} {s : Shared}
end
section
variable {prog : Program} {w : World} {A : Around} {E : Value → Shared → Prop} {s : Shared}
section
variable {I a : Addr} {es : Array (Int × Value)} {i ep : Nat} {t : SetTable} {Q : Option Value → Shared → Prop}
end
end
end L2

set_option linter.all false
set_option maxHeartbeats 4000000
set_option maxRecDepth 100000
namespace L2
open PySem PySem.Spec PyProof.Rows
section
variable {prog : Program} {w : World} {A : Around} {E : Value → Shared → Prop} {s : Shared}
end
end L2

set_option linter.all false
set_option maxHeartbeats 4000000
set_option maxRecDepth 100000
namespace L2
open PySem PySem.Spec PyProof.Rows
section
variable {prog : Program} {w : World} {A : Around} {E : Value → Shared → Prop} {s : Shared}
end
end L2

set_option linter.all false
set_option maxHeartbeats 4000000
set_option maxRecDepth 100000
namespace L2
open PySem PySem.Spec PyProof.Rows
section
variable {prog : Program} {w : World} {A : Around} {E : Value → Shared → Prop} {s : Shared} {a : Addr} {its : Array Value} {n : Nat}
end
end L2

set_option linter.all false
set_option maxHeartbeats 4000000
set_option maxRecDepth 100000
namespace L2
open PySem PySem.Spec PyProof.Rows
section
variable {prog : Program} {w : World} {A : Around} {E : Value → Shared → Prop} {s : Shared}
end
end L2

set_option linter.all false
set_option maxHeartbeats 4000000
set_option maxRecDepth 100000
namespace L2
open PySem PySem.Spec PyProof.Rows
section
variable {X : Cx} {pins : List (Addr × Obj)} {σ : List (Option V)} {H : Hp} {s s' : Shared}
end
end L2

set_option linter.all false
set_option maxHeartbeats 4000000
set_option maxRecDepth 100000
namespace L2
open PySem PySem.Spec PyProof.Rows Ch
/-- the faces of ties, in order, each once -/
def FacesIs (ts : List TD) (out : List Str) : Prop := out.Nodup ∧ sortedS out = true ∧ ∀ z, z ∈ out ↔ ∃ t ∈ ts, z = t.st ∨ z = t.en
theorem FacesIs.nil {l : List Str} (h : FacesIs [] l) : l = [] := by
  cases l with
  | nil => rfl
  | cons a l =>
    have := (h.2.2 a).mp (by simp)
    simp at this
/-- pairs of a face and a place -/
abbrev Pl := List (Str × (Int × Int))
def look (ps : Pl) (z : Str) : Int × Int := ((ps.find? fun p => decide (p.1 = z)).map (·.2)).getD (0, 1)
def negF (a : Int × Int) : Int × Int := (-a.1, a.2)
def apart (ps : Pl) (t : TD) : Int × Int := addF (look ps t.en) (negF (look ps t.st))
def lessF (a c : Int × Int) : Bool := decide (a.1 * c.2 < c.1 * a.2)
/-- two-sided size of a fraction -/
structure FB (A B : Nat) (a : Int × Int) : Prop where
  s1 : Mth.Sz A a.1
  s2 : Mth.Sz B a.2
  b1 : 1 ≤ a.2
  g1 : Mth.g a.1 a.2 = 1
theorem FB.ok {A B n : Nat} {a : Int × Int} (h : FB A B a) (h1 : A ≤ n) (h2 : B ≤ n) : FOk n a := ⟨h.s1.mono h1, h.s2.mono h2, h.b1, h.g1⟩
theorem FB.low {A B : Nat} {t b : Int} (hb : 1 ≤ b) (h1 : Mth.Sz A t) (h2 : Mth.Sz B b) : FB A B (Mth.top t b, Mth.bot t b) := by
  have b0 : b ≠ 0 := by omega
  exact ⟨Mth.Sz.top b0 h1, Mth.Sz.bot b0 h2, Mth.bot_pos b0, Mth.g_low b0⟩
end L2

set_option linter.all false
set_option maxHeartbeats 4000000
set_option maxRecDepth 100000
namespace L2
open PySem PySem.Spec PyProof.Rows Ch
end L2

set_option linter.all false
namespace L2
open PySem PySem.Spec PyProof.Rows Ch
end L2
namespace L2
open PySem PySem.Spec PyProof.Rows Ch
end L2
namespace L2
open PySem PySem.Spec PyProof.Rows Ch
end L2

set_option linter.all false
set_option maxHeartbeats 4000000
namespace L2
open PySem PySem.Spec PyProof.Rows Ch
/-- sizes of a fraction, lowest or not -/
structure FW (A B : Nat) (a : Int × Int) : Prop where
  s1 : Mth.Sz A a.1
  s2 : Mth.Sz B a.2
  b1 : 1 ≤ a.2
theorem FB.w {A B : Nat} {a : Int × Int} (h : FB A B a) : FW A B a := ⟨h.s1, h.s2, h.b1⟩
end L2

set_option linter.all false
set_option maxHeartbeats 4000000
namespace L2
open PySem PySem.Spec PyProof.Rows Ch
end L2

set_option linter.all false
namespace L2
open PySem PySem.Spec PyProof.Rows Ch
section
variable {X : Cx} {K : PySem.W.Frag} {o e : Expr} {es : List Expr} {to : TE} {t : TA} {name : Str} {apos cpos : Pos} {T id : String} {r : V → List V → Hp → VK → Prop}
end
end L2

set_option linter.all false
set_option maxHeartbeats 4000000
set_option maxRecDepth 100000
namespace L2
open PySem PySem.Spec PyProof.Rows
section
variable {X : Cx}
/-- list(o.values()) -/
def tValsL (td : TE) : TE := fun σ H Q => td σ H fun x H1 => ∃ d kvs, x = .ref d ∧ H1 d = some (.dK kvs) ∧ ∀ l, H1 l = none → Q (.ref l) (upd H1 l (.lst (kvs.map (·.2))))
theorem vals_of {kvs : List (Key × V)} {vs : List (Key × Value)} (r : KV kvs vs) : Vals (kvs.map (·.2)) (vs.map (·.2)) := by
  unfold KV at r
  induction r with
  | nil => exact .nil
  | cons h _ ih => exact .cons h.2 ih
end
section
variable {prog : Program} {w : World} {A : Around} {E : Value → Shared → Prop} {s : Shared}
end
end L2

set_option linter.all false
set_option maxHeartbeats 4000000
set_option maxRecDepth 100000
namespace L2
open PySem PySem.Spec PyProof.Rows
section
variable {X : Cx}
end
section
variable {X : Cx} {k k' : Nat} {x mn : Str} {C : Addr} {Cs : Addr → Prop} {ps : List Str} {sp : Sp} {p pos apos : Pos} {e o : Expr} {es : List Expr} {t : TA} {ta : TE}
abbrev TX := St → Hp → VK → XK → Prop
end
end L2

set_option linter.all false
set_option maxHeartbeats 4000000
set_option maxRecDepth 100000
namespace L2
open PySem PySem.Spec PyProof.Rows
section
variable {X : Cx}
end
section
variable {σ : St} {H : Hp} {Q : VK} {E : XK} {ta td ty : TE} {ts : TA} {tc : TT} {t u : TX} {C : Addr} {sp : Sp} {Cs : Addr → Prop} {m : Str}
theorem y8ay : tValsL td σ H Q = td σ H fun x H1 => ∃ d kvs, x = .ref d ∧ H1 d = some (.dK kvs) ∧ ∀ l, H1 l = none → Q (.ref l) (upd H1 l (.lst (kvs.map (·.2)))) := rfl
theorem y3dy : tDIn ty td σ H Q = ty σ H fun y H1 => td σ H1 fun x H2 => ∃ a o, x = .ref a ∧ DGet H2 a y o ∧ Q (.bl o.isSome) H2 := rfl
theorem y41y : tDNotIn ty td σ H Q = ty σ H fun y H1 => td σ H1 fun x H2 => ∃ a o, x = .ref a ∧ DGet H2 a y o ∧ Q (.bl (!o.isSome)) H2 := rfl
end
section
variable {α κ : Type} [DecidableEq κ] {f : α → κ} {k : κ} {u y : α}
end
section
variable {α : Type} {P : α → V → Prop}
theorem All2.set : ∀ {as : List α} {xs : List V} {i : Nat} {a : α} {x : V}, All2 P as xs → P a x → All2 P (as.set i a) (xs.set i x)
  | [], xs, i, a, x, h, _ => by
    have : xs = [] := h
    subst this
    simp
    exact h
  | b :: as, xs, 0, a, x, h, p => by
    obtain ⟨y, r, rfl, _, h2⟩ := h
    exact ⟨x, r, rfl, p, h2⟩
  | b :: as, xs, i + 1, a, x, h, p => by
    obtain ⟨y, r, rfl, h1, h2⟩ := h
    exact ⟨y, r.set i x, rfl, h1, All2.set h2 p⟩
end
end L2
namespace L2
open PySem PySem.Spec PyProof.Rows Ch
abbrev nms (ts : List TD) : List Str := ts.map (·.nm)
/-- a dict that has the ties by their names -/
def BD (P : TD → V → Prop) (ts : List TD) (kvs : List (Key × V)) : Prop := kvs.map (·.1) = ts.map (fun t => Sum.inr t.nm) ∧ All2 P ts (kvs.map (·.2))
section
variable {P P' : TD → V → Prop} {ts : List TD} {kvs : List (Key × V)} {t : TD} {v : V}
theorem BD.cons : BD P (t :: ts) kvs ↔ ∃ w r, kvs = (Sum.inr t.nm, w) :: r ∧ P t w ∧ BD P ts r := by
  constructor
  · rintro ⟨h1, h2⟩
    match kvs, h1, h2 with
    | (k, w) :: r, h1, h2 =>
      rw [List.map_cons, List.map_cons, List.cons.injEq] at h1
      obtain ⟨y, r', e, p, h2⟩ := h2
      rw [List.map_cons, List.cons.injEq] at e
      obtain ⟨rfl, rfl⟩ := e
      obtain ⟨h0, h1⟩ := h1
      have h0 : k = Sum.inr t.nm := h0
      subst h0
      exact ⟨_, r, rfl, p, h1, h2⟩
  · rintro ⟨w, r, rfl, p, h⟩
    exact ⟨by rw [List.map_cons, List.map_cons, h.1], w, r.map (·.2), rfl, p, h.2⟩
theorem BD.nil : BD P [] kvs ↔ kvs = [] := by
  constructor
  · rintro ⟨h, _⟩
    simpa using h
  · rintro rfl
    exact ⟨rfl, rfl⟩
end
end L2

set_option linter.all false
set_option maxHeartbeats 4000000
set_option maxRecDepth 100000
namespace L2
open PySem PySem.Spec PyProof.Rows Ch
def nameL : List Str := ["a", "aa", "aaa", "b", "ab", "zzzzzzzz"]
theorem one_ok {n : Int} (h : Mth.Sz 200 n) : FOk 200 (n, 1) := ⟨h, .lit (i := 1) (by decide) (by decide), Int.le_refl _, by show Mth.g n 1 = 1; unfold Mth.g; simp⟩
theorem sub_len {α : Type} [DecidableEq α] : ∀ (l m : List α), l.Nodup → l ⊆ m → l.length ≤ m.length
  | [], m, _, _ => by simp
  | a :: l, m, hn, hs => by
    rw [List.nodup_cons] at hn
    have ha : a ∈ m := hs (by simp)
    have := sub_len l (m.erase a) hn.2 fun x hx => (List.mem_erase_of_ne (show x ≠ a from fun e => hn.1 (e ▸ hx))).mpr (hs (by simp [hx]))
    rw [List.length_erase_of_mem ha] at this
    have := List.length_pos_of_mem ha
    rw [List.length_cons]
    omega
/-- ties of a book of the law -/
structure Good (ts : List TD) : Prop where
  nd : (nms ts).Nodup
  ok : ∀ t ∈ ts, TOk t
  nm : ∀ t ∈ ts, t.nm ∈ nameL
theorem Good.len {ts : List TD} (g : Good ts) : ts.length ≤ 6 := by
  have := sub_len (nms ts) nameL g.nd fun z hz => by
    obtain ⟨t, ht, rfl⟩ := List.mem_map.mp hz
    exact g.nm t ht
  rw [List.length_map] at this
  exact this
end L2

set_option linter.all false
set_option maxHeartbeats 4000000
set_option maxRecDepth 100000
namespace L2
open PySem PySem.Spec PyProof.Rows
section
variable {X : Cx} {pins : List (Addr × Obj)} {σ : St} {H : Hp} {s : Shared} {a : Addr} {kvs : List (Key × V)} {k : Key} {u r : Value} {y : V} {A : Around} {E : Value → Shared → Prop}
theorem rel_some {v : Option V} {o : Option Value} {w : Value} (h : RelO v o) (e : o = some w) : ∃ x, v = some x ∧ RelV x w := by
  subst e
  cases v with
  | none => exact absurd h (by simp [RelO])
  | some x => exact ⟨x, rfl, h⟩
theorem rel_none {v : Option V} {o : Option Value} (h : RelO v o) (e : o = none) : v = none := by
  subst e
  cases v with
  | none => rfl
  | some x => exact absurd h (by simp [RelO])
/-- d.setdefault(k, y) -/
theorem d_setdef {Q : Value → Shared → Prop} (I : Inv X pins σ H s) (e : H a = some (.dK kvs)) (ry : RelV (kV k) u) (rd : RelV y r) (hl : kvs.length < sizeLine)
    (h1 : ∀ v w' s', valV kvs k = some v → Inv X pins σ H s' → RelV v w' → Q w' s') (h2 : ∀ s', valV kvs k = none → Inv X pins σ (upd H a (.dK (putK kvs k y))) s' → Q r s') :
    wpAny (model X.prog X.w) A (call (.builtin "dict.setdefault") [.ref a, u, r]) Q E s := by
  obtain ⟨z, hd, vs, rel, dd⟩ := dk_of I.hok e
  refine call_meetsIn PySem.F.slot_dict_setdefault dd.typeIs PySem.F.entry_dict_setdefault (PySem.F.args_dict_setdefault_3 _ _ _) (PySem.kt_meets_setdefault (mixKind X.prog X.w) a (kV_is ry) hd r) ⟨vs, dd, by rw [← rel.length]; exact z, fun w hw => ?_, fun hn h' dd' hs => ?_⟩
  · obtain ⟨x, hx, rx⟩ := rel_some (rel.val k) hw
    exact h1 x w _ hx (I.tok _) rx
  · have hv := rel_none (rel.val k) hn
    refine h2 _ hv ?_
    have he : ∃ q, h'.get? a = some q := let ⟨q, _, _, hq, _⟩ := dd'; ⟨q, hq⟩
    have hz : (putK kvs k y).length ≤ sizeLine := by have := length_putK kvs k y; omega
    exact d_write I (by rw [e]; exact True.intro) hs he (dk_new hz hd (rel.put k rd) dd')
end
def tDSet (td ty tx : TE) : TE := fun σ H Q => td σ H fun x H1 => ∃ a, x = .ref a ∧ IsD H1 a ∧ ty σ H1 fun y H2 => tx σ H2 fun z H3 => ∃ kvs k, H3 a = some (.dK kvs) ∧ y = kV k ∧ kvs.length < sizeLine ∧
  (∀ v, valV kvs k = some v → Q v H3) ∧ (valV kvs k = none → Q z (upd H3 a (.dK (putK kvs k z))))
section
variable {X : Cx} {o e f : Expr} {apos cpos : Pos} {td ty tx : TE}
theorem pe_dset (ho : PE X o td) (he : PE X e ty) (hf : PE X f tx) (m : M2 X o "setdefault" apos e f cpos) : PE X (.Call (.Attribute o "setdefault" apos) [e, f] [] cpos) (tDSet td ty tx) := by
  intro pins s σ H Q I h
  refine wpAny_Call_method m.base m.few m.line PySem.F.plainAttrs_dict PySem.F.slot_dict_setdefault PySem.F.type_dict_setdefault (thn (ho pins s σ H _ I h) fun u s1 ⟨x, H1, I1, rx, a, ex, d, q1⟩ => ?_)
  subst ex
  obtain rfl : u = Value.ref a := rx
  obtain ⟨t1, t2, _⟩ := isD_at I1 d
  refine ⟨t1, t2, ?_⟩
  rw [m.trees]
  refine Calls.callWith_builtin rfl (Calls.evalArgs_plain (Calls.spliced_cons (thn (he pins s1 σ H1 _ I1 q1) fun iv s2 ⟨y, H2, I2, ry, q2⟩ =>
    Calls.spliced_cons (thn (hf pins s2 σ H2 _ I2 q2) fun fv s3 ⟨z, H3, I3, rz, kvs, k, ea, ey, hl, q3, q4⟩ => Calls.spliced_nil ?_))))
  subst ey
  exact d_setdef I3 ea ry rz hl (fun v w' s4 hv I4 rw' => ⟨v, H3, I4, rw', q3 v hv⟩) fun s4 hv I4 => ⟨z, _, I4, rz, q4 hv⟩
end
section
variable {X : Cx}
/-- xs.insert(i, y) -/
def rInsert : V → List V → Hp → VK → Prop := fun x vs H Q => ∃ l xs y n, x = .ref l ∧ vs = [.int ((n : Nat) : Int), y] ∧ H l = some (.lst xs) ∧ n ≤ xs.length ∧ xs.length < sizeLine ∧ Q .non (upd H l (.lst (xs.take n ++ y :: xs.drop n)))
theorem mt_insert : MtM X "list.insert" rInsert := by
  intro pins s σ H x vs v us Q I rx rv h
  obtain ⟨l, xs, y, i, rfl, rfl, hH, hi, hz, q⟩ := h
  cases rx
  cases rv with
  | cons r1 rv =>
    obtain ⟨t, rfl⟩ := r1
    obtain ⟨u, rfl, ru⟩ := vals1 rv
    obtain ⟨z, its, n, r, hl, e⟩ := I.lstM hH
    have hs := sizeLine_eq
    have hf := fitsIndex_both (k := (i : Int)) (by omega) (by omega)
    have hc : ¬ (!Builtin.List.listFitsIndex (i : Int)) = true := by rw [hf]; decide
    have h1 : its.toArray.size ≤ sizeLine := by rw [List.size_toArray]; omega
    clear hs
    generalize hj : (i : Int) = j at hc ⊢
    have hm := @AutoSeq1.list_insert_list_int_val_1 l its.toArray n j t u hc h1
    refine call_meets F.slot_list_insert ⟨_, e, rfl⟩ F.entry_list_insert (F.args_list_insert_3 _ _ _) hm ⟨e, ?_⟩
    refine ⟨.non, _, I.lset (its' := its.take i ++ u :: its.drop i) hH e ?_ ?_ ?_, rfl, q⟩
    · subst hj
      have ei : min i its.length = i := by omega
      have ek : (if (i : Int) < 0 then ((i : Int) + (its.toArray.size : Int)).toNat else min (i : Int).toNat its.toArray.size) = i := by
        rw [if_neg (by omega), Int.toNat_natCast, List.size_toArray, ei]
      show (its.toArray.extract 0 (if (i : Int) < 0 then ((i : Int) + (its.toArray.size : Int)).toNat else min (i : Int).toNat its.toArray.size)).push u ++ its.toArray.extract (if (i : Int) < 0 then ((i : Int) + (its.toArray.size : Int)).toNat else min (i : Int).toNat its.toArray.size) = _
      rw [ek]
      apply Array.ext'
      simp
      exact List.take_of_length_le (by rw [List.length_drop]; exact Nat.le_refl _)
    · exact (r.take i).append (.cons ru (r.drop i))
    · rw [List.length_append, List.length_cons, List.length_take, List.length_drop]
      omega
end
section
variable {σ : St} {H : Hp} {Q : VK} {td ty tx : TE}
theorem y45y : tDSet td ty tx σ H Q = td σ H fun x H1 => ∃ a, x = .ref a ∧ IsD H1 a ∧ ty σ H1 fun y H2 => tx σ H2 fun z H3 => ∃ kvs k, H3 a = some (.dK kvs) ∧ y = kV k ∧ kvs.length < sizeLine ∧ (∀ v, valV kvs k = some v → Q v H3) ∧ (valV kvs k = none → Q z (upd H3 a (.dK (putK kvs k z)))) := rfl
theorem y3cy : tDGet2 td ty tx σ H Q = td σ H fun x H1 => ∃ a, x = .ref a ∧ IsD H1 a ∧ ty σ H1 fun y H2 => tx σ H2 fun z H3 => ∃ o, DGet H3 a y o ∧ Q (o.getD z) H3 := rfl
theorem y3ey {trs : List (TE × TE)} : tDisp trs σ H Q = ∀ p, H p = none → tPairs trs σ (upd H p (.dK [])) fun ps H2 => H2 p = some (.dK []) ∧ ∃ kvs : List (Key × V), ps = kvs.map (fun kv => (kV kv.1, kv.2)) ∧ kvs.length ≤ 15 ∧ Q (.ref p) (upd H2 p (.dK (mergeK [] kvs))) := rfl
theorem y76y {tk tv : TE} {R : List (V × V) → Hp → Prop} : tPairs [(tk, tv)] σ H R = tk σ H fun x H1 => tv σ H1 fun y H2 => R [(x, y)] H2 := rfl
theorem y2cy {K : PySem.W.Frag} {T : String} {r : V → List V → Hp → VK → Prop} {to : TE} : tBM0 K T r to σ H Q = to σ H fun x H1 => tyV K T x H1 ∧ r x [] H1 Q := rfl
end
end L2

set_option linter.all false
set_option maxHeartbeats 4000000
set_option maxRecDepth 100000
namespace L2
open PySem PySem.Spec PyProof.Rows Ch
def BG {α : Type} (f : α → Str) (P : α → V → Prop) (as : List α) (kvs : List (Key × V)) : Prop := kvs.map (·.1) = as.map (fun a => Sum.inr (f a)) ∧ All2 P as (kvs.map (·.2))
section
variable {α : Type} {f : α → Str} {P P' : α → V → Prop} {as : List α} {kvs : List (Key × V)} {a : α} {v : V}
theorem BG.mono (h : BG f P as kvs) (m : ∀ a x, P a x → P' a x) : BG f P' as kvs := ⟨h.1, h.2.mono m⟩
theorem BG.length (h : BG f P as kvs) : kvs.length = as.length := by simpa using congrArg List.length h.1
theorem BG.cons : BG f P (a :: as) kvs ↔ ∃ w r, kvs = (Sum.inr (f a), w) :: r ∧ P a w ∧ BG f P as r := by
  constructor
  · rintro ⟨h1, h2⟩
    match kvs, h1, h2 with
    | (k, w) :: r, h1, h2 =>
      rw [List.map_cons, List.map_cons, List.cons.injEq] at h1
      obtain ⟨y, r', e, p, h2⟩ := h2
      rw [List.map_cons, List.cons.injEq] at e
      obtain ⟨rfl, rfl⟩ := e
      obtain ⟨h0, h1⟩ := h1
      have h0 : k = Sum.inr (f a) := h0
      subst h0
      exact ⟨_, r, rfl, p, h1, h2⟩
  · rintro ⟨w, r, rfl, p, h⟩
    exact ⟨by rw [List.map_cons, List.map_cons, h.1], w, r.map (·.2), rfl, p, h.2⟩
theorem BG.nil : BG f P [] kvs ↔ kvs = [] := by
  constructor
  · rintro ⟨h, _⟩
    simpa using h
  · rintro rfl
    exact ⟨rfl, rfl⟩
theorem BG.any : ∀ {as : List α} {kvs : List (Key × V)} {z : Str}, BG f P as kvs → (kvs.any fun kv => decide (kv.1 = Sum.inr z)) = decide (z ∈ as.map f)
  | [], kvs, z, h => by rw [BG.nil.mp h]; simp
  | a :: as, kvs, z, h => by
    obtain ⟨w, r, rfl, _, h⟩ := BG.cons.mp h
    rw [List.any_cons, BG.any h]
    by_cases c : f a = z
    · subst c
      simp
    · have c1 : (Sum.inr (f a) : Key) ≠ Sum.inr z := fun e => c (by injection e)
      have c2 : z ≠ f a := fun e => c e.symm
      simp [c1, c2]
theorem BG.get : ∀ {as : List α} {kvs : List (Key × V)} {z : Str}, BG f P as kvs → (∃ a v, a ∈ as ∧ f a = z ∧ valV kvs (Sum.inr z) = some v ∧ P a v) ∨ (z ∉ as.map f ∧ valV kvs (Sum.inr z) = none)
  | [], kvs, z, h => by
    rw [BG.nil.mp h]
    exact .inr ⟨by simp, rfl⟩
  | a :: as, kvs, z, h => by
    obtain ⟨w, r, rfl, p, h⟩ := BG.cons.mp h
    by_cases c : f a = z
    · subst c
      exact .inl ⟨a, w, by simp, rfl, valV_pos rfl, p⟩
    · have c1 : (Sum.inr (f a) : Key) ≠ Sum.inr z := fun e => c (by injection e)
      have c2 : z ≠ f a := fun e => c e.symm
      have e : valV ((Sum.inr (f a), w) :: r) (Sum.inr z) = valV r (Sum.inr z) := by simp [valV, List.find?_cons, c1]
      rw [e]
      rcases BG.get h (z := z) with ⟨b, v, h1, h2, h3, h4⟩ | ⟨h1, h2⟩
      · exact .inl ⟨b, v, by simp [h1], h2, h3, h4⟩
      · exact .inr ⟨by simp [c2]; simpa using h1, h2⟩
theorem BG.some {z : Str} (h : BG f P as kvs) (hz : z ∈ as.map f) : ∃ a v, a ∈ as ∧ f a = z ∧ valV kvs (Sum.inr z) = some v ∧ P a v := by
  rcases h.get (z := z) with h | ⟨h, _⟩
  · exact h
  · exact absurd hz h
theorem BG.none {z : Str} (h : BG f P as kvs) (hz : z ∉ as.map f) : valV kvs (Sum.inr z) = none := by
  rcases h.get (z := z) with ⟨a, v, h1, h2, _⟩ | ⟨_, h⟩
  · exact absurd (h2 ▸ List.mem_map_of_mem (f := f) h1) hz
  · exact h
theorem BG.val {z : Str} (h : BG f P as kvs) : (valV kvs (Sum.inr z)).isSome = decide (z ∈ as.map f) := by
  by_cases c : z ∈ as.map f
  · obtain ⟨a, v, _, _, e, _⟩ := h.some c
    rw [e, decide_eq_true c]
    rfl
  · rw [h.none c, decide_eq_false c]
    rfl
theorem BG.new (h : BG f P as kvs) (hn : f a ∉ as.map f) (p : P a v) : BG f P (as ++ [a]) (putK kvs (Sum.inr (f a)) v) := by
  have e : putK kvs (Sum.inr (f a)) v = kvs ++ [(Sum.inr (f a), v)] := by
    unfold putK
    rw [h.any, if_neg (by simpa using hn)]
  rw [e]
  exact ⟨by rw [List.map_append, List.map_append, h.1]; rfl, by rw [List.map_append]; exact h.2.append (.one p)⟩
end
structure PD where
  nm : Str
  st : Str
  en : Str
  sz : Int × Int
  mo : Int × Int
  wt : Int
def leadOf (p : PD) (f : Str) : List (Str × Pr) := if p.st = f then [(p.en, (p.nm, true))] else if p.en = f then [(p.st, (p.nm, false))] else []
def leadsOf (ls : List PD) (f : Str) : List (Str × Pr) := ls.flatMap fun p => leadOf p f
theorem leads_app (ls : List PD) (p : PD) (f : Str) : leadsOf (ls ++ [p]) f = leadsOf ls f ++ leadOf p f := by simp [leadsOf]
inductive WalkTo (ls : List PD) (a : Str) : List Pr → Str → Prop
  | nil : WalkTo ls a [] a
  | snoc {w : List Pr} {f g : Str} {pr : Pr} : WalkTo ls a w f → (g, pr) ∈ leadsOf ls f → WalkTo ls a (w ++ [pr]) g
def Conn (ls : List PD) (a b : Str) : Prop := ∃ w, WalkTo ls a w b
theorem conn_in {ls : List PD} {a b : Str} {S : List Str} (ha : a ∈ S) (hc : ∀ f ∈ S, ∀ e ∈ leadsOf ls f, e.1 ∈ S) (h : Conn ls a b) : b ∈ S := by
  obtain ⟨w, h⟩ := h
  induction h with
  | nil => exact ha
  | snoc _ hm ih => exact hc _ ih _ hm
def fcsOf (ls : List PD) : List Str := ls.flatMap fun p => [p.st, p.en]
theorem lead_fcs {ls : List PD} {f : Str} {e : Str × Pr} (h : e ∈ leadsOf ls f) : e.1 ∈ fcsOf ls := by
  obtain ⟨p, hp, he⟩ := List.mem_flatMap.mp h
  refine List.mem_flatMap.mpr ⟨p, hp, ?_⟩
  unfold leadOf at he
  split at he
  · rw [List.mem_singleton.mp he]
    simp
  · split at he
    · rw [List.mem_singleton.mp he]
      simp
    · simp at he
theorem walk_fcs {ls : List PD} {a b : Str} {w : List Pr} (h : WalkTo ls a w b) : b ∈ a :: fcsOf ls := by
  cases h with
  | nil => simp
  | snoc _ hm => exact List.mem_cons_of_mem _ (lead_fcs hm)
theorem fcs_len (ls : List PD) : (fcsOf ls).length = 2 * ls.length := by
  unfold fcsOf
  induction ls with
  | nil => rfl
  | cons p ls ih =>
    rw [List.flatMap_cons, List.length_append, ih]
    simp
    omega
end L2

set_option linter.all false
set_option maxHeartbeats 4000000
set_option maxRecDepth 100000
namespace L2
open PySem PySem.Spec PyProof.Rows
section
variable {X : Cx} {pins : List (Addr × Obj)} {σ : List (Option V)} {H H' : Hp} {s s' : Shared} {d : Addr} {kvs kvs' : List (Key × V)} {od : Obj}
theorem Inv.freeze (I : Inv X pins σ H s) (e : H d = some (.dK kvs)) (ho : s.heap.get? d = some od) : Inv X pins σ (upd H d (.frz od (.dK kvs))) s := by
  refine I.un (h' := s.heap) (t' := s.toks) ⟨fun b o q _ _ _ => q, fun b o q _ _ _ => ⟨o.slots, q⟩, fun b o q n _ => ?_, fun b o q _ => ⟨o, q⟩, fun b xs q => ?_, fun b o u q => ?_, fun b ps q => ⟨#[], ?_⟩⟩ fun a o q => ?_
  · rw [upd_ne (fun z => by rw [z, e] at n; cases n)]
    exact n
  · rw [upd_ne (fun z => by rw [z, e] at q; cases q)]
    exact q
  · rw [upd_ne (fun z => by rw [z, e] at q; cases q)]
    exact q
  · rw [upd_ne (fun z => by rw [z, e] at q; cases q), Array.append_empty]
    exact q
  · have ho' : ∀ a' b, H b = some (.own a') → upd H d (.frz od (.dK kvs)) b = some (.own a') := fun a' b q => by
      rw [upd_ne (fun z => by rw [z, e] at q; cases q)]
      exact q
    have ht' : ∀ b xs, H b = some (.tup xs) → upd H d (.frz od (.dK kvs)) b = some (.tup xs) := fun b xs q => by
      rw [upd_ne (fun z => by rw [z, e] at q; cases q)]
      exact q
    by_cases c : a = d
    · subst c
      rw [upd_same] at q
      cases q
      exact ⟨ho, (I.hok a _ e).stay (fun _ _ _ z => z) (ho' a) ht'⟩
    · rw [upd_ne c] at q
      exact (I.hok a o q).stay (fun _ _ _ z => z) (ho' a) ht'
theorem Inv.thaw (I : Inv X pins σ H s) (e : H d = some (.dK kvs)) (I' : Inv X pins σ H' s') (e' : H' d = some (.frz od (.dK kvs'))) : Inv X pins σ (upd H' d (.dK kvs')) s' := by
  have ne : ∀ {b : Addr} {o : HO}, H' b = some o → (∀ u v, o ≠ .frz u v) → b ≠ d := fun q h z => by rw [z, e'] at q; cases q; exact h _ _ rfl
  refine ⟨I'.ok, I'.os, I'.bare, ⟨I'.base.keep, I'.base.slot, fun b o q n hx => ?_, I'.base.there, fun b xs q => ?_, fun b o u q => ?_, fun b ps q => ?_⟩, I'.loc, I'.cell, ?_, fun x c z => ?_, fun p hp => ?_, fun a o q => ?_, I'.len⟩
  · have := I'.base.free b o q n hx
    rw [upd_ne (fun z => by rw [z, e'] at this; cases this)]
    exact this
  · have := I'.base.tups b xs q
    rw [upd_ne (ne this (by intro u v z; cases z))]
    exact this
  · have h1 := I'.base.frzs b o u q
    have h2 := I.base.frzs b o u q
    rw [upd_ne (fun z => by rw [z, e] at h2; cases h2)]
    exact h1
  · obtain ⟨more, h1⟩ := I'.base.tbls b ps q
    exact ⟨more, by rw [upd_ne (ne h1 (by intro u v z; cases z))]; exact h1⟩
  · have := I'.free
    rw [upd_ne (fun z => by rw [z, e'] at this; cases this)]
    exact this
  · have := I'.freeC x c z
    rw [upd_ne (fun z => by rw [z, e'] at this; cases this)]
    exact this
  · obtain ⟨h1, h2, h3⟩ := I'.pin p hp
    exact ⟨h1, by rw [upd_ne (fun z => by rw [z, e'] at h2; cases h2)]; exact h2, h3⟩
  · have ho' : ∀ a' b, H' b = some (.own a') → upd H' d (.dK kvs') b = some (.own a') := fun a' b q => by
      rw [upd_ne (ne q (by intro u v z; cases z))]
      exact q
    have ht' : ∀ b xs, H' b = some (.tup xs) → upd H' d (.dK kvs') b = some (.tup xs) := fun b xs q => by
      rw [upd_ne (ne q (by intro u v z; cases z))]
      exact q
    by_cases c : a = d
    · subst c
      rw [upd_same] at q
      cases q
      have h1 : ObjOk X.prog X.w H' s'.heap a (.dK kvs') := (I'.hok a _ e').2
      exact h1.stay (fun _ _ _ z => z) (ho' a) ht'
    · rw [upd_ne c] at q
      exact (I'.hok a o q).stay (fun _ _ _ z => z) (ho' a) ht'
end
/-- the values of the dict at d, which stands -/
def Itv (d : Addr) (od : Obj) (kvs : List (Key × V)) : It :=
  ⟨fun i H => H d = some (.frz od (.dK kvs)) ∧ i < kvs.length, fun i H x H' => H' = H ∧ (kvs.map (·.2))[i]? = some x, fun i H => H d = some (.frz od (.dK kvs)) ∧ kvs.length ≤ i⟩
theorem turn_vals {P : Program} {w : World} {K : PySem.W.Frag} {tg : Expr} {d it : Addr} {od : Obj} {kvs : List (Key × V)} {vs : List (Key × Value)} {ep : Nat} (rel : KV kvs vs) (hd : ∀ h : Heap, h.get? d = some od → h.DictAt (mixKind P w) d vs ep) :
    Turn P w K tg (Itv d od kvs) [it] it (fun i h => h.IsValIter it d i vs.length ep) where
  mem := by simp
  obj := fun i h st b hb => by
    obtain rfl : b = it := by simpa using hb
    obtain ⟨o, e, c, z⟩ := st
    exact ⟨o, e, fun v q => by rw [z] at q; cases q⟩
  keep := fun i h h' st k => st.at fun o e => k it (by simp) o e
  item := by
    intro X hP hw hK hc i pins s σ H E I hf st hg
    subst hP hw hK
    obtain ⟨hfz, hi⟩ := hg
    obtain ⟨f0, f1, f2, f3, f4, f5⟩ := hf it (by simp)
    have g := (I.hok d _ hfz).1
    have lv := rel.length
    have r2 := vals_of rel
    obtain ⟨x, hx⟩ : ∃ x, (kvs.map (·.2))[i]? = some x := ⟨_, List.getElem?_eq_getElem (by rw [List.length_map]; exact hi)⟩
    obtain ⟨u, hu, ru⟩ := r2.get hx
    rw [List.getElem?_map] at hu
    obtain ⟨⟨k, u'⟩, hk, rfl⟩ := Option.map_eq_some_iff.mp hu
    refine wpAny_pyNext_values_item st (hd _ g) hk fun h' st' sb => ?_
    have I1 : Inv X pins σ H { s with heap := h' } := I.turned (t' := s.toks) (fun b o hb e => (sb.2 b hb).trans e) f0 f1 f3 f4 f5
    obtain ⟨o, e, c, z⟩ := id st'
    exact ⟨_, rfl, go_of (s := { s with heap := h' }) e c z (by decide) ⟨x, H, I1, ru, ⟨rfl, hx⟩, st', fun b hb => (hf b hb).1⟩⟩
  done := by
    intro X hP hw hK hc i pins s σ H E I hf st hg
    subst hP hw hK
    obtain ⟨hfz, hi⟩ := hg
    obtain ⟨f0, f1, f2, f3, f4, f5⟩ := hf it (by simp)
    have g := (I.hok d _ hfz).1
    have lv := rel.length
    exact wpAny_pyNext_values_end (I.ok.hd hc) st (hd _ g) (List.getElem?_eq_none (by omega)) fun h' eb => ⟨rfl, I.turned (t' := s.toks) (fun b o hb e => eb b o hb e) f0 f1 f3 f4 f5⟩
  self := fun _ _ _ _ _ st h => wpAny_pyIter_valiter st h
section
variable {X : Cx} {tg : Expr}
/-- over o.values() -/
def iVals (td : TE) : TI := fun σ H R => td σ H fun x H1 => ∃ d kvs, x = .ref d ∧ H1 d = some (.dK kvs) ∧ ∀ od, R (Itv d od kvs) (upd H1 d (.frz od (.dK kvs)))
theorem pi_vals {o : Expr} {td : TE} {apos cpos : Pos} (ho : PE X o td) (hb : attributeBase o "values" X.env (eval o X.env) = eval o X.env := by rfl) (hn : (apos.endLine == cpos.line) = true := by rfl) :
    PI X tg (.Call (.Attribute o "values" apos) [] [] cpos) (iVals td) := by
  intro pins s σ H R I h
  refine wpAny_Call_method0_late hb hn (thn (ho pins s σ H _ I h) fun v s1 ⟨y, H1, I1, r1, d, kvs, ex, e, q1⟩ => ?_)
  subst ex
  obtain rfl : v = Value.ref d := r1
  obtain ⟨t1, t2, hS⟩ := isD_at I1 (.inl ⟨kvs, .inl e⟩)
  obtain ⟨hz, _, vs, rel, dd⟩ := dk_of I1.hok e
  refine ⟨"dict", "dict.values", PySem.F.plainAttrs_dict, PySem.F.slot_dict_values, PySem.F.type_dict_values, t1, t2, Calls.callWith_builtin rfl (PySem.evalArgs_none ?_)⟩
  refine call_meetsIn PySem.F.slot_dict_values t1 PySem.F.entry_dict_values (PySem.F.args_dict_values_1 _) (meets_dict_values (mixKind X.prog X.w) d hS) ⟨⟨vs, dd⟩, ?_⟩
  obtain ⟨ep, da⟩ := dd.dictAt
  obtain ⟨od, es, hod, rest⟩ := id da
  refine wpAny_pyIter_values (knd := mixKind X.prog X.w) (v := s1.heap.objs.size) (d := d) (kvs := vs) (ep := ep) ⟨_, Heap.get?_push_size _ rfl, rfl, rfl⟩ (da.push _) ?_
  have kk : ∀ b o, s1.heap.get? b = some o → ((s1.heap.push { cls := .type "dict_values", data := .fields #[.ref d] }).push { cls := .type "dict_valueiterator", data := .fields #[.ref d, .int 0 0, .int vs.length 0, .int ep 0] }).get? b = some o := fun b o z => Heap.get?_push_of_some _ (Heap.get?_push_of_some _ z)
  have I2 := (I1.freeze e hod).kept (t' := s1.toks) kk
  have sz : s1.heap.objs.size ≤ (s1.heap.push { cls := .type "dict_values", data := .fields #[.ref d] }).objs.size := by
    rw [Heap.size_push]
    exact Nat.le_succ _
  refine ⟨_, [_], _, _, _, rfl, I2, turn_vals (vs := vs) (ep := ep) rel (fun h q => ⟨od, es, q, rest⟩), ⟨_, Heap.get?_push_size _ rfl, rfl, rfl⟩, fun b hb' => ?_, q1 od⟩
  obtain rfl := List.mem_singleton.mp hb'
  exact I1.fpOk sz ((I1.freeze e hod).hok.fresh sz)
/-- the dict at d stands while e is walked -/
def tThaw (t : TE) : TE := fun σ H Q => ∃ d kvs, H d = some (.dK kvs) ∧ t σ H fun v H' => ∃ od kvs', H' d = some (.frz od (.dK kvs')) ∧ Q v (upd H' d (.dK kvs'))
theorem pe_thaw {e : Expr} {t : TE} (h : PE X e t) : PE X e (tThaw t) := by
  intro pins s σ H Q I ⟨d, kvs, hd, q⟩
  exact thn (h pins s σ H _ I q) fun v s1 ⟨x, H1, I1, r1, od, kvs', e', q1⟩ => ⟨x, _, I.thaw hd I1 e', r1, q1⟩
end
section
variable {k : Nat} {cs : List (Nat × Str)} {g : TG} {te tl td : TE} {σ : St} {H H1 : Hp} {Q : VK} {d : Addr} {od : Obj} {kvs : List (Key × V)}
theorem y37y : tThaw (tComp k cs (iVals td) g te) σ H Q = ∃ d kvs, H d = some (.dK kvs) ∧ td σ H fun x H1 => ∃ d1 kvs1, x = .ref d1 ∧ H1 d1 = some (.dK kvs1) ∧ ∀ od, CompJ (Itv d1 od kvs1) k cs g te σ (fun v H' => ∃ od kvs', H' d = some (.frz od (.dK kvs')) ∧ Q v (upd H' d (.dK kvs'))) (upd H1 d1 (.frz od (.dK kvs1))) := rfl
theorem CompJ.vals (Pv : Nat → List V → Hp → Prop) (h0 : Pv 0 [] H1) (hl : ∀ i ys H', i ≤ kvs.length → Pv i ys H' → H' d = some (.frz od (.dK kvs)) ∧ ys.length ≤ sizeLine)
    (hs : ∀ i x ys H2, (kvs.map (·.2))[i]? = some x → Pv i ys H2 → g x (List.replicate k none ++ capsAt cs σ) H2 fun σ4 H4 => te σ4 H4 fun y H5 => Pv (i + 1) (ys ++ [y]) H5) (hd : ∀ ys H2, Pv kvs.length ys H2 → ∀ p, H2 p = none → Q (.ref p) (upd H2 p (.lst ys))) :
    CompJ (Itv d od kvs) k cs g te σ Q H1 := by
  refine ⟨fun i m ys H' => Pv i ys H' ∧ i ≤ kvs.length ∧ m = kvs.length - i, ⟨_, h0, Nat.zero_le _, rfl⟩, ?_⟩
  rintro i m ys H2 ⟨hp, hi, rfl⟩
  obtain ⟨h1, h2⟩ := hl i ys H2 hi hp
  refine ⟨h2, ?_⟩
  by_cases c : i < kvs.length
  · refine .inr ⟨⟨h1, c⟩, ?_⟩
    rintro x H3 ⟨rfl, hx⟩
    have e : (fun (σ4 : St) (H4 : Hp) => te σ4 H4 fun y H5 => Pv (i + 1) (ys ++ [y]) H5) = fun σ4 H4 => te σ4 H4 fun y H5 => ∃ m', m' < kvs.length - i ∧ Pv (i + 1) (ys ++ [y]) H5 ∧ i + 1 ≤ kvs.length ∧ m' = kvs.length - (i + 1) := by
      funext σ4 H4
      congr 1
      funext y H5
      exact propext ⟨fun q => ⟨_, Nat.sub_lt_sub_left c (Nat.lt_succ_self i), q, c, rfl⟩, fun ⟨_, _, q, _⟩ => q⟩
    rw [← e]
    exact hs i x ys H3 hx hp
  · have ei : i = kvs.length := by omega
    subst ei
    exact .inl ⟨⟨h1, Nat.le_refl _⟩, hd ys H2 hp⟩
end
section
variable {X : Cx} {k k' : Nat} {x : Str} {C : Addr} {ps : List Str} {sp : Sp} {E : XK} {p pos : Pos}
theorem KCal.ev0 (G : KCal X.prog X.w X.K X.mg X.base k x C ps sp) (hr : Room k' X.A) (hk : k + 1 ≤ k') (hg : Gl X x) (hx : Passes (CX1 X.prog X.w) X E) (hdb : (x == ("__debug__" : Str)) = false := by decide) :
    PE X (.Call (.Name x p) [] [] pos) (tMake C sp [] E tNil) := by
  obtain ⟨f, fd, F, hm, M, hb⟩ := G.ex
  exact pe_make0 M F (hr.mono hk) hg hm hb .nil hx hdb
end
end L2

set_option linter.all false
set_option maxHeartbeats 4000000
set_option maxRecDepth 100000
namespace L2
open PySem PySem.Spec PyProof.Rows Ch
def wtB : D → Bool
  | .int i => decide (1 ≤ i)
  | _ => false
def partB : D → Bool
  | .tup [n, s, e, z, m, w] => nameB n && facesB s e && (fracB z && fracB m && wholeB w) && (!lessD m (.tup [.int 0, .int 1]) && wtB w)
  | _ => false
def gapB : D → Bool
  | .tup [n, s, e, l, g] => tieB (.tup [n, s, e, l, g]) && !nonD l && !nonD g
  | _ => false
structure POk (p : PD) : Prop where
  n1 : nameS p.nm = true
  n2 : nameS p.st = true
  n3 : nameS p.en = true
  ne : p.st ≠ p.en
  z : FOk 200 p.sz
  m : FOk 200 p.mo
  m0 : 0 ≤ p.mo.1
  w : 1 ≤ p.wt
  ws : Mth.Sz 200 p.wt
structure GD where
  nm : Str
  st : Str
  en : Str
  lo : Int × Int
  hi : Int × Int
def GD.td (g : GD) : TD := ⟨g.nm, g.st, g.en, some g.lo, some g.hi⟩
def pdD (p : PD) : D := .tup [.str p.nm, .str p.st, .str p.en, frD p.sz, frD p.mo, .int p.wt]
theorem POk.part {p : PD} (h : POk p) : partB (pdD p) = true := by
  have e : eqD (.str p.st) (.str p.en) = false := by simp only [eqD, beq_eq_false_iff_ne]; exact h.ne
  have l : lessD (frD p.mo) (.tup [.int 0, .int 1]) = false := by
    simp [frD, lessD]
    exact h.m0
  simp [pdD, partB, nameB, facesB, h.n1, h.n2, h.n3, e, l, frD, fracB, wholeB, wtB, h.z.b1, h.z.g1, h.m.b1, h.m.g1, h.w]
  simpa [frD, lessD] using h.m0
theorem POk.sz {p : PD} (h : POk p) : szD (pdD p) := by
  simp only [pdD, frD, szD, szL]
  have := len8 h.n1
  have := len8 h.n2
  have := len8 h.n3
  exact ⟨by omega, by omega, by omega, ⟨h.z.s1.mono (by decide), h.z.s2.mono (by decide), trivial⟩, ⟨h.m.s1.mono (by decide), h.m.s2.mono (by decide), trivial⟩, h.ws.mono (by decide), trivial⟩
theorem gap_ok {g : GD} (h : TOk g.td) : gapB (tdD g.td) = true := by
  have := h.tie
  simp only [tdD, gapB] at this ⊢
  rw [this]
  rfl
/-- a part's row, as it lies in the heap -/
def PDV (K : PySem.W.Frag) (H : Hp) (p : PD) (x : V) : Prop := ∃ b vz vm, x = .ref b ∧ SqT K H b [.str p.nm, .str p.st, .str p.en, vz, vm, .int p.wt] ∧ FrV K H vz p.sz.1 p.sz.2 ∧ FrV K H vm p.mo.1 p.mo.2
section
variable {K : PySem.W.Frag} {H H' : Hp}
theorem PDV.sameT {p : PD} {x : V} (S : SameT H H') : PDV K H p x → PDV K H' p x := fun ⟨b, vz, vm, e, q, h1, h2⟩ => ⟨b, vz, vm, e, q.sameT S, h1.sameT S, h2.sameT S⟩
theorem PDV.rep {p : PD} {x : V} : PDV K H p x → Rep K H (pdD p) x := fun ⟨b, vz, vm, e, q, h1, h2⟩ => by
  simp only [pdD, Rep, RepL]
  exact ⟨b, _, e, q, _, _, rfl, rfl, _, _, rfl, rfl, _, _, rfl, rfl, _, _, rfl, FrV.rep h1, _, _, rfl, FrV.rep h2, _, _, rfl, rfl, rfl⟩
end
/-- a lead: where to, and by which part and which way -/
def LeV (H : Hp) (e : Str × Pr) (x : V) : Prop := ∃ b c, x = .ref b ∧ H b = some (.tup [.str e.1, .ref c]) ∧ H c = some (.tup [.str e.2.1, .bl e.2.2])
theorem LeV.sameT {H H' : Hp} {e : Str × Pr} {x : V} (S : SameT H H') : LeV H e x → LeV H' e x := fun ⟨b, c, h1, h2, h3⟩ => ⟨b, c, h1, S _ _ rfl h2, S _ _ rfl h3⟩
/-- the dict of the leads, by what each face leads to -/
structure JD (H0 H : Hp) (L : Str → List (Str × Pr)) (kvs : List (Key × V)) : Prop where
  at_ : ∀ (f : Str), (valV kvs (Sum.inr f) = none ∧ L f = []) ∨ ∃ l xs, valV kvs (Sum.inr f) = some (.ref l) ∧ H0 l = none ∧ H l = some (.lst xs) ∧ All2 (LeV H) (L f) xs
  inj : ∀ (f g : Str) (l : Addr), valV kvs (Sum.inr f) = some (.ref l) → valV kvs (Sum.inr g) = some (.ref l) → f = g
theorem JD.same {H0 H H' : Hp} {L : Str → List (Str × Pr)} {kvs : List (Key × V)} (S : Same H H') (h : JD H0 H L kvs) : JD H0 H' L kvs where
  at_ := fun f => by
    rcases h.at_ f with h | ⟨l, xs, h1, h2, h3, h4⟩
    · exact .inl h
    · exact .inr ⟨l, xs, h1, h2, S _ _ h3, h4.mono fun _ _ z => z.sameT S.t⟩
  inj := h.inj
theorem JD.sx {H0 H H' : Hp} {L : Str → List (Str × Pr)} {kvs kv2 : List (Key × V)} {d : Addr} (S : ∀ b u, b ≠ d → H b = some u → H' b = some u) (hd : H d = some (.dK kv2)) (h : JD H0 H L kvs) : JD H0 H' L kvs where
  at_ := fun f => by
    have T : SameT H H' := fun b u t q => S b u (fun z => by rw [z, hd] at q; cases q; simp [isTF] at t) q
    rcases h.at_ f with h | ⟨l, xs, h1, h2, h3, h4⟩
    · exact .inl h
    · exact .inr ⟨l, xs, h1, h2, S _ _ (fun z => by rw [z, hd] at h3; cases h3) h3, h4.mono fun _ _ z => z.sameT T⟩
  inj := h.inj
theorem JD.sy {H0 H H' : Hp} {L : Str → List (Str × Pr)} {kvs : List (Key × V)} {x : Addr} {o : HO} (S : ∀ b u, b ≠ x → H b = some u → H' b = some u) (hx : H x = some o) (hn : ∀ xs, o ≠ .lst xs) (ht : isTF o = false) (h : JD H0 H L kvs) : JD H0 H' L kvs where
  at_ := fun f => by
    have T : SameT H H' := fun b u t q => S b u (fun z => by rw [z, hx] at q; cases q; rw [ht] at t; cases t) q
    rcases h.at_ f with h | ⟨l, xs, h1, h2, h3, h4⟩
    · exact .inl h
    · exact .inr ⟨l, xs, h1, h2, S _ _ (fun z => by rw [z, hx] at h3; exact hn _ (Option.some.inj h3)) h3, h4.mono fun _ _ z => z.sameT T⟩
  inj := h.inj
theorem JD.nil {H0 H : Hp} : JD H0 H (fun _ => []) [] := ⟨fun f => .inl ⟨rfl, rfl⟩, fun f g l h => by simp [valV] at h⟩
def addL (L : Str → List (Str × Pr)) (f : Str) (e : Str × Pr) : Str → List (Str × Pr) := fun g => if g = f then L g ++ [e] else L g
/-- a lead more, at a face that has some -/
theorem JD.more {H0 H H' : Hp} {L : Str → List (Str × Pr)} {kvs : List (Key × V)} {f : Str} {e : Str × Pr} {l b : Addr} {xs : List V} (h : JD H0 H L kvs) (hv : valV kvs (Sum.inr f) = some (.ref l)) (hl : H l = some (.lst xs)) (hb : LeV H e (.ref b)) (e' : upd H l (.lst (xs ++ [.ref b])) = H') : JD H0 H' (addL L f e) kvs where
  at_ := fun g => by
    have T : SameT H H' := SameT.put e' hl rfl
    have hl' : H' l = some (.lst (xs ++ [.ref b])) := by rw [← e', upd_same]
    by_cases c : g = f
    · subst c
      rcases h.at_ g with ⟨h1, _⟩ | ⟨l2, xs2, h1, h2, h3, h4⟩
      · rw [hv] at h1
        cases h1
      · rw [hv] at h1
        cases h1
        rw [hl] at h3
        cases h3
        refine .inr ⟨l, _, hv, h2, hl', ?_⟩
        unfold addL
        rw [if_pos rfl]
        exact (h4.mono fun _ _ z => z.sameT T).append (.one (hb.sameT T))
    · unfold addL
      rw [if_neg c]
      rcases h.at_ g with h1 | ⟨l2, xs2, h1, h2, h3, h4⟩
      · exact .inl h1
      · have ne : l2 ≠ l := fun z => c (h.inj g f l (by rw [h1, z]) hv)
        exact .inr ⟨l2, xs2, h1, h2, by rw [← e', upd_ne ne]; exact h3, h4.mono fun _ _ z => z.sameT T⟩
  inj := h.inj
/-- a lead at a face that has none -/
theorem JD.first {H0 H H' : Hp} {L : Str → List (Str × Pr)} {kvs : List (Key × V)} {f : Str} {e : Str × Pr} {l b : Addr} (h : JD H0 H L kvs) (hv : valV kvs (Sum.inr f) = none) (h0 : H0 l = none) (hn : ∀ g l', valV kvs (Sum.inr g) = some (.ref l') → l' ≠ l) (hl : H l = some (.lst [])) (hb : LeV H e (.ref b)) (e' : upd H l (.lst [.ref b]) = H') : JD H0 H' (addL L f e) (putK kvs (Sum.inr f) (.ref l)) where
  at_ := fun g => by
    have T : SameT H H' := SameT.put e' hl rfl
    have hl' : H' l = some (.lst [.ref b]) := by rw [← e', upd_same]
    rw [valV_put]
    by_cases c : g = f
    · subst c
      rw [if_pos rfl]
      refine .inr ⟨l, _, rfl, h0, hl', ?_⟩
      unfold addL
      rw [if_pos rfl]
      rcases h.at_ g with ⟨_, h2⟩ | ⟨l2, xs2, h1, _⟩
      · rw [h2]
        exact .one (hb.sameT T)
      · rw [hv] at h1
        cases h1
    · have c' : (Sum.inr g : Key) ≠ Sum.inr f := fun z => c (by injection z)
      rw [if_neg c']
      unfold addL
      rw [if_neg c]
      rcases h.at_ g with h1 | ⟨l2, xs2, h1, h2, h3, h4⟩
      · exact .inl h1
      · exact .inr ⟨l2, xs2, h1, h2, by rw [← e', upd_ne (hn g l2 h1)]; exact h3, h4.mono fun _ _ z => z.sameT T⟩
  inj := fun g1 g2 l' h1 h2 => by
    rw [valV_put] at h1 h2
    by_cases c1 : (Sum.inr g1 : Key) = Sum.inr f
    · by_cases c2 : (Sum.inr g2 : Key) = Sum.inr f
      · have := c1.trans c2.symm
        injection this
      · rw [if_pos c1] at h1
        rw [if_neg c2] at h2
        cases h1
        exact absurd rfl (hn g2 l h2)
    · by_cases c2 : (Sum.inr g2 : Key) = Sum.inr f
      · rw [if_neg c1] at h1
        rw [if_pos c2] at h2
        cases h2
        exact absurd rfl (hn g1 l h1)
      · rw [if_neg c1] at h1
        rw [if_neg c2] at h2
        exact h.inj g1 g2 l' h1 h2
theorem add_leads {ls : List PD} {p : PD} (h : p.st ≠ p.en) : addL (addL (leadsOf ls) p.st (p.en, (p.nm, true))) p.en (p.st, (p.nm, false)) = leadsOf (ls ++ [p]) := by
  funext g
  rw [leads_app]
  unfold addL leadOf
  by_cases c1 : g = p.en
  · subst c1
    have h' : p.en ≠ p.st := fun z => h z.symm
    simp [h, h']
  · have c1' : p.en ≠ g := fun z => c1 z.symm
    by_cases c2 : g = p.st
    · subst c2
      simp [c1]
    · have c2' : p.st ≠ g := fun z => c2 z.symm
      simp [c1, c2, c1', c2']
theorem lead_len (ls : List PD) (f : Str) : (leadsOf ls f).length ≤ ls.length := by
  unfold leadsOf
  induction ls with
  | nil => simp
  | cons p ls ih =>
    rw [List.flatMap_cons, List.length_append, List.length_cons]
    have : (leadOf p f).length ≤ 1 := by
      unfold leadOf
      split
      · simp
      · split <;> simp
    omega
end L2

set_option linter.all false
set_option maxHeartbeats 4000000
set_option maxRecDepth 100000
namespace L2
open PySem PySem.Spec PyProof.Rows Ch
/-- a found face's way, as it lies in the heap -/
def PWy (H H' : Hp) (wl : Addr) (a : Str × List Pr) (v : V) : Prop := ∃ l xs, v = .ref l ∧ H l = none ∧ l ≠ wl ∧ H' l = some (.lst xs) ∧ All2 (CV H') a.2 xs
/-- the search: what is found, and what waits -/
structure Srch (H : Hp) (ls : List PD) (one : Str) (fd wl : Addr) (H' : Hp) (ws : List (Str × List Pr)) (wt : List Str) : Prop where
  same : Same H H'
  dict : ∃ kvs, H' fd = some (.dK kvs) ∧ BG (·.1) (PWy H H' wl) ws kvs
  nd : (ws.map (·.1)).Nodup
  here : one ∈ ws.map (·.1)
  walk : ∀ a ∈ ws, WalkTo ls one a.2 a.1
  wait : H' wl = some (.lst (wt.map V.str))
  sub : ∀ f ∈ wt, f ∈ ws.map (·.1)
  lw : ∀ a ∈ ws, a.2.length ≤ ws.length
section
variable {H H' H'' : Hp} {ls : List PD} {one : Str} {fd wl : Addr} {ws : List (Str × List Pr)} {wt : List Str}
theorem Srch.len (h : Srch H ls one fd wl H' ws wt) (hl : ls.length ≤ 20) : ws.length ≤ 41 := by
  have := sub_len (ws.map (·.1)) (one :: fcsOf ls) h.nd fun z hz => by
    obtain ⟨a, ha, rfl⟩ := List.mem_map.mp hz
    exact walk_fcs (h.walk a ha)
  rw [List.length_map, List.length_cons, fcs_len] at this
  omega
theorem Srch.grow (h : Srch H ls one fd wl H' ws wt) (S : Same H' H'') : Srch H ls one fd wl H'' ws wt := by
  obtain ⟨kvs, h1, h2⟩ := h.dict
  exact ⟨h.same.trans S, ⟨kvs, S _ _ h1, h2.mono fun a v ⟨l, xs, e, hn, hw, hx, ha⟩ => ⟨l, xs, e, hn, hw, S _ _ hx, ha.mono fun _ _ z => z.sameT S.t⟩⟩, h.nd, h.here, h.walk, S _ _ h.wait, h.sub, h.lw⟩
/-- the list of those that wait changes -/
theorem Srch.wait' {wt' : List Str} (h : Srch H ls one fd wl H' ws wt) (hw : H wl = none) (e : upd H' wl (.lst (wt'.map V.str)) = H'') (hs : ∀ f ∈ wt', f ∈ ws.map (·.1)) : Srch H ls one fd wl H'' ws wt' := by
  obtain ⟨kvs, h1, h2⟩ := h.dict
  have T : SameT H' H'' := SameT.put e h.wait rfl
  have nfw : fd ≠ wl := fun z => by have := h.wait; rw [← z, h1] at this; cases this
  refine ⟨fun b u q => by rw [← e, upd_ne (ne_of_none q hw)]; exact h.same _ _ q, ⟨kvs, by rw [← e, upd_ne nfw]; exact h1, h2.mono fun a v ⟨l, xs, e1, hn, hne, hx, ha⟩ => ⟨l, xs, e1, hn, hne, by rw [← e, upd_ne hne]; exact hx, ha.mono fun _ _ z => z.sameT T⟩⟩, h.nd, h.here, h.walk, by rw [← e, upd_same], hs, h.lw⟩
/-- a face more is found -/
theorem Srch.find {g : Str} {w : List Pr} {l : Addr} {xs : List V} {kvs : List (Key × V)} (h : Srch H ls one fd wl H' ws wt) (hk : H' fd = some (.dK kvs)) (hb : BG (·.1) (PWy H H' wl) ws kvs) (hf : H fd = none) (hg : g ∉ ws.map (·.1)) (hwk : WalkTo ls one w g) (hlw : w.length ≤ ws.length + 1) (hl : H l = none) (hne : l ≠ wl) (hx : H' l = some (.lst xs)) (ha : All2 (CV H') w xs)
    (e : upd H' fd (.dK (putK kvs (Sum.inr g) (.ref l))) = H'') : Srch H ls one fd wl H'' (ws ++ [(g, w)]) wt := by
  have T : SameT H' H'' := SameT.put e hk rfl
  have nfw : wl ≠ fd := fun z => by have := h.wait; rw [z, hk] at this; cases this
  have nl : ∀ {b : Addr} {ys : List V}, H' b = some (.lst ys) → H'' b = some (.lst ys) := fun q => by rw [← e, upd_ne (fun z => by rw [z, hk] at q; cases q)]; exact q
  refine ⟨fun b u q => by rw [← e, upd_ne (ne_of_none q hf)]; exact h.same _ _ q, ⟨_, by rw [← e, upd_same], ?_⟩, ?_, ?_, ?_, nl h.wait, ?_, ?_⟩
  · have := hb.mono (P' := PWy H H'' wl) fun a v ⟨l, xs, e1, hn, hne, hx, ha⟩ => ⟨l, xs, e1, hn, hne, nl hx, ha.mono fun _ _ z => z.sameT T⟩
    exact this.new (a := (g, w)) hg ⟨l, xs, rfl, hl, hne, nl hx, ha.mono fun _ _ z => z.sameT T⟩
  · rw [List.map_append, List.nodup_append]
    refine ⟨h.nd, by simp, fun a ha b hb z => hg ?_⟩
    rw [List.map_cons, List.map_nil, List.mem_singleton] at hb
    have hb : b = g := hb
    rw [← hb, ← z]
    exact ha
  · rw [List.map_append]
    exact List.mem_append.mpr (.inl h.here)
  · intro a ha
    rcases List.mem_append.mp ha with ha | ha
    · exact h.walk a ha
    · rw [List.mem_singleton.mp ha]
      exact hwk
  · intro f hf'
    rw [List.map_append]
    exact List.mem_append.mpr (.inl (h.sub f hf'))
  · intro a ha
    rw [List.length_append, List.length_singleton]
    rcases List.mem_append.mp ha with ha | ha
    · have := h.lw a ha
      omega
    · rw [List.mem_singleton.mp ha]
      exact hlw
end
end L2

set_option linter.all false
set_option maxHeartbeats 4000000
set_option maxRecDepth 100000
namespace L2
open PySem PySem.Spec PyProof.Rows Ch
inductive PR
  | ok (ls : List PD)
  | noPart
  | twice
  | ring
open Classical in
noncomputable def partsW : List PD → List (PD ⊕ D) → PR
  | acc, [] => .ok acc
  | _, .inr _ :: _ => .noPart
  | acc, .inl p :: r => if p.nm ∈ acc.map (·.nm) then .twice else if Conn acc p.st p.en then .ring else partsW (acc ++ [p]) r
inductive GR
  | ok (gs : List GD)
  | noGap
  | twice
  | apart
open Classical in
noncomputable def gapsW (ls : List PD) : List GD → List (GD ⊕ D) → GR
  | acc, [] => .ok acc
  | _, .inr _ :: _ => .noGap
  | acc, .inl g :: r => if g.nm ∈ acc.map (·.nm) then .twice else if Conn ls g.st g.en then gapsW ls (acc ++ [g]) r else .apart
theorem partsW_bad (acc : List PD) (c : D) (r : List (PD ⊕ D)) : partsW acc (.inr c :: r) = .noPart := rfl
theorem partsW_two {acc : List PD} {p : PD} {r : List (PD ⊕ D)} (h : p.nm ∈ acc.map (·.nm)) : partsW acc (.inl p :: r) = .twice := by
  rw [partsW, if_pos h]
theorem partsW_ring {acc : List PD} {p : PD} {r : List (PD ⊕ D)} (h : p.nm ∉ acc.map (·.nm)) (hc : Conn acc p.st p.en) : partsW acc (.inl p :: r) = .ring := by
  rw [partsW, if_neg h, if_pos hc]
theorem partsW_go {acc : List PD} {p : PD} {r : List (PD ⊕ D)} (h : p.nm ∉ acc.map (·.nm)) (hc : ¬ Conn acc p.st p.en) : partsW acc (.inl p :: r) = partsW (acc ++ [p]) r := by
  rw [partsW, if_neg h, if_neg hc]
theorem gapsW_bad (ls : List PD) (acc : List GD) (c : D) (r : List (GD ⊕ D)) : gapsW ls acc (.inr c :: r) = .noGap := rfl
theorem gapsW_two {ls : List PD} {acc : List GD} {g : GD} {r : List (GD ⊕ D)} (h : g.nm ∈ acc.map (·.nm)) : gapsW ls acc (.inl g :: r) = .twice := by
  rw [gapsW, if_pos h]
theorem gapsW_apart {ls : List PD} {acc : List GD} {g : GD} {r : List (GD ⊕ D)} (h : g.nm ∉ acc.map (·.nm)) (hc : ¬ Conn ls g.st g.en) : gapsW ls acc (.inl g :: r) = .apart := by
  rw [gapsW, if_neg h, if_neg hc]
theorem gapsW_go {ls : List PD} {acc : List GD} {g : GD} {r : List (GD ⊕ D)} (h : g.nm ∉ acc.map (·.nm)) (hc : Conn ls g.st g.en) : gapsW ls acc (.inl g :: r) = gapsW ls (acc ++ [g]) r := by
  rw [gapsW, if_neg h, if_pos hc]
/-- the ways of the gaps -/
def WOV (H : Hp) (ls : List PD) (g : GD) (v : V) : Prop := ∃ l xs w, v = .ref l ∧ H l = some (.lst xs) ∧ All2 (CV H) w xs ∧ WalkTo ls g.st w g.en
theorem WOV.same {H H' : Hp} {ls : List PD} {g : GD} {v : V} (S : Same H H') : WOV H ls g v → WOV H' ls g v := fun ⟨l, xs, w, h1, h2, h3, h4⟩ => ⟨l, xs, w, h1, S _ _ h2, h3.mono fun _ _ z => z.sameT S.t, h4⟩
end L2

set_option linter.all false
set_option maxHeartbeats 4000000
set_option maxRecDepth 100000
namespace L2
open PySem PySem.Spec PyProof.Rows Ch
theorem pg_tupK {X : Cx} {K : PySem.W.Frag} {pos : Pos} {es : List Expr} {k : Nat} {t : TGs} {n : Nat} (hK : X.K = K) (hc : X.calm = true) (h : PGs X es t) (hn : (assignEach es X.env).length = n := by rfl) (hst : (assignEach es X.env).findIdx? (·.1) = none := by rfl) : PG X (.Tuple es k pos) (gTup K n t) := by
  subst hK
  exact pg_tup hc h hn hst
abbrev Fr2 := Int × Int
/-- the place among the first n of l -/
def plcIn (l : List Fr2) (x : Fr2) : Nat → Nat
  | 0 => 0
  | n + 1 => if lessF x (l.getD n (0, 1)) then plcIn l x n else n + 1
theorem plcIn_le (l : List Fr2) (x : Fr2) : ∀ n, plcIn l x n ≤ n
  | 0 => Nat.le_refl _
  | n + 1 => by
    unfold plcIn
    split
    · exact Nat.le_succ_of_le (plcIn_le l x n)
    · exact Nat.le_refl _
def insO (l : List Fr2) (x : Fr2) : List Fr2 := l.take (plcIn l x l.length) ++ x :: l.drop (plcIn l x l.length)
theorem insO_len (l : List Fr2) (x : Fr2) : (insO l x).length = l.length + 1 := by
  have := plcIn_le l x l.length
  unfold insO
  rw [List.length_append, List.length_cons, List.length_take, List.length_drop]
  omega
theorem insO_mem {l : List Fr2} {x y : Fr2} (h : y ∈ insO l x) : y = x ∨ y ∈ l := by
  unfold insO at h
  rcases List.mem_append.mp h with h | h
  · exact .inr (List.mem_of_mem_take h)
  · rcases List.mem_cons.mp h with h | h
    · exact .inl h
    · exact .inr (List.mem_of_mem_drop h)
def ordO (ns : List Fr2) : List Fr2 := ns.foldl insO []
theorem ordO_snoc (ns : List Fr2) (x : Fr2) : ordO (ns ++ [x]) = insO (ordO ns) x := by simp [ordO]
theorem ordO_len (ns : List Fr2) : (ordO ns).length = ns.length := by
  have : ∀ (ns l : List Fr2), (ns.foldl insO l).length = l.length + ns.length := fun ns => by
    induction ns with
    | nil => intro l; simp
    | cons x ns ih => intro l; rw [List.foldl_cons, ih, insO_len, List.length_cons]; omega
  simpa [ordO] using this ns []
theorem ordO_mem {ns : List Fr2} {y : Fr2} (h : y ∈ ordO ns) : y ∈ ns := by
  have : ∀ (ns l : List Fr2), y ∈ ns.foldl insO l → y ∈ l ∨ y ∈ ns := fun ns => by
    induction ns with
    | nil => intro l h; exact .inl h
    | cons x ns ih =>
      intro l h
      rcases ih _ h with h | h
      · rcases insO_mem h with rfl | h
        · exact .inr (by simp)
        · exact .inl h
      · exact .inr (by simp [h])
  rcases this ns [] h with h | h
  · simp at h
  · exact h
/-- the level of a slack by a weight -/
def lvl (s : Fr2) (w : Int) : Fr2 := (Mth.top s.1 (s.2 * w), Mth.bot s.1 (s.2 * w))
def lvls (ss : List Fr2) (wts : List Int) : List Fr2 := List.zipWith lvl ss wts
/-- which is fairer, by levels in order -/
def fairB : List Fr2 → List Fr2 → Bool
  | a :: l, b :: m => if a = b then fairB l m else lessF b a
  | _, _ => false
theorem fairB_self : ∀ l : List Fr2, fairB l l = false
  | [] => rfl
  | a :: l => by
    unfold fairB
    rw [if_pos rfl]
    exact fairB_self l
/-- fractions in a list -/
abbrev FrL (K : PySem.W.Frag) (H : Hp) : Fr2 → V → Prop := fun a x => FrV K H x a.1 a.2
end L2

set_option linter.all false
set_option maxHeartbeats 4000000
set_option maxRecDepth 100000
namespace L2
open PySem PySem.Spec PyProof.Rows Ch
section
variable {K : PySem.W.Frag} {k : Nat} {cs : List (Nat × Str)} {g : TG} {te : TE} {ta : TA} {σ : St} {H H1 : Hp} {Q : VK} {a b : Addr} {xs zs : List V}
theorem y38y : tComp k cs (iZip K ta) g te σ H Q = ta σ H fun vs H1 => ∃ a b, vs = [.ref a, .ref b] ∧ (∃ xs, SqL K H1 a xs) ∧ (∃ ys, SqL K H1 b ys) ∧ CompJ (Itz K a b) k cs g te σ Q H1 := rfl
theorem CompJ.zip (Pv : Nat → List V → Hp → Prop) (h0 : Pv 0 [] H1) (hll : zs.length = xs.length) (hl : ∀ i ys H', i ≤ xs.length → Pv i ys H' → SqL K H' a xs ∧ SqL K H' b zs ∧ ys.length ≤ sizeLine)
    (hs : ∀ i x z ys H2 p, xs[i]? = some x → zs[i]? = some z → Pv i ys H2 → H2 p = none → g (.ref p) (List.replicate k none ++ capsAt cs σ) (upd H2 p (.tup [x, z])) fun σ4 H4 => te σ4 H4 fun y H5 => Pv (i + 1) (ys ++ [y]) H5) (hd : ∀ ys H2, Pv xs.length ys H2 → ∀ p, H2 p = none → Q (.ref p) (upd H2 p (.lst ys))) :
    CompJ (Itz K a b) k cs g te σ Q H1 := by
  refine ⟨fun i m ys H' => Pv i ys H' ∧ i ≤ xs.length ∧ m = xs.length - i, ⟨_, h0, Nat.zero_le _, rfl⟩, ?_⟩
  rintro i m ys H2 ⟨hp, hi, rfl⟩
  obtain ⟨h1, h2, h3⟩ := hl i ys H2 hi hp
  refine ⟨h3, ?_⟩
  by_cases c : i < xs.length
  · have c' : i < zs.length := by omega
    refine .inr ⟨⟨xs, zs, _, _, h1, h2, List.getElem?_eq_getElem c, List.getElem?_eq_getElem c'⟩, ?_⟩
    rintro v H3 ⟨p, x, z, hx, hz, hn, rfl, rfl⟩
    have e : (fun (σ4 : St) (H4 : Hp) => te σ4 H4 fun y H5 => Pv (i + 1) (ys ++ [y]) H5) = fun σ4 H4 => te σ4 H4 fun y H5 => ∃ m', m' < xs.length - i ∧ Pv (i + 1) (ys ++ [y]) H5 ∧ i + 1 ≤ xs.length ∧ m' = xs.length - (i + 1) := by
      funext σ4 H4
      congr 1
      funext y H5
      exact propext ⟨fun q => ⟨_, Nat.sub_lt_sub_left c (Nat.lt_succ_self i), q, c, rfl⟩, fun ⟨_, _, q, _⟩ => q⟩
    rw [← e]
    exact hs i x z ys H2 p (hx xs h1) (hz zs h2) hp hn
  · have ei : i = xs.length := by omega
    subst ei
    exact .inl ⟨⟨xs, zs, h1, h2, .inl (Nat.le_refl _)⟩, hd ys H2 hp⟩
end
end L2

set_option linter.all false
set_option maxHeartbeats 4000000
set_option maxRecDepth 100000
namespace L2
open PySem PySem.Spec PyProof.Rows Ch
section
variable {X : Cx}
def rIsB : R2 := fun x y H Q => match x, y with
  | .bl a, .bl b => Q (.bl (decide (a = b))) H
  | x, y => y = .non ∧ Q (.bl (decide (x = .non))) H
theorem op_isB : OpR X (compareOp .Is) rIsB := fun pins s σ H x y v u Q I rx ry q => by
  unfold rIsB at q
  split at q
  · rename_i a b
    cases rx
    cases ry
    refine wpAny_is_plain (by cases a <;> cases b <;> rfl) ⟨.bl (decide (a = b)), H, I, ?_, q⟩
    cases a <;> cases b <;> rfl
  · exact op_isN pins s σ H _ _ v u Q I rx ry q
end
section
variable {K : PySem.W.Frag} {H : Hp} {Q : VK}
theorem y58y {a b : Bool} : rIsB (.bl a) (.bl b) H Q = Q (.bl (decide (a = b))) H := rfl
end
end L2

set_option linter.all false
set_option maxHeartbeats 4000000
set_option maxRecDepth 100000
namespace L2
open PySem PySem.Spec PyProof.Rows Ch
def fc (j : Nat) : Str := ⟨#[102 + j]⟩
theorem fc_inj {i j : Nat} (h : fc i = fc j) : i = j := by
  unfold fc at h
  injection h with h
  have : [102 + i] = [102 + j] := by
    have := congrArg Array.toList h
    simpa using this
  simp at this
  exact this
theorem fc_name {j : Nat} (h : j ≤ 20) : nameS (fc j) = true := by
  unfold nameS fc
  simp [Str.length, lowB]
  omega
/-- the face j and the next one -/
def PathL (ls : List PD) : Prop := ∀ (i : Nat) (p : PD), ls[i]? = some p → p.st = fc i ∧ p.en = fc (i + 1)
theorem path_fcs {ls : List PD} (h : PathL ls) {z : Str} (hz : z ∈ fcsOf ls) : ∃ j, j ≤ ls.length ∧ z = fc j := by
  obtain ⟨p, hp, hm⟩ := List.mem_flatMap.mp hz
  obtain ⟨i, hi⟩ := List.getElem?_of_mem hp
  have li := (List.getElem?_eq_some_iff.mp hi).1
  obtain ⟨h1, h2⟩ := h i p hi
  simp at hm
  rcases hm with rfl | rfl
  · exact ⟨i, by omega, h1⟩
  · exact ⟨i + 1, by omega, h2⟩
theorem path_new {ls : List PD} (h : PathL ls) : ¬ Conn ls (fc ls.length) (fc (ls.length + 1)) := fun ⟨w, hw⟩ => by
  rcases List.mem_cons.mp (walk_fcs hw) with e | e
  · have := fc_inj e
    omega
  · obtain ⟨j, hj, ej⟩ := path_fcs h e
    have := fc_inj ej
    omega
theorem path_conn {ls : List PD} (h : PathL ls) : ∀ j, j ≤ ls.length → Conn ls (fc 0) (fc j)
  | 0, _ => ⟨[], .nil⟩
  | j + 1, hj => by
    obtain ⟨w, hw⟩ := path_conn h j (by omega)
    have lj : j < ls.length := by omega
    obtain ⟨h1, h2⟩ := h j ls[j] (List.getElem?_eq_getElem lj)
    refine ⟨w ++ [(ls[j].nm, true)], .snoc hw ?_⟩
    refine List.mem_flatMap.mpr ⟨ls[j], List.getElem_mem lj, ?_⟩
    unfold leadOf
    rw [if_pos h1, h2]
    simp
/-- names by their last letter but one -/
def NmL (ls : List PD) : Prop := ∀ (i : Nat) (p : PD), ls[i]? = some p → ∃ m, p.nm.cps.toList = List.replicate m 112 ++ [97 + i, 113]
theorem nm_ne {ls : List PD} (h : NmL ls) {m : Nat} {z : Str} (hz : z.cps.toList = List.replicate m 112 ++ [97 + ls.length, 113]) : z ∉ ls.map (·.nm) := fun hm => by
  obtain ⟨p, hp, e⟩ := List.mem_map.mp hm
  obtain ⟨i, hi⟩ := List.getElem?_of_mem hp
  have li := (List.getElem?_eq_some_iff.mp hi).1
  obtain ⟨m', h'⟩ := h i p hi
  have e2 : p.nm = z := e
  rw [e2, hz] at h'
  have e1 : List.replicate m 112 ++ [97 + ls.length, 113] = (List.replicate m 112 ++ [97 + ls.length]) ++ [113] := by simp
  have e3 : List.replicate m' 112 ++ [97 + i, 113] = (List.replicate m' 112 ++ [97 + i]) ++ [113] := by simp
  rw [e1, e3] at h'
  have h2 := (List.append_inj' h' rfl).1
  have h3 := (List.append_inj' h2 rfl).2
  simp at h3
  omega
theorem gaps_nd {gs : List GD} (h2 : gs.length ≤ 2) (hN : ∀ (j : Nat) (g : GD), gs[j]? = some g → g.nm.cps.toList = [103 + j, 97, 112]) : (gs.map (·.nm)).Nodup := by
  match gs, h2, hN with
  | [], _, _ => simp
  | [g], _, _ => simp
  | [g, g'], _, hN =>
    have h0 := hN 0 g rfl
    have h1 := hN 1 g' rfl
    simp
    intro z
    rw [z, h1] at h0
    simp at h0
theorem All2.map {α β : Type} {P : α → V → Prop} {P' : β → V → Prop} {f : α → β} : ∀ {as : List α} {xs : List V}, All2 P as xs → (∀ a ∈ as, ∀ x, P a x → P' (f a) x) → All2 P' (as.map f) xs
  | [], xs, h, _ => h
  | a :: as, xs, h, m => by
    obtain ⟨x, r, rfl, h1, h2⟩ := h
    exact ⟨x, r, rfl, m a (by simp) x h1, All2.map h2 fun b hb => m b (by simp [hb])⟩
theorem parts_path : ∀ (ls acc : List PD), PathL (acc ++ ls) → NmL (acc ++ ls) → partsW acc (ls.map Sum.inl) = .ok (acc ++ ls)
  | [], acc, _, _ => by
    rw [List.map_nil, partsW, List.append_nil]
  | p :: ls, acc, hp, hn => by
    have ea : acc ++ p :: ls = (acc ++ [p]) ++ ls := by simp
    have at_ : (acc ++ p :: ls)[acc.length]? = some p := by simp
    have pa : PathL acc := fun i q hi => hp i q (by rw [List.getElem?_append_left (List.getElem?_eq_some_iff.mp hi).1]; exact hi)
    have na : NmL acc := fun i q hi => hn i q (by rw [List.getElem?_append_left (List.getElem?_eq_some_iff.mp hi).1]; exact hi)
    obtain ⟨h1, h2⟩ := hp _ _ at_
    obtain ⟨m, h3⟩ := hn _ _ at_
    rw [List.map_cons, partsW_go (nm_ne na h3) (by rw [h1, h2]; exact path_new pa), parts_path ls (acc ++ [p]) (by rw [← ea]; exact hp) (by rw [← ea]; exact hn), ea]
theorem gaps_ok {ls : List PD} : ∀ (gs acc : List GD), ((acc ++ gs).map (·.nm)).Nodup → (∀ g ∈ gs, Conn ls g.st g.en) → gapsW ls acc (gs.map Sum.inl) = .ok (acc ++ gs)
  | [], acc, _, _ => by
    rw [List.map_nil, gapsW, List.append_nil]
  | g :: gs, acc, hn, hc => by
    have ea : acc ++ g :: gs = (acc ++ [g]) ++ gs := by simp
    have ne : g.nm ∉ acc.map (·.nm) := by
      have h2 := hn
      rw [List.map_append, List.map_cons, List.nodup_append] at h2
      exact fun z => h2.2.2 _ z _ (by simp) rfl
    rw [List.map_cons, gapsW_go ne (hc g (by simp)), gaps_ok gs (acc ++ [g]) (by rw [← ea]; exact hn) (fun u hu => hc u (by simp [hu])), ea]
end L2

set_option linter.all false
set_option maxHeartbeats 4000000
set_option maxRecDepth 100000
namespace L2
open PySem PySem.Spec PyProof.Rows Ch
section
variable {prog : Program} {w : World} {A : Around} {E : Value → Shared → Prop} {s : Shared}
theorem call_hint_ri {I : Addr} {a c : Int} {n : Int} {Q : Value → Shared → Prop} (hit : IsRangeIter s.heap I a n c) (h : ∀ u tk, Q (.int n u) { s with toks := tk }) : wpAny (model prog w) A (call (.builtin "range_iterator.__length_hint__") [.ref I]) Q E s := by
  have ty : s.TypeIs (.ref I) "range_iterator" := ⟨_, hit, rfl⟩
  refine wpAny_call_entry PySem.F.slot_range_iterator_length_hint ty PySem.F.entry_range_iterator_length_hint ?_ (PySem.F.args_range_iterator_length_hint_1 _)
  unfold Builtin.«range_iterator.__length_hint__»
  refine wpAny_bind (wpAny_of_eq (a := Value.ref I) rfl ?_)
  refine wpAny_bind (wpAny_field hit rfl (x := rawInt n) rfl ?_)
  show wpAny _ _ (retInt n) _ _ _
  unfold retInt
  refine wpAny_bind (wpAny_mkInt (wpAny_pure ⟨_, rfl, h _ _⟩))
theorem ri_extend {I : Addr} {a c : Int} {n : Nat} {R : Result → Shared → Prop} (hh : A.handled = none) (hit : IsRangeIter s.heap I a (n : Int) c) (hn : n ≤ sizeLine) (S : Addr) (hSI : S ≠ I) (res : Value) (c₀ : Nat) (hS : s.heap.get? S = some { cls := .type "list", data := .seq #[] c₀ })
    (hR : ∀ h' tk acc' c', (∀ b o, b ≠ S → b ≠ I → s.heap.get? b = some o → h'.get? b = some o) → h'.get? S = some { cls := .type "list", dict := none, data := .seq acc' c', slots := #[] } → ItemsOf (fun i v => ∃ t, v = .int (a + i * c) t) acc' n → R (.ok (.ret res)) { s with heap := h', toks := tk }) :
    wpAny (model prog w) A.in1 (Builtin.List.listExtendWith (.ref S) (.ref I) res)
      (fun fin s' => match fin with | .done f => R (.ok f) s' | .again c' => c'.quiet = true ∧ codeAny (model prog w) A c' R s') (fun e s' => R (.error e) s') s := by
  have ty : s.TypeIs (.ref I) "range_iterator" := ⟨_, hit, rfl⟩
  have h1 : Builtin.List.listSameRef (.ref S) (.ref I) = false := by simp [Builtin.List.listSameRef, hSI]
  have W := (Walks.range (prog := prog) (w := w) (A := A.in1) hh I a c n)
  have hSf : S ∉ [I] := by simp [hSI]
  unfold Builtin.List.listExtendWith
  refine wpAny_bind (wpAny_typeOf ty ?_)
  rw [if_neg (by rw [h1]; decide)]
  have st : IsRangeIter s.heap I (a + ((0 : Nat) : Int) * c) ((n : Int) - ((0 : Nat) : Int)) c := by
    rw [show a + ((0 : Nat) : Int) * c = a by simp, show (n : Int) - ((0 : Nat) : Int) = n by simp]
    exact hit
  refine wpAny_bind (W.self 0 _ _ _ st ?_)
  refine wpAny_bind (wpAny_holding ?_)
  unfold Builtin.List.listLengthHint
  refine wpAny_bind (wpAny_specialOf ty PySem.F.nolen_ra ?_)
  show wpAny _ A.in1 (specialOf (Value.ref I) (Str.ofString "__length_hint__") >>= _) _ _ _
  refine wpAny_bind (wpAny_specialOf ty PySem.F.hint_ra ?_)
  (generalize hid : ("range_iterator.__length_hint__" : String) = id0; (fail_if_success (clear hid id0)); wp_delta; rw [show splitId id0 = some ("range_iterator", "__length_hint__") from by subst hid; decide +kernel]; subst hid)
  refine wpAny_bind (wpAny_isInstance (b := true) ty (by rw [isSubtype_type]; kernel_rfl) ?_)
  show wpAny _ A.in1 (call (.builtin "range_iterator.__length_hint__") [.ref I] >>= _) _ _ _
  refine wpAny_bind (call_hint_ri hit fun u tk => ?_)
  refine wpAny_bind (m := asInt? (.int (n : Int) u)) (wpAny_pure ?_)
  dsimp only
  have hk : Builtin.List.listTooLong (n : Int).toNat = false := by
    unfold Builtin.List.listTooLong
    rw [Int.toNat_natCast]
    exact decide_eq_false (by omega)
  rw [if_neg (by rw [hk]; decide)]
  refine wpAny_pure ?_
  rw [if_neg (by decide)]
  refine wpAny_pure ⟨plainId_quiet PySem.F.plain_extend_loop _, codeAny_extend_loopS W.toS hn _ hSf _ n 0 _ _ _ rfl (Nat.zero_le _) st hS (ItemsOf.nil _) fun s' acc' c' hm hS' hacc => ?_⟩
  rw [Moved.eq_with hm]
  refine hR s'.heap s'.toks acc' c' (fun b o hb hb2 e => hm.heap b o (fun hmem => ?_) e) hS' hacc
  rcases List.mem_cons.mp hmem with e' | hmem
  · exact hb e'
  · exact hb2 (List.mem_singleton.mp hmem)
theorem ri_list {I : Addr} {a c : Int} {n : Nat} {Q : Value → Shared → Prop} (hh : A.handled = none) (hit : IsRangeIter s.heap I a (n : Int) c) (hn : n ≤ sizeLine)
    (hQ : ∀ h' tk acc' c', (∀ b o, b ≠ I → s.heap.get? b = some o → h'.get? b = some o) → h'.get? s.heap.objs.size = some { cls := .type "list", dict := none, data := .seq acc' c', slots := #[] } → ItemsOf (fun i v => ∃ t, v = .int (a + i * c) t) acc' n → Q (.ref s.heap.objs.size) { s with heap := h', toks := tk }) :
    wpAny (model prog w) A (call (.type "list") [.ref I]) Q E s := by
  refine callType_codes (Q₁ := fun obj s₁ => obj = .ref s.heap.objs.size ∧ s₁ = { s with heap := s.heap.push { cls := .type "list", data := .seq #[] } }) PySem.F.called_list (PySem.F.typeCall_list_1 _) PySem.F.entry_list_init
    (code_list_new _ ⟨rfl, rfl⟩) fun obj s₁ h₁ => ?_
  obtain ⟨rfl, rfl⟩ := h₁
  have hS : (s.heap.push { cls := .type "list", data := .seq #[] }).get? s.heap.objs.size = some { cls := .type "list", data := .seq #[] } := Heap.get?_push_size _ rfl
  have hlt := Heap.lt_size hit
  have hSI : s.heap.objs.size ≠ I := Nat.ne_of_gt hlt
  refine ⟨⟨_, hS, rfl⟩, PySem.F.args_list_init_2 _ _, ?_⟩
  show wpAny _ _ (do let old ← Builtin.List.listItems (.ref s.heap.objs.size); Builtin.List.listUpdate (.ref s.heap.objs.size) (fun _ => #[]); letGo old.toList.reverse; Builtin.List.listExtendWith (.ref s.heap.objs.size) (.ref I) .none) _ _ _
  refine wpAny_bind ?_
  unfold Builtin.List.listItems
  refine wpAny_bind (wpAny_seqItems hS rfl (wpAny_pure ?_))
  show wpAny _ _ (updateSeq s.heap.objs.size (fun _ => #[]) >>= fun _ => letGo (#[] : Array Value).toList.reverse >>= fun _ => Builtin.List.listExtendWith (.ref s.heap.objs.size) (.ref I) .none) _ _ _
  refine wpAny_bind (wpAny_updateSeq hS rfl ?_)
  have hS₂ := Heap.get?_update_self (Obj.mapSeq (fun _ => (#[] : Array Value))) hS rfl
  refine wpAny_bind (wpAny_letGo ?_)
  refine ri_extend (A := A.in1) hh (a := a) (c := c) (n := n) ((Heap.get?_update_other _ _ hSI).trans (Heap.get?_push_of_some _ hit)) hn s.heap.objs.size hSI .none _ hS₂ fun h' tk acc' c' hk hS' hacc => ?_
  refine ⟨rfl, hQ h' tk acc' c' (fun b o hb e => ?_) hS' hacc⟩
  have hb2 : b ≠ s.heap.objs.size := Nat.ne_of_lt (Heap.lt_size e)
  exact hk b o hb2 hb ((Heap.get?_update_other _ _ (Ne.symm hb2)).trans (Heap.get?_push_of_some _ e))
theorem call_range_reversed {r : Addr} {b : Int} {t u v : Tok} {Q : Value → Shared → Prop} (hr : IsRange s.heap r 0 b 1 t u v) (h0 : 0 ≤ b) (hb : b < 100000)
    (h : Q (.ref s.heap.objs.size) { s with heap := s.heap.push { cls := .type "range_iterator", data := .fields #[rawInt (b - 1), rawInt b, rawInt (-1)] } }) : wpAny (model prog w) A (call (.builtin "range.__reversed__") [.ref r]) Q E s := by
  have ty : s.TypeIs (.ref r) "range" := ⟨_, hr, rfl⟩
  refine wpAny_call_entry PySem.F.slot_range_reversed ty PySem.F.entry_range_reversed ?_ (PySem.F.args_range_reversed_1 _)
  unfold Builtin.«range.__reversed__»
  refine wpAny_bind (wpAny_of_eq (a := Value.ref r) rfl ?_)
  refine wpAny_bind ?_
  unfold Builtin.Range.rangeFields
  refine wpAny_bind (wpAny_field hr rfl (x := .int 0 t) rfl ?_)
  refine wpAny_bind (m := asInt? (.int 0 t)) (wpAny_pure ?_)
  refine wpAny_bind (wpAny_field hr rfl (x := .int b u) rfl ?_)
  refine wpAny_bind (m := asInt? (.int b u)) (wpAny_pure ?_)
  refine wpAny_bind (wpAny_field hr rfl (x := .int 1 v) rfl ?_)
  refine wpAny_bind (m := asInt? (.int 1 v)) (wpAny_pure ?_)
  refine wpAny_pure ?_
  dsimp only
  have e : Builtin.Range.rangeSize 0 b 1 = b := by rw [rangeSize_one]; split <;> omega
  have es : (Builtin.Range.rangeFitsLong 0 && Builtin.Range.rangeFitsLong b && Builtin.Range.rangeFitsLong 1 && Builtin.Range.rangeFitsLong (-1) && Builtin.Range.rangeFitsLong (0 - 1) && Builtin.Range.rangeFitsLong b) = true := by
    simp only [Builtin.Range.rangeFitsLong, Bool.and_eq_true, decide_eq_true_eq]
    omega
  rw [e, es]
  refine wpAny_ite_split (fun z => absurd z (by decide)) (fun _ => ?_)
  unfold newFields
  refine wpAny_bind (wpAny_newObj_type (wpAny_pure ⟨_, rfl, ?_⟩))
  rw [show (0 : Int) + (b - 1) * 1 = b - 1 by omega]
  exact h
end
end L2

set_option linter.all false
set_option maxHeartbeats 4000000
set_option maxRecDepth 100000
namespace L2
open PySem PySem.Spec PyProof.Rows Ch
section
variable {prog : Program} {w : World} {A : Around} {E : Value → Shared → Prop} {s : Shared}
theorem sub_ri_reversed : isSubtype (.type "range_iterator") (.type "reversed") = pure false := by rw [isSubtype_type]; kernel_rfl
theorem code_rev_range {r : Addr} {b : Int} {t u v : Tok} {Q₁ : Value → Shared → Prop} (hr : IsRange s.heap r 0 b 1 t u v) (h0 : 0 ≤ b) (hb : b < 100000)
    (h : Q₁ (.ref s.heap.objs.size) { s with heap := s.heap.push { cls := .type "range_iterator", data := .fields #[rawInt (b - 1), rawInt b, rawInt (-1)] } }) :
    codeAny (model prog w) A (.call (.builtin "reversed.__new__") ⟨[.type "reversed", .ref r], []⟩) (wants Q₁ E) s := by
  have ty : s.TypeIs (.ref r) "range" := ⟨_, hr, rfl⟩
  refine codeAny_of_tree ?_
  show wpAny _ A.in1 (do checkBuiltinCall "reversed.__new__" ⟨[.type "reversed", .ref r], []⟩; again (.builtin "reversed.__new__" ⟨[.type "reversed", .ref r], []⟩)) _ _ s
  refine wpAny_bind (wpAny_of_eq (PySem.F.newCall_reversed_1 _) (wpAny_pure ⟨plainId_quiet PySem.F.plain_reversed_new _, codeAny_builtin PySem.F.entry_reversed_new ?_⟩))
  rw [Around.under_plainId PySem.F.plain_reversed_new _]
  unfold Builtin.«reversed.__new__»
  refine wpAny_bind (wpAny_of_eq (newClass_reversed _) ?_)
  try dsimp only
  refine wpAny_bind (wpAny_of_eq (a := ()) (by first | rfl | kernel_rfl) ?_)
  refine wpAny_bind (wpAny_of_eq (a := ()) (by first | rfl | kernel_rfl) ?_)
  try dsimp only
  refine wpAny_bind (wpAny_specialOf ty PySem.F.slot_range_reversed.lookup ?_)
  try dsimp only
  refine wpAny_bind (wpAny_of_eq (PySem.F.slot_range_reversed.bind _) ?_)
  try dsimp only
  first
  | rw [if_neg (show ¬ ((Value.builtin "range.__reversed__" == Value.none) = true) from Bool.false_ne_true)]
  | (show wpAny _ _ (if (Value.builtin "range.__reversed__" == Value.none) = true then _ else _) _ _ _; rw [if_neg (show ¬ ((Value.builtin "range.__reversed__" == Value.none) = true) from Bool.false_ne_true)])
  refine wpAny_bind (wpAny_rule ?_)
  refine wpAny_bind (m := runValue (.call (.builtin "range.__reversed__") ⟨[.ref r], []⟩)) (show wpAny _ _ (call (.builtin "range.__reversed__") [.ref r]) _ _ _ from call_range_reversed hr h0 hb ?_)
  first
  | exact wpAny_pure h
  | exact wpAny_bind (wpAny_pure (wpAny_pure h))
theorem call_rev_range {r : Addr} {b : Int} {t u v : Tok} {Q : Value → Shared → Prop} (hr : IsRange s.heap r 0 b 1 t u v) (h0 : 0 ≤ b) (hb : b < 100000)
    (h : Q (.ref s.heap.objs.size) { s with heap := s.heap.push { cls := .type "range_iterator", data := .fields #[rawInt (b - 1), rawInt b, rawInt (-1)] } }) : wpAny (model prog w) A (call (.type "reversed") [.ref r]) Q E s := by
  refine callType_other (U := "range_iterator") (Q₁ := fun obj s₁ => obj = .ref s.heap.objs.size ∧ s₁ = { s with heap := s.heap.push { cls := .type "range_iterator", data := .fields #[rawInt (b - 1), rawInt b, rawInt (-1)] } }) (by decide +kernel) PySem.F.create_reversed ⟨_, _, PySem.F.mro_reversed⟩ PySem.F.made_reversed sub_ri_reversed (PySem.F.typeCall_reversed_1 _) (code_rev_range hr h0 hb ⟨rfl, rfl⟩) ?_
  rintro obj s₁ ⟨rfl, rfl⟩
  exact ⟨⟨_, Heap.get?_push_size _ rfl, rfl⟩, h⟩
end
section
variable {X : Cx}
def revL (n : Nat) : List V := (List.range n).map fun i : Nat => V.int ((n : Int) - 1 - (i : Int))
/-- list(reversed(range(n))) -/
def tRevR (ta : TA) : TE := fun σ H Q => ta σ H fun vs H1 => ∃ n : Nat, vs = [.int n] ∧ n ≤ 1000 ∧ ∀ l, H1 l = none → Q (.ref l) (upd H1 l (.lst (revL n)))
theorem rel_int {x : Int} {t : Tok} : RelV (.int x) (.int x t) := ⟨t, rfl⟩
theorem revs : ∀ (f : Nat → Int) (us : List Value) (xs : List V), us.length = xs.length → (∀ i u, us[i]? = some u → ∃ t, u = Value.int (f i) t) → (∀ i x, xs[i]? = some x → x = V.int (f i)) → Vals xs us
  | f, [], [], _, _, _ => .nil
  | f, u :: us, x :: xs, hl, h1, h2 => .cons (by
      obtain ⟨t, rfl⟩ := h1 0 u rfl
      rw [h2 0 x rfl]
      exact rel_int) (revs (fun i => f (i + 1)) us xs (by simpa using hl) (fun i v hv => h1 (i + 1) v (by simpa using hv)) fun i v hv => h2 (i + 1) v (by simpa using hv))
  | _, [], _ :: _, hl, _, _ => by simp at hl
  | _, _ :: _, [], hl, _, _ => by simp at hl
theorem pe_revr {e : Expr} {t : TA} {p1 p2 p3 pos pos2 pos3 : Pos} {x y z : Str} (hc : X.calm = true) (hx : x = "list") (hy : y = "reversed") (hz : z = "range")
    (hg : Gl X x) (hm : X.mg x = none) (hv : bootBuiltins x = some (.type "list")) (hg2 : Gl X y) (hm2 : X.mg y = none) (hv2 : bootBuiltins y = some (.type "reversed")) (hg3 : Gl X z) (hm3 : X.mg z = none) (hv3 : bootBuiltins z = some (.type "range")) (ha : PA X [e] t)
    (he : starEach [e] X.env = (false, eval e X.env) :: starEach [] X.env := by rfl) :
    PE X (.Call (.Name x p1) [.Call (.Name y p2) [.Call (.Name z p3) [e] [] pos3] [] pos2] [] pos) (tRevR t) := by
  intro pins s σ H Q I h
  have nx : x ≠ "__name__" := by rw [hx]; decide
  have ny : y ≠ "__name__" := by rw [hy]; decide
  have nz : z ≠ "__name__" := by rw [hz]; decide
  have dx : (x == ("__debug__" : Str)) = false := by rw [hx]; decide
  have dy : (y == ("__debug__" : Str)) = false := by rw [hy]; decide
  have dz : (z == ("__debug__" : Str)) = false := by rw [hz]; decide
  refine wpAny_Call_Name_kw (ld_blt I hg hm hv ?_ nx dx)
  refine PyProof.Rows.callWith_type1 ?_ rfl rfl
  show wpAny _ _ (spliced ((false, eval (.Call (.Name y p2) [.Call (.Name z p3) [e] [] pos3] [] pos2) X.env) :: backTo pos (starEach [] X.env))) _ _ s
  refine Calls.spliced_cons ?_
  refine wpAny_Call_Name_kw (ld_blt I hg2 hm2 hv2 ?_ ny dy)
  refine PyProof.Rows.callWith_type1 ?_ rfl rfl
  show wpAny _ _ (spliced ((false, eval (.Call (.Name z p3) [e] [] pos3) X.env) :: backTo pos2 (starEach [] X.env))) _ _ s
  refine Calls.spliced_cons ?_
  refine wpAny_Call_Name_kw (ld_blt I hg3 hm3 hv3 ?_ nz dz)
  refine PyProof.Rows.callWith_type1 (thn (ha pos3 pins s σ H _ I h) fun us s1 ⟨vs, H1, I1, r1, q1⟩ => ?_) he rfl
  obtain ⟨n, rfl, hn, q⟩ := q1
  obtain ⟨u, rfl, rx⟩ := vals1 r1
  obtain ⟨tk0, rfl⟩ := rx
  have sl : (1000 : Nat) ≤ sizeLine := by decide
  refine call_range_1 (Calls.spliced_nil ?_)
  refine call_rev_range (IsRange.new _ _ _ _ _ _ _) (by omega) (by omega) (Calls.spliced_nil ?_)
  generalize hh1 : s1.heap.push _ = h1
  have z1 : h1.objs.size = s1.heap.objs.size + 1 := by rw [← hh1]; exact Heap.size_push ..
  have k1 : ∀ b o, s1.heap.get? b = some o → h1.get? b = some o := fun b o z => by rw [← hh1]; exact Heap.get?_push_of_some _ z
  generalize hh2 : h1.push _ = h2
  have hit : IsRangeIter h2 h1.objs.size ((n : Int) - 1) (n : Int) (-1) := by rw [← hh2]; exact Heap.get?_push_size _ rfl
  have z2 : h2.objs.size = s1.heap.objs.size + 2 := by rw [← hh2, Heap.size_push, z1]
  have k2 : ∀ b o, s1.heap.get? b = some o → h2.get? b = some o := fun b o z => by rw [← hh2]; exact Heap.get?_push_of_some _ (k1 b o z)
  refine ri_list (I.ok.hd hc) hit (by omega) fun h' tk acc' c' k hD hacc => ?_
  have kk : ∀ b o, s1.heap.get? b = some o → h'.get? b = some o := fun b o z => k b o (Nat.ne_of_lt (by rw [z1]; exact Nat.lt_succ_of_lt (Heap.lt_size z))) (k2 b o z)
  have sz : s1.heap.objs.size ≤ h2.objs.size := by omega
  have vv : Vals (revL n) acc'.toList := revs (fun i => (n : Int) - 1 - i) _ _ (by rw [Array.length_toList, hacc.1]; unfold revL; simp) (fun i u hu => by
      obtain ⟨t, rfl⟩ := hacc.2 i u (by rw [← Array.getElem?_toList]; exact hu)
      exact ⟨t, by congr 1; omega⟩) fun i x hx => by
    unfold revL at hx
    rw [List.getElem?_map] at hx
    cases hq : (List.range n)[i]? with
    | none => rw [hq] at hx; cases hx
    | some j =>
      rw [hq] at hx
      obtain ⟨_, ej⟩ := List.getElem?_eq_some_iff.mp hq
      rw [List.getElem_range] at ej
      subst ej
      exact (Option.some.inj hx).symm
  exact ⟨.ref _, _, I1.laid (t' := tk) (o := .lst (revL n)) kk sz (show ObjOk X.prog X.w _ h' _ (.lst (revL n)) from ⟨by unfold revL; simp; omega, acc'.toList, c', vv, by rw [Array.toArray_toList]; exact hD⟩), rfl, q _ (I1.hok.fresh sz)⟩
end
def Ite (K : PySem.W.Frag) (a : Addr) : It :=
  ⟨fun i H => ∃ xs x, SqL K H a xs ∧ xs[i]? = some x,
   fun i H v H' => ∃ p x, (∀ xs, SqL K H a xs → xs[i]? = some x) ∧ H p = none ∧ v = .ref p ∧ H' = upd H p (.tup [.int i, x]),
   fun i H => ∃ xs, SqL K H a xs ∧ xs.length ≤ i⟩
theorem turn_enum {P : Program} {w : World} {K : PySem.W.Frag} {elts : List Expr} {x1 : Nat} {tp : Pos} {e it a : Addr} (hei : e ≠ it) (hae : a ≠ e) (hai : a ≠ it) :
    Turn P w K (.Tuple elts x1 tp) (Ite K a) [e, it] e (fun i h => (∃ old, IsEnum h e it i old) ∧ h.IsListIter it a i) where
  mem := by simp
  obj := fun i h st c hc => by
    obtain ⟨⟨old, he⟩, h1⟩ := st
    simp only [List.mem_cons, List.not_mem_nil, or_false] at hc
    rcases hc with rfl | rfl
    · exact ⟨_, he, fun v z => by cases z⟩
    · obtain ⟨o, e, c, d⟩ := h1; exact ⟨o, e, fun v z => by rw [d] at z; cases z⟩
  keep := fun i h h' st k => by
    obtain ⟨⟨old, he⟩, h1⟩ := st
    exact ⟨⟨old, k e (by simp) _ he⟩, h1.at fun o z => k it (by simp) o z⟩
  item := by
    intro X hP hw hK hc i pins s σ H E I hf st hg
    subst hP hw hK
    obtain ⟨⟨old, he⟩, h1⟩ := st
    obtain ⟨xs, x, sx, hx⟩ := hg
    obtain ⟨its, rx, px, zx⟩ := I.list sx
    obtain ⟨ux, hux, rux⟩ := rx.get hx
    refine wpAny_pyNext_enum_item he h1 px.isList (x := ux) (by simpa using hux) hei fun h' a1 a2 a3 a4 hk => ?_
    refine ⟨_, rfl, ?_⟩
    refine wpAny_letOwnedTupleGo_enum (s := { s with heap := h', toks := s.toks + 1 }) a1 fun h2' hz' hs' => ?_
    have lt : ∀ {c o}, s.heap.get? c = some o → c ≠ s.heap.objs.size := fun e => Nat.ne_of_lt (Heap.lt_size e)
    have nz : s.heap.objs.size ≠ e := fun q => lt he q.symm
    have I1 : Inv X pins σ H { s with heap := h2', toks := s.toks + 1 } := I.turnedL (ch := [e, it]) (fun c o hc z => by
      simp only [List.mem_cons, List.not_mem_nil, or_false, not_or] at hc
      exact hs'.extBut _ _ hc.1 (hk c o hc.1 hc.2 z)) hf
    have fr : H s.heap.objs.size = none := I.hok.fresh (Nat.le_refl _)
    have hT : h2'.get? s.heap.objs.size = some { cls := .type "tuple", data := .seq #[.int i s.toks, ux] } := hs'.extBut _ _ nz a3
    have I2 := I1.track (a := s.heap.objs.size) (o := .tup [.int i, x]) fr (Heap.get?_none_of_le I.sz) (Nat.ne_of_gt I.lt) (fun n c e q => by
      obtain ⟨v, o, ho, _⟩ := I.cell n c e
      exact lt ho q) (fun p hp q => lt (I.pin p hp).1 q) ⟨by show 2 ≤ sizeLine; decide, [.int i s.toks, ux], .cons rel_int (.cons rux .nil), ⟨_, hT, rfl, _, rfl⟩⟩
    refine ⟨.ref s.heap.objs.size, _, I2, rfl, ⟨_, x, fun zs q => by rw [I.list_inj q sx]; exact hx, fr, rfl, rfl⟩, ?_, fun c hc => ?_⟩
    · exact ⟨⟨_, by simpa using hz'⟩, a2.extBut hs'.extBut hei.symm⟩
    · have ne : c ≠ s.heap.objs.size := by
        simp only [List.mem_cons, List.not_mem_nil, or_false] at hc
        rcases hc with rfl | rfl
        · exact lt he
        · obtain ⟨o, e, _⟩ := h1; exact lt e
      rw [upd_ne ne]
      exact (hf c hc).1
  done := by
    intro X hP hw hK hc i pins s σ H E I hf st hg
    subst hP hw hK
    obtain ⟨⟨old, he⟩, h1⟩ := st
    obtain ⟨xs, sx, hl⟩ := hg
    obtain ⟨its, rx, px, zx⟩ := I.list sx
    have lx := rx.length
    refine wpAny_pyNext_enum_end (I.ok.hd hc) he h1 px.isList (by simp; omega) fun h' hk => ⟨rfl, ?_⟩
    exact I.turnedL (t' := s.toks) (ch := [e, it]) (fun c o hc z => by
      simp only [List.mem_cons, List.not_mem_nil, or_false, not_or] at hc
      exact hk c o hc.2 z) hf
  self := fun A i s Q E st q => by
    obtain ⟨⟨old, he⟩, _⟩ := st
    exact wpAny_pyIter_enum he q
section
variable {X : Cx} {elts : List Expr} {x1 : Nat} {tp : Pos}
def iEnum (K : PySem.W.Frag) (ta : TA) : TI := fun σ H R => ta σ H fun vs H1 => ∃ a, vs = [.ref a] ∧ (∃ xs, SqL K H1 a xs) ∧ R (Ite K a) H1
theorem pi_enum {a : Expr} {ta : TA} {p pos : Pos} (hg : Gl X "enumerate") (hm : X.mg "enumerate" = none) (hv : bootBuiltins "enumerate" = some (.type "enumerate")) (ha : PA X [a] ta)
    (he : starEach [a] X.env = (false, eval a X.env) :: starEach [] X.env := by rfl) :
    PI X (.Tuple elts x1 tp) (.Call (.Name "enumerate" p) [a] [] pos) (iEnum X.K ta) := by
  intro pins s σ H R I h
  refine wpAny_Call_Name_kw (ld_blt I hg hm hv ?_)
  refine PyProof.Rows.callWith_type1 (thn (ha pos pins s σ H _ I h) fun us s1 ⟨vs, H1, I1, r1, q1⟩ => ?_) he rfl
  obtain ⟨l1, e, ⟨xs, sx⟩, q⟩ := q1
  subst e
  obtain ⟨u, rfl, ru⟩ := vals1 r1
  cases (show u = Value.ref l1 from ru)
  obtain ⟨its, rx, px, zx⟩ := I1.list sx
  have n1 : l1 < s1.heap.objs.size := by obtain ⟨_, e, _⟩ := px.isList; exact Heap.lt_size e
  refine call_enumerate_list px.isList fun h' b1 b2 b3 hk => ?_
  refine wpAny_pyIter_enum b1 ?_
  refine ⟨s1.heap.objs.size + 1, [s1.heap.objs.size + 1, s1.heap.objs.size], _, _, H1, rfl, I1.kept (t' := s1.toks) hk, turn_enum (a := l1) (Nat.ne_of_gt (Nat.lt_succ_self _)) (Nat.ne_of_lt (Nat.lt_succ_of_lt n1)) (Nat.ne_of_lt n1), ⟨⟨_, b1⟩, b2⟩, fun c hc => ?_, q⟩
  have hge : s1.heap.objs.size ≤ c := by
    simp only [List.mem_cons, List.not_mem_nil, or_false] at hc
    rcases hc with rfl | rfl
    · exact Nat.le_add_right _ _
    · exact Nat.le_refl _
  exact I1.fpOk hge (I1.hok.fresh hge)
end
section
variable {K : PySem.W.Frag} {k : Nat} {cs : List (Nat × Str)} {g : TG} {te : TE} {ta : TA} {σ : St} {H H1 : Hp} {Q : VK} {a : Addr} {xs : List V}
theorem y34y : tComp k cs (iEnum K ta) g te σ H Q = ta σ H fun vs H1 => ∃ a, vs = [.ref a] ∧ (∃ xs, SqL K H1 a xs) ∧ CompJ (Ite K a) k cs g te σ Q H1 := rfl
theorem y7cy {t : TA} : tRevR t σ H Q = t σ H fun vs H1 => ∃ n : Nat, vs = [.int n] ∧ n ≤ 1000 ∧ ∀ l, H1 l = none → Q (.ref l) (upd H1 l (.lst (revL n))) := rfl
theorem CompJ.enum (Pv : Nat → List V → Hp → Prop) (h0 : Pv 0 [] H1) (hl : ∀ i ys H', i ≤ xs.length → Pv i ys H' → SqL K H' a xs ∧ ys.length ≤ sizeLine)
    (hs : ∀ i x ys H2 p, xs[i]? = some x → Pv i ys H2 → H2 p = none → g (.ref p) (List.replicate k none ++ capsAt cs σ) (upd H2 p (.tup [.int i, x])) fun σ4 H4 => te σ4 H4 fun y H5 => Pv (i + 1) (ys ++ [y]) H5) (hd : ∀ ys H2, Pv xs.length ys H2 → ∀ p, H2 p = none → Q (.ref p) (upd H2 p (.lst ys))) :
    CompJ (Ite K a) k cs g te σ Q H1 := by
  refine ⟨fun i m ys H' => Pv i ys H' ∧ i ≤ xs.length ∧ m = xs.length - i, ⟨_, h0, Nat.zero_le _, rfl⟩, ?_⟩
  rintro i m ys H2 ⟨hp, hi, rfl⟩
  obtain ⟨h1, h3⟩ := hl i ys H2 hi hp
  refine ⟨h3, ?_⟩
  by_cases c : i < xs.length
  · refine .inr ⟨⟨xs, _, h1, List.getElem?_eq_getElem c⟩, ?_⟩
    rintro v H3 ⟨p, x, hx, hn, rfl, rfl⟩
    have e : (fun (σ4 : St) (H4 : Hp) => te σ4 H4 fun y H5 => Pv (i + 1) (ys ++ [y]) H5) = fun σ4 H4 => te σ4 H4 fun y H5 => ∃ m', m' < xs.length - i ∧ Pv (i + 1) (ys ++ [y]) H5 ∧ i + 1 ≤ xs.length ∧ m' = xs.length - (i + 1) := by
      funext σ4 H4
      congr 1
      funext y H5
      exact propext ⟨fun q => ⟨_, Nat.sub_lt_sub_left c (Nat.lt_succ_self i), q, c, rfl⟩, fun ⟨_, _, q, _⟩ => q⟩
    rw [← e]
    exact hs i x ys H2 p (hx xs h1) hp hn
  · have ei : i = xs.length := by omega
    subst ei
    exact .inl ⟨⟨xs, h1, Nat.le_refl _⟩, hd ys H2 hp⟩
theorem y36y : tComp k cs (iRng1 ta) g te σ H Q = ta σ H fun vs H1 => ∃ j : Int, vs = [.int j] ∧ -(2 ^ 62) ≤ j ∧ j < 2 ^ 62 ∧ CompJ (Itr 0 j.toNat) k cs g te σ Q H1 := rfl
theorem CompJ.range {lo : Int} {n : Nat} (Pv : Nat → List V → Hp → Prop) (h0 : Pv 0 [] H1) (hl : ∀ i ys H', i ≤ n → Pv i ys H' → ys.length ≤ sizeLine)
    (hs : ∀ i ys H2, i < n → Pv i ys H2 → g (.int (lo + i)) (List.replicate k none ++ capsAt cs σ) H2 fun σ4 H4 => te σ4 H4 fun y H5 => Pv (i + 1) (ys ++ [y]) H5) (hd : ∀ ys H2, Pv n ys H2 → ∀ p, H2 p = none → Q (.ref p) (upd H2 p (.lst ys))) :
    CompJ (Itr lo n) k cs g te σ Q H1 := by
  refine ⟨fun i m ys H' => Pv i ys H' ∧ i ≤ n ∧ m = n - i, ⟨_, h0, Nat.zero_le _, rfl⟩, ?_⟩
  rintro i m ys H2 ⟨hp, hi, rfl⟩
  refine ⟨hl i ys H2 hi hp, ?_⟩
  by_cases c : i < n
  · refine .inr ⟨c, ?_⟩
    rintro v H3 ⟨rfl, rfl⟩
    have e : (fun (σ4 : St) (H4 : Hp) => te σ4 H4 fun y H5 => Pv (i + 1) (ys ++ [y]) H5) = fun σ4 H4 => te σ4 H4 fun y H5 => ∃ m', m' < n - i ∧ Pv (i + 1) (ys ++ [y]) H5 ∧ i + 1 ≤ n ∧ m' = n - (i + 1) := by
      funext σ4 H4
      congr 1
      funext y H5
      exact propext ⟨fun q => ⟨_, Nat.sub_lt_sub_left c (Nat.lt_succ_self i), q, c, rfl⟩, fun ⟨_, _, q, _⟩ => q⟩
    rw [← e]
    exact hs i ys _ c hp
  · have ei : i = n := by omega
    subst ei
    exact .inl ⟨Nat.le_refl _, hd ys H2 hp⟩
end
end L2

open PySem L2
local macro_rules | `(tactic| infer_instance) => `(tactic| simp only [y7dy, y4cy, y4dy, y4ey, y6cy, y2ay, y67y, y7ay, y7by, y44y, y2dy, y73y, y89y, y2fy, y39y, y6dy, y2ey, y82y, y23y, y28y, y74y, y6fy, y29y, y75y, y71y, y56y, y8by, y26y, y81y, y6by, y64y, y49y, y63y, y78y, y32y, y47y, y69y, y48y, y6ay, y46y, y68y, y84y, y5fy, y5by, y86y, y88y, y85y, y87y, y25y, y62y, y24y, true_and, if_true, if_false, Bool.not_true, Bool.not_false, Bool.false_eq_true, yby, ydy, yay, ycy, yey, y15y, y17y, y14y, y16y, y18y, y6y, y8y, y5y, y7y, y9y, y1y, y3y, y0y, y2y, y4y, y10y, y12y, yfy, y11y, y13y, y1ay, y1cy, y19y, y1by, y1dy, y1fy, y21y, y1ey, y20y, y22y, y7fy, y77y, y6ey, y30y, y31y, y50y, y5dy, y5ey, y4by, y80y, y83y, y8cy, y79y, y27y, V.int.injEq, V.str.injEq, List.set_cons_zero, List.set_cons_succ, List.getElem?_cons_zero, List.getElem?_cons_succ, Option.some.injEq, exists_eq_left, exists_eq_left', V.bl.injEq, Int.reduceToNat, Int.reducePow, List.append_nil, List.nil_append, List.cons_append, y52y, y54y, y2by, y2cy, y65y, y5ay, y70y, y60y, y61y, y3ay, y3by, y3cy, y43y, y45y, y3ey, y76y, y40y, y3fy, y4fy, y33y, y35y, y37y, y38y, y34y, y36y, y7cy, y58y, y8ay, y3dy, y41y, reduceCtorEq, decide_false, decide_true])
local macro_rules | `(tactic| contradiction) => `(tactic| simp only [y7dy, y4cy, y4dy, y4ey, y6cy, y2ay, y67y, y7ay, y7by, y44y, y2dy, y73y, y89y, y2fy, y39y, y6dy, y2ey, y82y, y23y, y28y, y74y, y6fy, y29y, y75y, y71y, y56y, y8by, y26y, y81y, y6by, y64y, y49y, y63y, y78y, y32y, y47y, y69y, y48y, y6ay, y46y, y68y, y84y, y5fy, y5by, y86y, y88y, y85y, y87y, y25y, y62y, y24y, true_and, if_true, if_false, Bool.not_true, Bool.not_false, Bool.false_eq_true, yby, ydy, yay, ycy, yey, y15y, y17y, y14y, y16y, y18y, y6y, y8y, y5y, y7y, y9y, y1y, y3y, y0y, y2y, y4y, y10y, y12y, yfy, y11y, y13y, y1ay, y1cy, y19y, y1by, y1dy, y1fy, y21y, y1ey, y20y, y22y, y7fy, y77y, y6ey, y30y, y31y, y50y, y5dy, y5ey, y4by, y80y, y83y, y8cy, y79y, y27y, V.int.injEq, V.str.injEq, List.set_cons_zero, List.set_cons_succ, List.getElem?_cons_zero, List.getElem?_cons_succ, Option.some.injEq, exists_eq_left, exists_eq_left', V.bl.injEq, Int.reduceToNat, Int.reducePow, List.append_nil, List.nil_append, List.cons_append, y52y, y54y, y2by, y2cy, y65y, y5ay, y70y, y60y, y61y, y3ay, y3by, y3cy, y43y, y45y, y3ey, y76y, y40y, y3fy, y4fy, y33y, y35y, y37y, y38y, y34y, y36y, y7cy, y58y, y8ay, y3dy, y41y, reduceCtorEq, decide_false, decide_true, y4ay])
local macro_rules | `(tactic| ac_rfl) => `(tactic| simp only [y7dy, y4cy, y4dy, y4ey, y6cy, y2ay, y67y, y7ay, y7by, y44y, y2dy, y73y, y89y, y2fy, y39y, y6dy, y2ey, y82y, y23y, y28y, y74y, y6fy, y29y, y75y, y71y, y56y, y8by, y26y, y81y, y6by, y64y, y49y, y63y, y78y, y32y, y47y, y69y, y48y, y6ay, y46y, y68y, y84y, y5fy, y5by, y86y, y88y, y85y, y87y, y25y, y62y, y24y, true_and, if_true, if_false, Bool.not_true, Bool.not_false, Bool.false_eq_true, yby, ydy, yay, ycy, yey, y15y, y17y, y14y, y16y, y18y, y6y, y8y, y5y, y7y, y9y, y1y, y3y, y0y, y2y, y4y, y10y, y12y, yfy, y11y, y13y, y1ay, y1cy, y19y, y1by, y1dy, y1fy, y21y, y1ey, y20y, y22y, y7fy, y77y, y6ey, y30y, y31y, y50y, y5dy, y5ey, y4by, y80y, y83y, y8cy, y79y, y27y, V.int.injEq, V.str.injEq, List.set_cons_zero, List.set_cons_succ, List.getElem?_cons_zero, List.getElem?_cons_succ, Option.some.injEq, exists_eq_left, exists_eq_left', V.bl.injEq, Int.reduceToNat, Int.reducePow, List.append_nil, List.nil_append, List.cons_append, y52y, y54y, y2by, y2cy, y65y, y5ay, y70y, y60y, y61y, y3ay, y3by, y3cy, y43y, y45y, y3ey, y76y, y40y, y3fy, y4fy, y33y, y35y, y37y, y38y, y34y, y36y, y7cy, y58y, y8ay, y3dy, y41y, reduceCtorEq, decide_false, decide_true, y7ey])
namespace Prg
open PySem L2 Ch
def top (i : Nat) : Stmt := PySem.Challenge.pw_slackchain_k52_which_is_fairer.main.body.getD i (.Pass ⟨0, 0, 0, 0⟩)
structure Adr where
  NoNumber : Addr
  Twice : Addr
  NoPart : Addr
  NoGap : Addr
  InRing : Addr
  Apart : Addr
  Part : Addr
  Gap : Addr
  Joints : Addr
  Thing : Addr
  SMALL_LETTERS : Value
  LONGEST_NAME : Value
  ZERO : Addr
structure PartC (K : PySem.W.Frag) (C : Addr) : Prop where
  cls : Cls K C
  n1 : NoAttr K C "name"
  n2 : NoAttr K C "start"
  n3 : NoAttr K C "end"
  n4 : NoAttr K C "size"
  n5 : NoAttr K C "most"
  n6 : NoAttr K C "weight"
def IsPart (Ad : Adr) (C : Addr) : Prop := C = Ad.Part
structure GapC (K : PySem.W.Frag) (C : Addr) : Prop where
  cls : Cls K C
  n1 : NoAttr K C "name"
  n2 : NoAttr K C "one"
  n3 : NoAttr K C "other"
  n4 : NoAttr K C "low"
  n5 : NoAttr K C "high"
def IsGap (Ad : Adr) (C : Addr) : Prop := C = Ad.Gap
structure JointsC (K : PySem.W.Frag) (C : Addr) : Prop where
  cls : Cls K C
  n1 : NoAttr K C "leads"
def IsJoints (Ad : Adr) (C : Addr) : Prop := C = Ad.Joints
structure ThingC (K : PySem.W.Frag) (C : Addr) : Prop where
  cls : Cls K C
  n1 : NoAttr K C "parts_by_name"
  n2 : NoAttr K C "gaps_by_name"
  n3 : NoAttr K C "ways"
def IsThing (Ad : Adr) (C : Addr) : Prop := C = Ad.Thing

theorem SqT.put {K : PySem.W.Frag} {H : Hp} {x a C dx : Addr} {fs fs' : List (Str × V)} {xs : List V} (hx : H x = some (.ins C dx fs)) (h : SqT K H a xs) : SqT K (upd H x (.ins C dx fs')) a xs := by
  rcases h with (h | ⟨o, h⟩) | h
  · exact .inl (.inl (by rw [upd_ne (ne_of h hx (by intro z; cases z))]; exact h))
  · exact .inl (.inr ⟨o, by rw [upd_ne (ne_of h hx (by intro z; cases z))]; exact h⟩)
  · exact .inr h
def partF (n s e z m w : V) : List (Str × V) := [("name", n), ("start", s), ("end", e), ("size", z), ("most", m), ("weight", w)]
def gapF (n s e l g : V) : List (Str × V) := [("name", n), ("one", s), ("other", e), ("low", l), ("high", g)]

structure Txt (K : PySem.W.Frag) (mg : Str → Option Value) (Ad : Adr) : Prop where
  n_abs : mg "abs" = none
  n_isinstance : mg "isinstance" = none
  n_len : mg "len" = none
  n_all : mg "all" = none
  n_int : mg "int" = none
  n_bool : mg "bool" = none
  n_tuple : mg "tuple" = none
  n_str : mg "str" = none
  n_range : mg "range" = none
  n_list : mg "list" = none
  n_zip : mg "zip" = none
  n_enumerate : mg "enumerate" = none
  n_reversed : mg "reversed" = none
  m_NoNumber : mg "NoNumber" = some (.ref Ad.NoNumber)
  m_Twice : mg "Twice" = some (.ref Ad.Twice)
  m_NoPart : mg "NoPart" = some (.ref Ad.NoPart)
  m_NoGap : mg "NoGap" = some (.ref Ad.NoGap)
  m_InRing : mg "InRing" = some (.ref Ad.InRing)
  m_Apart : mg "Apart" = some (.ref Ad.Apart)
  m_Part : mg "Part" = some (.ref Ad.Part)
  m_Gap : mg "Gap" = some (.ref Ad.Gap)
  m_Joints : mg "Joints" = some (.ref Ad.Joints)
  m_Thing : mg "Thing" = some (.ref Ad.Thing)
  m_SMALL_LETTERS : mg "SMALL_LETTERS" = some Ad.SMALL_LETTERS
  r_SMALL_LETTERS : RelV (.str "abcdefghijklmnopqrstuvwxyz") Ad.SMALL_LETTERS
  m_LONGEST_NAME : mg "LONGEST_NAME" = some Ad.LONGEST_NAME
  r_LONGEST_NAME : RelV (.int 8) Ad.LONGEST_NAME
  m_ZERO : mg "ZERO" = some (.ref Ad.ZERO)
  r_ZERO : RelV (.ref Ad.ZERO) (.ref Ad.ZERO)
  q_ZERO : ∀ H : Hp, SqT K H Ad.ZERO [.int 0, .int 1]
  x_NoNumber : PySem.W.excIn K Ad.NoNumber [.type "ValueError", .type "Exception", .type "BaseException", .type "object"] "ValueError.__new__" = true
  x_Twice : PySem.W.excIn K Ad.Twice [.type "ValueError", .type "Exception", .type "BaseException", .type "object"] "ValueError.__new__" = true
  x_NoPart : PySem.W.excIn K Ad.NoPart [.type "ValueError", .type "Exception", .type "BaseException", .type "object"] "ValueError.__new__" = true
  x_NoGap : PySem.W.excIn K Ad.NoGap [.type "ValueError", .type "Exception", .type "BaseException", .type "object"] "ValueError.__new__" = true
  x_InRing : PySem.W.excIn K Ad.InRing [.type "ValueError", .type "Exception", .type "BaseException", .type "object"] "ValueError.__new__" = true
  x_Apart : PySem.W.excIn K Ad.Apart [.type "ValueError", .type "Exception", .type "BaseException", .type "object"] "ValueError.__new__" = true
  cl1_Part : PySem.W.plainGet K Ad.Part Str.empty = true
  cl2_Part : PySem.W.hasDictIn K Ad.Part = true
  cl3_Part : PySem.W.plainOver K Ad.Part = true
  cl4_Part : PySem.W.findIn K (.ref Ad.Part) "__setattr__" = some (some (.builtin "object.__setattr__"))
  na1_Part : PySem.W.findIn K (.ref Ad.Part) "name" = some none
  na2_Part : PySem.W.findIn K (.ref Ad.Part) "start" = some none
  na3_Part : PySem.W.findIn K (.ref Ad.Part) "end" = some none
  na4_Part : PySem.W.findIn K (.ref Ad.Part) "size" = some none
  na5_Part : PySem.W.findIn K (.ref Ad.Part) "most" = some none
  na6_Part : PySem.W.findIn K (.ref Ad.Part) "weight" = some none
  cl1_Gap : PySem.W.plainGet K Ad.Gap Str.empty = true
  cl2_Gap : PySem.W.hasDictIn K Ad.Gap = true
  cl3_Gap : PySem.W.plainOver K Ad.Gap = true
  cl4_Gap : PySem.W.findIn K (.ref Ad.Gap) "__setattr__" = some (some (.builtin "object.__setattr__"))
  na1_Gap : PySem.W.findIn K (.ref Ad.Gap) "name" = some none
  na2_Gap : PySem.W.findIn K (.ref Ad.Gap) "one" = some none
  na3_Gap : PySem.W.findIn K (.ref Ad.Gap) "other" = some none
  na4_Gap : PySem.W.findIn K (.ref Ad.Gap) "low" = some none
  na5_Gap : PySem.W.findIn K (.ref Ad.Gap) "high" = some none
  cl1_Joints : PySem.W.plainGet K Ad.Joints Str.empty = true
  cl2_Joints : PySem.W.hasDictIn K Ad.Joints = true
  cl3_Joints : PySem.W.plainOver K Ad.Joints = true
  cl4_Joints : PySem.W.findIn K (.ref Ad.Joints) "__setattr__" = some (some (.builtin "object.__setattr__"))
  na1_Joints : PySem.W.findIn K (.ref Ad.Joints) "leads" = some none
  cl1_Thing : PySem.W.plainGet K Ad.Thing Str.empty = true
  cl2_Thing : PySem.W.hasDictIn K Ad.Thing = true
  cl3_Thing : PySem.W.plainOver K Ad.Thing = true
  cl4_Thing : PySem.W.findIn K (.ref Ad.Thing) "__setattr__" = some (some (.builtin "object.__setattr__"))
  na1_Thing : PySem.W.findIn K (.ref Ad.Thing) "parts_by_name" = some none
  na2_Thing : PySem.W.findIn K (.ref Ad.Thing) "gaps_by_name" = some none
  na3_Thing : PySem.W.findIn K (.ref Ad.Thing) "ways" = some none
  c_Part : ∀ C, IsPart Ad C → PartC K C
  c_Gap : ∀ C, IsGap Ad C → GapC K C
  c_Joints : ∀ C, IsJoints Ad C → JointsC K C
  c_Thing : ∀ C, IsThing Ad C → ThingC K C

/-- what is handed in as a part -/
def PEV (K : PySem.W.Frag) (H : Hp) (e : PD ⊕ D) (x : V) : Prop := match e with
  | .inl p => PDV K H p x ∧ POk p
  | .inr c => Rep K H c x ∧ szD c ∧ partB c = false
def GEV (K : PySem.W.Frag) (H : Hp) (e : GD ⊕ D) (x : V) : Prop := match e with
  | .inl g => TV K H g.td x ∧ TOk g.td
  | .inr c => Rep K H c x ∧ szD c ∧ gapB c = false
def POV (K : PySem.W.Frag) (Ad : Adr) (H : Hp) (p : PD) (v : V) : Prop := ∃ q dx vz vm, v = .ref q ∧ H q = some (.ins Ad.Part dx (partF (.str p.nm) (.str p.st) (.str p.en) vz vm (.int p.wt))) ∧ FrV K H vz p.sz.1 p.sz.2 ∧ FrV K H vm p.mo.1 p.mo.2
def GOV (K : PySem.W.Frag) (Ad : Adr) (H : Hp) (g : GD) (v : V) : Prop := ∃ q dx vl vg, v = .ref q ∧ H q = some (.ins Ad.Gap dx (gapF (.str g.nm) (.str g.st) (.str g.en) vl vg)) ∧ FrV K H vl g.lo.1 g.lo.2 ∧ FrV K H vg g.hi.1 g.hi.2
section
variable {K : PySem.W.Frag} {Ad : Adr} {H H' : Hp} {v x : V}
/-- tuples and objects stay -/
def isTI : HO → Bool
  | .ins _ _ _ => true
  | u => isTF u
def SameI (H H' : Hp) : Prop := ∀ b u, isTI u = true → H b = some u → H' b = some u
theorem SameI.t (S : SameI H H') : SameT H H' := fun b u t h => S b u (by cases u <;> first | exact t | (simp [isTF] at t)) h
theorem Same.i (S : Same H H') : SameI H H' := fun b u _ h => S b u h
theorem PEV.same {e : PD ⊕ D} (S : Same H H') (h : PEV K H e x) : PEV K H' e x := by
  match e, h with
  | .inl t, h => exact ⟨h.1.sameT S.t, h.2⟩
  | .inr c, h => exact ⟨h.1.same S, h.2⟩
theorem GEV.same {e : GD ⊕ D} (S : Same H H') (h : GEV K H e x) : GEV K H' e x := by
  match e, h with
  | .inl t, h => exact ⟨h.1.sameT S.t, h.2⟩
  | .inr c, h => exact ⟨h.1.same S, h.2⟩
theorem POV.si {p : PD} (S : SameI H H') : POV K Ad H p v → POV K Ad H' p v := fun ⟨q, dx, vz, vm, h1, h2, h3, h4⟩ => ⟨q, dx, vz, vm, h1, S _ _ rfl h2, h3.sameT S.t, h4.sameT S.t⟩
theorem GOV.si {g : GD} (S : SameI H H') : GOV K Ad H g v → GOV K Ad H' g v := fun ⟨q, dx, vz, vm, h1, h2, h3, h4⟩ => ⟨q, dx, vz, vm, h1, S _ _ rfl h2, h3.sameT S.t, h4.sameT S.t⟩
end
/-- the joints of the parts linked so far -/
def JK (Ad : Adr) (H0 H : Hp) (j d : Addr) (ls : List PD) : Prop := (∃ dx, H j = some (.ins Ad.Joints dx [("leads", .ref d)])) ∧ H0 d = none ∧ ∃ kvs, H d = some (.dK kvs) ∧ kvs.length ≤ 2 * ls.length ∧ JD H0 H (leadsOf ls) kvs
theorem JK.same {Ad : Adr} {H0 H H' : Hp} {j d : Addr} {ls : List PD} (S : Same H H') : JK Ad H0 H j d ls → JK Ad H0 H' j d ls := fun ⟨⟨dx, h1⟩, h2, kvs, h3, h4, h5⟩ => ⟨⟨dx, S _ _ h1⟩, h2, kvs, S _ _ h3, h4, h5.same S⟩
/-- a thing: its object, its dicts, its parts and gaps -/
def TK (K : PySem.W.Frag) (Ad : Adr) (H : Hp) (x : Addr) (ls : List PD) (gs : List GD) : Prop := ∃ dx d1 d2 d3 k1 k2 k3, H x = some (.ins Ad.Thing dx [("parts_by_name", .ref d1), ("gaps_by_name", .ref d2), ("ways", .ref d3)]) ∧ H d1 = some (.dK k1) ∧ BG (·.nm) (POV K Ad H) ls k1 ∧ H d2 = some (.dK k2) ∧ BG (·.nm) (GOV K Ad H) gs k2 ∧ H d3 = some (.dK k3) ∧ BG (·.nm) (WOV H ls) gs k3
theorem TK.same {K : PySem.W.Frag} {Ad : Adr} {H H' : Hp} {x : Addr} {ls : List PD} {gs : List GD} (S : Same H H') : TK K Ad H x ls gs → TK K Ad H' x ls gs := fun ⟨dx, d1, d2, d3, k1, k2, k3, h0, h1, b1, h2, b2, h3, b3⟩ => ⟨dx, d1, d2, d3, k1, k2, k3, S _ _ h0, S _ _ h1, b1.mono fun _ _ z => z.si (Same.i S), S _ _ h2, b2.mono fun _ _ z => z.si (Same.i S), S _ _ h3, b3.mono fun _ _ z => z.same S⟩
/-- all but the dict at d and lists stay -/
def SameJ (d : Addr) (H H' : Hp) : Prop := ∀ b u, b ≠ d → (∀ xs, u ≠ .lst xs) → H b = some u → H' b = some u

section
variable {P : Program} {w : World} {K : PySem.W.Frag} {mg : Str → Option Value} {base : Heap} {Ad : Adr}
abbrev s_common_divisor : Stmt := top 10
theorem sc_common_divisor : FnScope ["one", "other", "greater", "lesser", "rest"] ["one", "other"] (defScope s_common_divisor) := ⟨rfl, rfl, rfl, by decide +kernel, rfl, by decide +kernel, by decide +kernel⟩
def sp_common_divisor  : Sp := fun vs H Q E => ∃ (a b : Int), vs = [.int a, .int b] ∧ Q (.int (Mth.g a b)) H
theorem ok_common_divisor {f : Addr} {fd : FuncData} {dV : Value} (F : FunD K "common_divisor" "common_divisor" s_common_divisor dV f fd) (T : Txt K mg Ad)  : FnOk P w K mg base (CX1 P w) 1 f fd ["one", "other"] (sp_common_divisor) := by
  refine F.okn sc_common_divisor (fun vs H Q E h => ?_) (fun cdv A outer s H vs Q E hr h => ?_)
  · obtain ⟨a, b, rfl, _⟩ := h; rfl
  obtain ⟨a, b, rfl, h⟩ := h
  have hu := hr.units
  refine ⟨_, (pss_cons (ps_set (i := 2) sc_common_divisor.nd rfl (Or.inl rfl) (pe_callB call_absU rfl T.n_abs bt_abs (pa_cons (pv 0) pa_nil)))
      (pss_cons (ps_set (i := 3) sc_common_divisor.nd rfl (Or.inl rfl) (pe_callB call_absU rfl T.n_abs bt_abs (pa_cons (pv 1) pa_nil)))
      (pss_cons (ps_while PassesOwn.never (pt_cmpR (op_neU hu) (pv 3) pe_int (nomark _))
      (pss_cons (ps_set (i := 4) sc_common_divisor.nd rfl (Or.inl rfl) (pe_op op_modU (pv 2) (pv 3)))
      (pss_cons (ps_set (i := 2) sc_common_divisor.nd rfl (Or.inl rfl) (pv 3))
      (pss_one (ps_set (i := 3) sc_common_divisor.nd rfl (Or.inl rfl) (pv 4))))))
      (pss_one (ps_ret (pv 2)))))), ?_⟩
  show tSeq _ _ _ [some (.int a), some (.int b), none, none, none] H
  try infer_instance
  refine ⟨fun m σ H' => ∃ (x y : Int) (z : Option V), σ = [some (.int a), some (.int b), some (.int x), some (.int y), z] ∧ H' = H ∧ 0 ≤ x ∧ 0 ≤ y ∧ Mth.g x y = Mth.g a b ∧ y.toNat = m, ⟨_, _, _, none, rfl, rfl, Mth.abs_nn a, Mth.abs_nn b, Mth.g_abs a b, rfl⟩, ?_⟩
  rintro m σ H' ⟨x, y, z, rfl, rfl, hx, hy, hg, rfl⟩
  try infer_instance
  by_cases c : y = 0
  · subst c
    rw [if_neg (by simp)]
    have e : Mth.g a b = x := by rw [← hg, Mth.g_zero]; omega
    rw [e] at h
    exact h
  · rw [if_pos (by simp [c])]
    have f := Mth.fm (x := x) (y := y) (by omega)
    exact ⟨_, fun _ _ q => q, c, (x.fmod y).toNat, by omega, y, x.fmod y, _, rfl, rfl, hy, f.1, by rw [Mth.g_fstep (by omega)]; exact hg, rfl⟩
abbrev s_times : Stmt := top 11
theorem sc_times : FnScope ["one", "other", "across", "back"] ["one", "other"] (defScope s_times) := ⟨rfl, rfl, rfl, by decide +kernel, rfl, by decide +kernel, by decide +kernel⟩
def sp_times (K : PySem.W.Frag) : Sp := fun vs H Q E => ∃ (x y : V) (a b c d : Int), vs = [x, y] ∧ FrV K H x a b ∧ FrV K H y c d ∧ Mth.Sz 4000 a ∧ Mth.Sz 4000 b ∧ Mth.Sz 4000 c ∧ Mth.Sz 4000 d ∧ 1 ≤ b ∧ 1 ≤ d ∧ Mth.g a b = 1 ∧ Mth.g c d = 1 ∧ ∀ p H', Same H H' → H' p = some (.tup [.int (Mth.top (a * c) (b * d)), .int (Mth.bot (a * c) (b * d))]) → Q (.ref p) H'
theorem ok_times {f : Addr} {fd : FuncData} {dV : Value} (F : FunD K "times" "times" s_times dV f fd) (T : Txt K mg Ad) (c_common_divisor : Cal P w K mg base 1 "common_divisor" ["one", "other"] [] (sp_common_divisor)) : FnOk P w K mg base (CX1 P w) 2 f fd ["one", "other"] (sp_times K) := by
  refine F.okn sc_times (fun vs H Q E h => ?_) (fun cdv A outer s H vs Q E hr h => ?_)
  · obtain ⟨x, y, a, b, c, d, rfl, _⟩ := h; rfl
  obtain ⟨x, y, a, b, c, d, rfl, h⟩ := h
  have hu := hr.units
  refine ⟨_, (pss_cons (ps_set (i := 2) sc_times.nd rfl (Or.inl rfl) (c_common_divisor.ev hr (by decide) rfl passF (pa_cons (pe_ix ix_U (pv 0) pe_int (fun _ _ => rfl)) (pa_cons (pe_ix ix_U (pv 1) pe_int (fun _ _ => rfl)) pa_nil))))
      (pss_cons (ps_set (i := 3) sc_times.nd rfl (Or.inl rfl) (c_common_divisor.ev hr (by decide) rfl passF (pa_cons (pe_ix ix_U (pv 1) pe_int (fun _ _ => rfl)) (pa_cons (pe_ix ix_U (pv 0) pe_int (fun _ _ => rfl)) pa_nil))))
      (pss_one (ps_ret (pe_tup (pa_cons (pe_op op_mul0 (pe_op op_fdivU (pe_ix ix_U (pv 0) pe_int (fun _ _ => rfl)) (pv 2)) (pe_op op_fdivU (pe_ix ix_U (pv 1) pe_int (fun _ _ => rfl)) (pv 3))) (pa_cons (pe_op op_mul0 (pe_op op_fdivU (pe_ix ix_U (pv 0) pe_int (fun _ _ => rfl)) (pv 3)) (pe_op op_fdivU (pe_ix ix_U (pv 1) pe_int (fun _ _ => rfl)) (pv 2))) pa_nil))))))), ?_⟩
  obtain ⟨hx, hy, sa, sb, sc, sd, hb, hd, la, lc, k⟩ := h
  show tSeq _ _ _ [some x, some y, none, none] H
  try infer_instance
  refine ixF0 hx (ixF1 hy ?_)
  try infer_instance
  refine ⟨_, _, rfl, ?_⟩
  refine ixF0 hy (ixF1 hx ?_)
  try infer_instance
  refine ⟨_, _, rfl, ?_⟩
  try infer_instance
  have up := Mth.g_pos (a := a) (b := d) (by omega)
  have vp := Mth.g_pos (a := c) (b := b) (by omega)
  have u1 := Mth.g_dvd1 a d
  have u2 := Mth.g_dvd2 a d
  have v1 := Mth.g_dvd1 c b
  have v2 := Mth.g_dvd2 c b
  have ul : Mth.Sz 4000 (Mth.g a d) := Nat.lt_of_le_of_lt (by have := Mth.g_le (a := a) (b := d) (by omega); omega : (Mth.g a d).natAbs ≤ d.natAbs) sd
  have vl : Mth.Sz 4000 (Mth.g c b) := Nat.lt_of_le_of_lt (by have := Mth.g_le (a := c) (b := b) (by omega); omega : (Mth.g c b).natAbs ≤ b.natAbs) sb
  have du : DivOk (Mth.g a d) := divOk (by omega) ul
  have dv : DivOk (Mth.g c b) := divOk (by omega) vl
  have pe := Mth.times_eq hb hd la lc (u := Mth.g a d) (v := Mth.g c b) rfl rfl
  refine ixF0 hx ?_
  try infer_instance
  refine ⟨du, ixF0 hy ?_⟩
  try infer_instance
  refine ⟨dv, mulOk (sa.fdiv u1 (by omega)) (sc.fdiv v1 (by omega)), ixF1 hx ?_⟩
  try infer_instance
  refine ⟨dv, ixF1 hy ?_⟩
  try infer_instance
  refine ⟨du, mulOk (sb.fdiv v2 (by omega)) (sd.fdiv u2 (by omega)), len2, ?_⟩
  refine new_obj fun p H1 S hp => k p H1 S ?_
  rw [hp, pe.1, pe.2]
abbrev s_over : Stmt := top 12
theorem sc_over : FnScope ["one", "other"] ["one", "other"] (defScope s_over) := ⟨rfl, rfl, rfl, by decide +kernel, rfl, by decide +kernel, by decide +kernel⟩
def sp_over (K : PySem.W.Frag) (Ad : Adr) : Sp := fun vs H Q E => ∃ (x y : V) (a b c d : Int), vs = [x, y] ∧ FrV K H x a b ∧ FrV K H y c d ∧ Mth.Sz 4000 a ∧ Mth.Sz 4000 b ∧ Mth.Sz 4000 c ∧ Mth.Sz 4000 d ∧ 1 ≤ b ∧ 1 ≤ d ∧ Mth.g a b = 1 ∧ Mth.g c d = 1 ∧ (c = 0 → E (.ref Ad.NoNumber) none H) ∧ (c ≠ 0 → ∀ p H', Same H H' → H' p = some (.tup [.int (Mth.top (a * d) (b * c)), .int (Mth.bot (a * d) (b * c))]) → Q (.ref p) H')
theorem ok_over {f : Addr} {fd : FuncData} {dV : Value} (F : FunD K "over" "over" s_over dV f fd) (T : Txt K mg Ad) (c_times : Cal P w K mg base 2 "times" ["one", "other"] [] (sp_times K)) : FnOk P w K mg base (CX1 P w) 3 f fd ["one", "other"] (sp_over K Ad) := by
  refine F.okx sc_over (fun vs H Q E h => ?_) (fun cdv A outer s H vs Q E hr h => ?_)
  · obtain ⟨x, y, a, b, c, d, rfl, _⟩ := h; rfl
  obtain ⟨x, y, a, b, c, d, rfl, h⟩ := h
  have hu := hr.units
  refine ⟨_, (pss_cons (ps_if (pt_cmpR (op_eqU hu) (pe_ix ix_U (pv 1) pe_int (fun _ _ => rfl)) pe_int (nomark _))
      (pss_one (ps_raise PySem.F.excBase_ValueError T.x_NoNumber rfl T.m_NoNumber (pa_cons pe_str pa_nil)))
      pss_nil)
      (pss_cons (ps_if (pt_cmpR op_ltU (pe_ix ix_U (pv 1) pe_int (fun _ _ => rfl)) pe_int (nomark _))
      (pss_one (ps_ret (c_times.ev hr (by decide) rfl pass1 (pa_cons (pv 0) (pa_cons (pe_tup (pa_cons (pe_un un_neg (pe_ix ix_U (pv 1) pe_int (fun _ _ => rfl))) (pa_cons (pe_un un_neg (pe_ix ix_U (pv 1) pe_int (fun _ _ => rfl))) pa_nil))) pa_nil)))))
      pss_nil)
      (pss_one (ps_ret (c_times.ev hr (by decide) rfl pass1 (pa_cons (pv 0) (pa_cons (pe_tup (pa_cons (pe_ix ix_U (pv 1) pe_int (fun _ _ => rfl)) (pa_cons (pe_ix ix_U (pv 1) pe_int (fun _ _ => rfl)) pa_nil))) pa_nil))))))), ?_⟩
  obtain ⟨hx, hy, sa, sb, sc, sd, hb, hd, la, lc, k0, k⟩ := h
  show tSeq _ _ _ [some x, some y] H
  try infer_instance
  refine ixF0 hy ?_
  try infer_instance
  by_cases c0 : c = 0
  · rw [if_pos (by simpa using c0)]
    try infer_instance
    exact ⟨by decide, k0 c0⟩
  · rw [if_neg (by simpa using c0)]
    refine ixF0 hy ?_
    try infer_instance
    by_cases c1 : c < 0
    · rw [if_pos (by simpa using c1)]
      refine ixF1 hy ?_
      try infer_instance
      refine ixF0 hy ?_
      try infer_instance
      refine ⟨len2, ?_⟩
      intro p h_p
      generalize q_p : upd H p _ = H1
      have S := newS h_p q_p
      have hp := newE q_p
      refine ⟨_, _, a, b, -d, -c, rfl, hx.same S, FrV.of hp, sa, sb, sd.neg, sc.neg, hb, by omega, la, by rw [Mth.g_neg, Mth.g_neg2, Mth.g_comm]; exact lc, fun p2 H2 S2 e2 => k c0 p2 H2 (S.trans S2) ?_⟩
      have e := Mth.low_neg (t := a * d) (b := b * c) (Int.mul_neg_of_pos_of_neg (by omega) c1)
      rw [e2, Int.mul_neg, Int.mul_neg, e.1, e.2]
    · rw [if_neg (by simpa using c1)]
      refine ixF1 hy ?_
      try infer_instance
      refine ixF0 hy ?_
      try infer_instance
      refine ⟨len2, ?_⟩
      intro p h_p
      generalize q_p : upd H p _ = H1
      have S := newS h_p q_p
      have hp := newE q_p
      exact ⟨_, _, a, b, d, c, rfl, hx.same S, FrV.of hp, sa, sb, sd, sc, hb, by omega, la, by rw [Mth.g_comm]; exact lc, fun p2 H2 S2 e2 => k c0 p2 H2 (S.trans S2) e2⟩
abbrev s_under : Stmt := top 13
theorem sc_under : FnScope ["one", "other"] ["one", "other"] (defScope s_under) := ⟨rfl, rfl, rfl, by decide +kernel, rfl, by decide +kernel, by decide +kernel⟩
def sp_under (K : PySem.W.Frag) : Sp := fun vs H Q E => ∃ (x y : V) (a b c d : Int), vs = [x, y] ∧ FrV K H x a b ∧ FrV K H y c d ∧ Mth.Sz 4000 a ∧ Mth.Sz 4000 b ∧ Mth.Sz 4000 c ∧ Mth.Sz 4000 d ∧ Q (.bl (decide (a * d < c * b))) H
theorem ok_under {f : Addr} {fd : FuncData} {dV : Value} (F : FunD K "under" "under" s_under dV f fd) (T : Txt K mg Ad)  : FnOk P w K mg base (CX1 P w) 1 f fd ["one", "other"] (sp_under K) := by
  refine F.okn sc_under (fun vs H Q E h => ?_) (fun cdv A outer s H vs Q E hr h => ?_)
  · obtain ⟨x, y, a, b, c, d, rfl, _⟩ := h; rfl
  obtain ⟨x, y, a, b, c, d, rfl, h⟩ := h
  have hu := hr.units
  refine ⟨_, (pss_one (ps_ret (pe_cmpR op_ltU (pe_op op_mul0 (pe_ix ix_U (pv 0) pe_int (fun _ _ => rfl)) (pe_ix ix_U (pv 1) pe_int (fun _ _ => rfl))) (pe_op op_mul0 (pe_ix ix_U (pv 1) pe_int (fun _ _ => rfl)) (pe_ix ix_U (pv 0) pe_int (fun _ _ => rfl))) (nomark _)))), ?_⟩
  obtain ⟨hx, hy, sa, sb, sc, sd, k⟩ := h
  show tRet _ _ [some x, some y] H
  try infer_instance
  refine ixF0 hx (ixF1 hy ?_)
  try infer_instance
  refine ⟨mulOk sa sd, ixF0 hy (ixF1 hx ?_)⟩
  try infer_instance
  exact ⟨mulOk sc sb, k⟩
abbrev s_is_name : Stmt := top 18
theorem sc_is_name : FnScope ["thing"] ["thing"] (defScope s_is_name) := ⟨rfl, rfl, rfl, by decide +kernel, rfl, by decide +kernel, by decide +kernel⟩
def sp_is_name (K : PySem.W.Frag) : Sp := fun vs H Q E => ∃ (x : V) (d : D), vs = [x] ∧ Rep K H d x ∧ szD d ∧ ∀ H', Same H H' → Q (.bl (nameB d)) H'
theorem ok_is_name {f : Addr} {fd : FuncData} {dV : Value} (F : FunD K "is_name" "is_name" s_is_name dV f fd) (T : Txt K mg Ad)  : FnOk P w K mg base (CX1 P w) 1 f fd ["thing"] (sp_is_name K) := by
  refine F.okn sc_is_name (fun vs H Q E h => ?_) (fun cdv A outer s H vs Q E hr h => ?_)
  · obtain ⟨x, d, rfl, _⟩ := h; rfl
  obtain ⟨x, d, rfl, h⟩ := h
  have hu := hr.units
  refine ⟨_, (pss_cons (ps_if (pt_not (pt_val (pe_callB call_isinstanceU rfl T.n_isinstance bt_isinstance (pa_cons (pv 0) (pa_cons (pe_bltn (v := .ty "str") rfl T.n_str bt_str rfl) pa_nil)))))
      (pss_one (ps_ret pe_bl))
      pss_nil)
      (pss_cons (ps_if (PW.pt (pw_or (pt_cmpR op_ltU (pe_callB call_lenU rfl T.n_len bt_len (pa_cons (pv 0) pa_nil)) pe_int (nomark _)) (pw_or1 (pt_cmpR op_gtU (pe_callB call_lenU rfl T.n_len bt_len (pa_cons (pv 0) pa_nil)) (pe_glob (v := .int 8) rfl T.m_LONGEST_NAME T.r_LONGEST_NAME) (nomark _)))))
      (pss_one (ps_ret pe_bl))
      pss_nil)
      (pss_one (ps_ret (pe_callB (call_allU rfl) rfl T.n_all bt_all (pa_cons (pe_comp (own := ["sign"]) (cs := []) (cl := []) rfl (pi_str (pv 0)) (fun _ _ _ _ => (pg_name (i := 0) (show [("sign" : Str)].Nodup by decide) rfl (Or.inl rfl))) (fun _ _ _ _ => (pe_cmpR (op_inK (K := K) rfl) (pv 0) (pe_glob (v := .str "abcdefghijklmnopqrstuvwxyz") rfl T.m_SMALL_LETTERS T.r_SMALL_LETTERS) (by with_unfolding_all rfl))) rfl (by decide) rfl (by decide) hcl0 (hhas0 (by decide)) hcs0) pa_nil)))))), ?_⟩
  obtain ⟨hx, sz, k⟩ := h
  show tSeq _ _ _ [some x] H
  try infer_instance
  refine ⟨_, hx.tyN, ?_⟩
  by_cases hs : ∃ z, d = .str z
  · obtain ⟨z, rfl⟩ := hs
    simp only [Rep] at hx
    subst hx
    simp only [szD] at sz
    simp only [tyD, y7dy, y4cy, y4dy, y4ey, y6cy, y2ay, y67y, y7ay, y7by, y44y, y2dy, y73y, y89y, y2fy, y39y, y6dy, y2ey, y82y, y23y, y28y, y74y, y6fy, y29y, y75y, y71y, y56y, y8by, y26y, y81y, y6by, y64y, y49y, y63y, y78y, y32y, y47y, y69y, y48y, y6ay, y46y, y68y, y84y, y5fy, y5by, y86y, y88y, y85y, y87y, y25y, y62y, y24y, true_and, if_true, if_false, Bool.not_true, Bool.not_false, Bool.false_eq_true, yby, ydy, yay, ycy, yey, y15y, y17y, y14y, y16y, y18y, y6y, y8y, y5y, y7y, y9y, y1y, y3y, y0y, y2y, y4y, y10y, y12y, yfy, y11y, y13y, y1ay, y1cy, y19y, y1by, y1dy, y1fy, y21y, y1ey, y20y, y22y, y7fy, y77y, y6ey, y30y, y31y, y50y, y5dy, y5ey, y4by, y80y, y83y, y8cy, y79y, y27y, V.int.injEq, V.str.injEq, List.set_cons_zero, List.set_cons_succ, List.getElem?_cons_zero, List.getElem?_cons_succ, Option.some.injEq, exists_eq_left, exists_eq_left', V.bl.injEq, Int.reduceToNat, Int.reducePow, List.append_nil, List.nil_append, List.cons_append, y52y, y54y, y2by, y2cy, y65y, y5ay, y70y, y60y, y61y, y3ay, y3by, y3cy, y43y, y45y, y3ey, y76y, y40y, y3fy, y4fy, y33y, y35y, y37y, y38y, y34y, y36y, y7cy, y58y, y8ay, y3dy, y41y, reduceCtorEq, decide_false, decide_true]
    have hz : z.length ≤ sizeLine := Nat.le_trans sz (by decide)
    simp only [nameB, nameS] at k
    refine ⟨hz, ?_⟩
    try infer_instance
    by_cases c1 : z.length < 1
    · rw [if_pos (by simp; omega)]
      have e : decide (1 ≤ z.length) = false := by simp; omega
      rw [e] at k
      exact k H (.refl H)
    · rw [if_neg (by simp; omega)]
      have e : decide (1 ≤ z.length) = true := by simp; omega
      rw [e] at k
      refine ⟨hz, ?_⟩
      try infer_instance
      by_cases c2 : 8 < z.length
      · rw [if_pos (by simp; omega)]
        have e : decide (z.length ≤ 8) = false := by simp; omega
        rw [e] at k
        exact k H (.refl H)
      · rw [if_neg (by simp; omega)]
        have e : decide (z.length ≤ 8) = true := by simp; omega
        rw [e] at k
        try infer_instance
        simp only [tComp, iStr, y7dy, y4cy, y4dy, y4ey, y6cy, y2ay, y67y, y7ay, y7by, y44y, y2dy, y73y, y89y, y2fy, y39y, y6dy, y2ey, y82y, y23y, y28y, y74y, y6fy, y29y, y75y, y71y, y56y, y8by, y26y, y81y, y6by, y64y, y49y, y63y, y78y, y32y, y47y, y69y, y48y, y6ay, y46y, y68y, y84y, y5fy, y5by, y86y, y88y, y85y, y87y, y25y, y62y, y24y, true_and, if_true, if_false, Bool.not_true, Bool.not_false, Bool.false_eq_true, yby, ydy, yay, ycy, yey, y15y, y17y, y14y, y16y, y18y, y6y, y8y, y5y, y7y, y9y, y1y, y3y, y0y, y2y, y4y, y10y, y12y, yfy, y11y, y13y, y1ay, y1cy, y19y, y1by, y1dy, y1fy, y21y, y1ey, y20y, y22y, y7fy, y77y, y6ey, y30y, y31y, y50y, y5dy, y5ey, y4by, y80y, y83y, y8cy, y79y, y27y, V.int.injEq, V.str.injEq, List.set_cons_zero, List.set_cons_succ, List.getElem?_cons_zero, List.getElem?_cons_succ, Option.some.injEq, exists_eq_left, exists_eq_left', V.bl.injEq, Int.reduceToNat, Int.reducePow, List.append_nil, List.nil_append, List.cons_append, y52y, y54y, y2by, y2cy, y65y, y5ay, y70y, y60y, y61y, y3ay, y3by, y3cy, y43y, y45y, y3ey, y76y, y40y, y3fy, y4fy, y33y, y35y, y37y, y38y, y34y, y36y, y7cy, y58y, y8ay, y3dy, y41y, reduceCtorEq, decide_false, decide_true]
        refine ⟨fun i m ys H2 => H2 = H ∧ i ≤ z.cps.size ∧ m = z.cps.size - i ∧ ys = (z.cps.toList.take i).map fun c => V.bl (lowB c), ⟨_, rfl, Nat.zero_le _, rfl, by simp⟩, ?_⟩
        rintro i m ys H2 ⟨rfl, hi, rfl, rfl⟩
        have lz : z.cps.size = z.length := rfl
        refine ⟨by simp; omega, ?_⟩
        by_cases lt : i < z.cps.size
        · refine .inr ⟨lt, ?_⟩
          rintro x H3 ⟨rfl, c, hc, rfl⟩
          simp only [List.length_singleton, List.replicate, capsAt, List.map_nil, y7dy, y4cy, y4dy, y4ey, y6cy, y2ay, y67y, y7ay, y7by, y44y, y2dy, y73y, y89y, y2fy, y39y, y6dy, y2ey, y82y, y23y, y28y, y74y, y6fy, y29y, y75y, y71y, y56y, y8by, y26y, y81y, y6by, y64y, y49y, y63y, y78y, y32y, y47y, y69y, y48y, y6ay, y46y, y68y, y84y, y5fy, y5by, y86y, y88y, y85y, y87y, y25y, y62y, y24y, true_and, if_true, if_false, Bool.not_true, Bool.not_false, Bool.false_eq_true, yby, ydy, yay, ycy, yey, y15y, y17y, y14y, y16y, y18y, y6y, y8y, y5y, y7y, y9y, y1y, y3y, y0y, y2y, y4y, y10y, y12y, yfy, y11y, y13y, y1ay, y1cy, y19y, y1by, y1dy, y1fy, y21y, y1ey, y20y, y22y, y7fy, y77y, y6ey, y30y, y31y, y50y, y5dy, y5ey, y4by, y80y, y83y, y8cy, y79y, y27y, V.int.injEq, V.str.injEq, List.set_cons_zero, List.set_cons_succ, List.getElem?_cons_zero, List.getElem?_cons_succ, Option.some.injEq, exists_eq_left, exists_eq_left', V.bl.injEq, Int.reduceToNat, Int.reducePow, List.append_nil, List.nil_append, List.cons_append, y52y, y54y, y2by, y2cy, y65y, y5ay, y70y, y60y, y61y, y3ay, y3by, y3cy, y43y, y45y, y3ey, y76y, y40y, y3fy, y4fy, y33y, y35y, y37y, y38y, y34y, y36y, y7cy, y58y, y8ay, y3dy, y41y, reduceCtorEq, decide_false, decide_true, y57y, in_letters]
          refine ⟨_, Nat.sub_lt_sub_left lt (Nat.lt_succ_self i), lt, rfl, ?_⟩
          have hc' : z.cps.toList[i]? = some c := by simpa using hc
          rw [List.take_succ, hc']
          simp
        · have ei : i = z.cps.size := by omega
          refine .inl ⟨ei, ?_⟩
          subst ei
          rw [List.take_of_length_le (by simp)]
          intro p hp
          generalize qp : upd H2 p _ = H3
          have S := newS hp qp
          have e3 := newE qp
          refine ⟨p, z.cps.toList.map lowB, rfl, SqL.of (by rw [e3, List.map_map]; rfl), ?_⟩
          have := k H3 S
          simpa [List.all_map] using this
  · have ef : nameB d = false := by cases d <;> first | rfl | exact absurd ⟨_, rfl⟩ hs
    rw [ef] at k
    have et : isiB (tyD d) "str" = false := by cases d <;> first | rfl | exact absurd ⟨_, rfl⟩ hs
    simp only [et, y7dy, y4cy, y4dy, y4ey, y6cy, y2ay, y67y, y7ay, y7by, y44y, y2dy, y73y, y89y, y2fy, y39y, y6dy, y2ey, y82y, y23y, y28y, y74y, y6fy, y29y, y75y, y71y, y56y, y8by, y26y, y81y, y6by, y64y, y49y, y63y, y78y, y32y, y47y, y69y, y48y, y6ay, y46y, y68y, y84y, y5fy, y5by, y86y, y88y, y85y, y87y, y25y, y62y, y24y, true_and, if_true, if_false, Bool.not_true, Bool.not_false, Bool.false_eq_true, yby, ydy, yay, ycy, yey, y15y, y17y, y14y, y16y, y18y, y6y, y8y, y5y, y7y, y9y, y1y, y3y, y0y, y2y, y4y, y10y, y12y, yfy, y11y, y13y, y1ay, y1cy, y19y, y1by, y1dy, y1fy, y21y, y1ey, y20y, y22y, y7fy, y77y, y6ey, y30y, y31y, y50y, y5dy, y5ey, y4by, y80y, y83y, y8cy, y79y, y27y, V.int.injEq, V.str.injEq, List.set_cons_zero, List.set_cons_succ, List.getElem?_cons_zero, List.getElem?_cons_succ, Option.some.injEq, exists_eq_left, exists_eq_left', V.bl.injEq, Int.reduceToNat, Int.reducePow, List.append_nil, List.nil_append, List.cons_append, y52y, y54y, y2by, y2cy, y65y, y5ay, y70y, y60y, y61y, y3ay, y3by, y3cy, y43y, y45y, y3ey, y76y, y40y, y3fy, y4fy, y33y, y35y, y37y, y38y, y34y, y36y, y7cy, y58y, y8ay, y3dy, y41y, reduceCtorEq, decide_false, decide_true]
    exact k H (.refl H)
abbrev s_is_whole : Stmt := top 19
theorem sc_is_whole : FnScope ["thing"] ["thing"] (defScope s_is_whole) := ⟨rfl, rfl, rfl, by decide +kernel, rfl, by decide +kernel, by decide +kernel⟩
def sp_is_whole (K : PySem.W.Frag) : Sp := fun vs H Q E => ∃ (x : V) (d : D), vs = [x] ∧ Rep K H d x ∧ Q (.bl (wholeB d)) H
theorem ok_is_whole {f : Addr} {fd : FuncData} {dV : Value} (F : FunD K "is_whole" "is_whole" s_is_whole dV f fd) (T : Txt K mg Ad)  : FnOk P w K mg base (CX1 P w) 1 f fd ["thing"] (sp_is_whole K) := by
  refine F.okn sc_is_whole (fun vs H Q E h => ?_) (fun cdv A outer s H vs Q E hr h => ?_)
  · obtain ⟨x, d, rfl, _⟩ := h; rfl
  obtain ⟨x, d, rfl, h⟩ := h
  have hu := hr.units
  refine ⟨_, (pss_one (ps_ret (pe_and (pe_callB call_isinstanceU rfl T.n_isinstance bt_isinstance (pa_cons (pv 0) (pa_cons (pe_bltn (v := .ty "int") rfl T.n_int bt_int rfl) pa_nil))) (pe_one (pe_not (pe_callB call_isinstanceU rfl T.n_isinstance bt_isinstance (pa_cons (pv 0) (pa_cons (pe_bltn (v := .ty "bool") rfl T.n_bool bt_bool rfl) pa_nil)))))))), ?_⟩
  obtain ⟨hx, k⟩ := h
  show tRet _ _ [some x] H
  try infer_instance
  refine ⟨_, hx.tyN, ?_⟩
  have hty := hx.tyN
  cases d <;> simp only [tyD, wholeB, y7dy, y4cy, y4dy, y4ey, y6cy, y2ay, y67y, y7ay, y7by, y44y, y2dy, y73y, y89y, y2fy, y39y, y6dy, y2ey, y82y, y23y, y28y, y74y, y6fy, y29y, y75y, y71y, y56y, y8by, y26y, y81y, y6by, y64y, y49y, y63y, y78y, y32y, y47y, y69y, y48y, y6ay, y46y, y68y, y84y, y5fy, y5by, y86y, y88y, y85y, y87y, y25y, y62y, y24y, true_and, if_true, if_false, Bool.not_true, Bool.not_false, Bool.false_eq_true, yby, ydy, yay, ycy, yey, y15y, y17y, y14y, y16y, y18y, y6y, y8y, y5y, y7y, y9y, y1y, y3y, y0y, y2y, y4y, y10y, y12y, yfy, y11y, y13y, y1ay, y1cy, y19y, y1by, y1dy, y1fy, y21y, y1ey, y20y, y22y, y7fy, y77y, y6ey, y30y, y31y, y50y, y5dy, y5ey, y4by, y80y, y83y, y8cy, y79y, y27y, V.int.injEq, V.str.injEq, List.set_cons_zero, List.set_cons_succ, List.getElem?_cons_zero, List.getElem?_cons_succ, Option.some.injEq, exists_eq_left, exists_eq_left', V.bl.injEq, Int.reduceToNat, Int.reducePow, List.append_nil, List.nil_append, List.cons_append, y52y, y54y, y2by, y2cy, y65y, y5ay, y70y, y60y, y61y, y3ay, y3by, y3cy, y43y, y45y, y3ey, y76y, y40y, y3fy, y4fy, y33y, y35y, y37y, y38y, y34y, y36y, y7cy, y58y, y8ay, y3dy, y41y, reduceCtorEq, decide_false, decide_true] at k hty ⊢ <;> first | exact k | exact ⟨_, hty, by simpa only [y7dy, y4cy, y4dy, y4ey, y6cy, y2ay, y67y, y7ay, y7by, y44y, y2dy, y73y, y89y, y2fy, y39y, y6dy, y2ey, y82y, y23y, y28y, y74y, y6fy, y29y, y75y, y71y, y56y, y8by, y26y, y81y, y6by, y64y, y49y, y63y, y78y, y32y, y47y, y69y, y48y, y6ay, y46y, y68y, y84y, y5fy, y5by, y86y, y88y, y85y, y87y, y25y, y62y, y24y, true_and, if_true, if_false, Bool.not_true, Bool.not_false, Bool.false_eq_true, yby, ydy, yay, ycy, yey, y15y, y17y, y14y, y16y, y18y, y6y, y8y, y5y, y7y, y9y, y1y, y3y, y0y, y2y, y4y, y10y, y12y, yfy, y11y, y13y, y1ay, y1cy, y19y, y1by, y1dy, y1fy, y21y, y1ey, y20y, y22y, y7fy, y77y, y6ey, y30y, y31y, y50y, y5dy, y5ey, y4by, y80y, y83y, y8cy, y79y, y27y, V.int.injEq, V.str.injEq, List.set_cons_zero, List.set_cons_succ, List.getElem?_cons_zero, List.getElem?_cons_succ, Option.some.injEq, exists_eq_left, exists_eq_left', V.bl.injEq, Int.reduceToNat, Int.reducePow, List.append_nil, List.nil_append, List.cons_append, y52y, y54y, y2by, y2cy, y65y, y5ay, y70y, y60y, y61y, y3ay, y3by, y3cy, y43y, y45y, y3ey, y76y, y40y, y3fy, y4fy, y33y, y35y, y37y, y38y, y34y, y36y, y7cy, y58y, y8ay, y3dy, y41y, reduceCtorEq, decide_false, decide_true] using k⟩
abbrev s_is_fraction : Stmt := top 20
theorem sc_is_fraction : FnScope ["thing"] ["thing"] (defScope s_is_fraction) := ⟨rfl, rfl, rfl, by decide +kernel, rfl, by decide +kernel, by decide +kernel⟩
def sp_is_fraction (K : PySem.W.Frag) : Sp := fun vs H Q E => ∃ (x : V) (d : D), vs = [x] ∧ Rep K H d x ∧ Q (.bl (fracB d)) H
theorem ok_is_fraction {f : Addr} {fd : FuncData} {dV : Value} (F : FunD K "is_fraction" "is_fraction" s_is_fraction dV f fd) (T : Txt K mg Ad) (c_is_whole : Cal P w K mg base 1 "is_whole" ["thing"] [] (sp_is_whole K)) (c_common_divisor : Cal P w K mg base 1 "common_divisor" ["one", "other"] [] (sp_common_divisor)) : FnOk P w K mg base (CX1 P w) 2 f fd ["thing"] (sp_is_fraction K) := by
  refine F.okn sc_is_fraction (fun vs H Q E h => ?_) (fun cdv A outer s H vs Q E hr h => ?_)
  · obtain ⟨x, d, rfl, _⟩ := h; rfl
  obtain ⟨x, d, rfl, h⟩ := h
  have hu := hr.units
  refine ⟨_, (pss_cons (ps_if (PW.pt (pw_or (pt_not (pt_val (pe_callB call_isinstanceU rfl T.n_isinstance bt_isinstance (pa_cons (pv 0) (pa_cons (pe_bltn (v := .ty "tuple") rfl T.n_tuple bt_tuple rfl) pa_nil))))) (pw_or1 (pt_cmpR (op_neU hu) (pe_callB call_lenU rfl T.n_len bt_len (pa_cons (pv 0) pa_nil)) pe_int (nomark _)))))
      (pss_one (ps_ret pe_bl))
      pss_nil)
      (pss_cons (ps_if (PW.pt (pw_or (pt_not (pt_val (c_is_whole.ev hr (by decide) rfl passF (pa_cons (pe_ix ix_U (pv 0) pe_int (fun _ _ => rfl)) pa_nil)))) (pw_or1 (pt_not (pt_val (c_is_whole.ev hr (by decide) rfl passF (pa_cons (pe_ix ix_U (pv 0) pe_int (fun _ _ => rfl)) pa_nil)))))))
      (pss_one (ps_ret pe_bl))
      pss_nil)
      (pss_one (ps_ret (pe_and (pe_cmpR op_geU (pe_ix ix_U (pv 0) pe_int (fun _ _ => rfl)) pe_int (nomark _)) (pe_one (pe_cmpR (op_eqU hu) (c_common_divisor.ev hr (by decide) rfl passF (pa_cons (pe_ix ix_U (pv 0) pe_int (fun _ _ => rfl)) (pa_cons (pe_ix ix_U (pv 0) pe_int (fun _ _ => rfl)) pa_nil))) pe_int (nomark _)))))))), ?_⟩
  obtain ⟨hx, k⟩ := h
  show tSeq _ _ _ [some x] H
  try infer_instance
  refine ⟨_, hx.tyN, ?_⟩
  by_cases ht : ∃ ds, d = .tup ds
  · obtain ⟨ds, rfl⟩ := ht
    simp only [tyD, y7dy, y4cy, y4dy, y4ey, y6cy, y2ay, y67y, y7ay, y7by, y44y, y2dy, y73y, y89y, y2fy, y39y, y6dy, y2ey, y82y, y23y, y28y, y74y, y6fy, y29y, y75y, y71y, y56y, y8by, y26y, y81y, y6by, y64y, y49y, y63y, y78y, y32y, y47y, y69y, y48y, y6ay, y46y, y68y, y84y, y5fy, y5by, y86y, y88y, y85y, y87y, y25y, y62y, y24y, true_and, if_true, if_false, Bool.not_true, Bool.not_false, Bool.false_eq_true, yby, ydy, yay, ycy, yey, y15y, y17y, y14y, y16y, y18y, y6y, y8y, y5y, y7y, y9y, y1y, y3y, y0y, y2y, y4y, y10y, y12y, yfy, y11y, y13y, y1ay, y1cy, y19y, y1by, y1dy, y1fy, y21y, y1ey, y20y, y22y, y7fy, y77y, y6ey, y30y, y31y, y50y, y5dy, y5ey, y4by, y80y, y83y, y8cy, y79y, y27y, V.int.injEq, V.str.injEq, List.set_cons_zero, List.set_cons_succ, List.getElem?_cons_zero, List.getElem?_cons_succ, Option.some.injEq, exists_eq_left, exists_eq_left', V.bl.injEq, Int.reduceToNat, Int.reducePow, List.append_nil, List.nil_append, List.cons_append, y52y, y54y, y2by, y2cy, y65y, y5ay, y70y, y60y, y61y, y3ay, y3by, y3cy, y43y, y45y, y3ey, y76y, y40y, y3fy, y4fy, y33y, y35y, y37y, y38y, y34y, y36y, y7cy, y58y, y8ay, y3dy, y41y, reduceCtorEq, decide_false, decide_true]
    simp only [Rep] at hx
    obtain ⟨a, xs, rfl, hq, hr⟩ := hx
    have hl := hr.length
    refine ⟨xs, .inr hq, ?_⟩
    try infer_instance
    by_cases h2 : ds.length = 2
    · match ds, h2 with
      | [d0, d1], _ =>
        simp only [RepL] at hr
        obtain ⟨v0, r0, rfl, h0, v1, r1, rfl, h1, rfl⟩ := hr
        simp only [List.length_cons, List.length_nil, y7dy, y4cy, y4dy, y4ey, y6cy, y2ay, y67y, y7ay, y7by, y44y, y2dy, y73y, y89y, y2fy, y39y, y6dy, y2ey, y82y, y23y, y28y, y74y, y6fy, y29y, y75y, y71y, y56y, y8by, y26y, y81y, y6by, y64y, y49y, y63y, y78y, y32y, y47y, y69y, y48y, y6ay, y46y, y68y, y84y, y5fy, y5by, y86y, y88y, y85y, y87y, y25y, y62y, y24y, true_and, if_true, if_false, Bool.not_true, Bool.not_false, Bool.false_eq_true, yby, ydy, yay, ycy, yey, y15y, y17y, y14y, y16y, y18y, y6y, y8y, y5y, y7y, y9y, y1y, y3y, y0y, y2y, y4y, y10y, y12y, yfy, y11y, y13y, y1ay, y1cy, y19y, y1by, y1dy, y1fy, y21y, y1ey, y20y, y22y, y7fy, y77y, y6ey, y30y, y31y, y50y, y5dy, y5ey, y4by, y80y, y83y, y8cy, y79y, y27y, V.int.injEq, V.str.injEq, List.set_cons_zero, List.set_cons_succ, List.getElem?_cons_zero, List.getElem?_cons_succ, Option.some.injEq, exists_eq_left, exists_eq_left', V.bl.injEq, Int.reduceToNat, Int.reducePow, List.append_nil, List.nil_append, List.cons_append, y52y, y54y, y2by, y2cy, y65y, y5ay, y70y, y60y, y61y, y3ay, y3by, y3cy, y43y, y45y, y3ey, y76y, y40y, y3fy, y4fy, y33y, y35y, y37y, y38y, y34y, y36y, y7cy, y58y, y8ay, y3dy, y41y, reduceCtorEq, decide_false, decide_true]
        rw [if_neg (by simp)]
        try infer_instance
        refine ixT0 hq ?_
        refine ⟨v0, d0, rfl, h0, ?_⟩
        try infer_instance
        by_cases w0 : wholeB d0 = true
        · rw [if_neg (by simp [w0])]
          refine ixT1 hq ?_
          refine ⟨v1, d1, rfl, h1, ?_⟩
          try infer_instance
          by_cases w1 : wholeB d1 = true
          · rw [if_neg (by simp [w1])]
            obtain ⟨i, rfl⟩ : ∃ i, d0 = .int i := by cases d0 <;> simp [wholeB] at w0; exact ⟨_, rfl⟩
            obtain ⟨j, rfl⟩ : ∃ j, d1 = .int j := by cases d1 <;> simp [wholeB] at w1; exact ⟨_, rfl⟩
            simp only [Rep] at h0 h1
            subst h0 h1
            simp only [fracB] at k
            try infer_instance
            refine ixT1 hq ?_
            try infer_instance
            by_cases c : 1 ≤ j
            · rw [if_pos (by simpa using c)]
              refine ixT0 hq (ixT1 hq ?_)
              refine ⟨_, _, rfl, ?_⟩
              try infer_instance
              simpa [c] using k
            · rw [if_neg (by simpa using c)]
              simpa [c] using k
          · rw [if_pos (by simp [w1])]
            try infer_instance
            have ef : fracB (.tup [d0, d1]) = false := by cases d0 <;> cases d1 <;> simp_all [fracB, wholeB]
            rw [ef] at k
            exact k
        · rw [if_pos (by simp [w0])]
          try infer_instance
          have ef : fracB (.tup [d0, d1]) = false := by cases d0 <;> cases d1 <;> simp_all [fracB, wholeB]
          rw [ef] at k
          exact k
    · rw [if_pos (by simp; omega)]
      have ef : fracB (.tup ds) = false := by
        match ds, h2 with
        | [], _ => rfl
        | [_], _ => simp [fracB]
        | _ :: _ :: _ :: _, _ => simp [fracB]
      rw [ef] at k
      try infer_instance
      exact k
  · have ef : fracB d = false := by cases d <;> first | rfl | exact absurd ⟨_, rfl⟩ ht
    rw [ef] at k
    have et : isiB (tyD d) "tuple" = false := by cases d <;> first | rfl | exact absurd ⟨_, rfl⟩ ht
    simp only [et, y7dy, y4cy, y4dy, y4ey, y6cy, y2ay, y67y, y7ay, y7by, y44y, y2dy, y73y, y89y, y2fy, y39y, y6dy, y2ey, y82y, y23y, y28y, y74y, y6fy, y29y, y75y, y71y, y56y, y8by, y26y, y81y, y6by, y64y, y49y, y63y, y78y, y32y, y47y, y69y, y48y, y6ay, y46y, y68y, y84y, y5fy, y5by, y86y, y88y, y85y, y87y, y25y, y62y, y24y, true_and, if_true, if_false, Bool.not_true, Bool.not_false, Bool.false_eq_true, yby, ydy, yay, ycy, yey, y15y, y17y, y14y, y16y, y18y, y6y, y8y, y5y, y7y, y9y, y1y, y3y, y0y, y2y, y4y, y10y, y12y, yfy, y11y, y13y, y1ay, y1cy, y19y, y1by, y1dy, y1fy, y21y, y1ey, y20y, y22y, y7fy, y77y, y6ey, y30y, y31y, y50y, y5dy, y5ey, y4by, y80y, y83y, y8cy, y79y, y27y, V.int.injEq, V.str.injEq, List.set_cons_zero, List.set_cons_succ, List.getElem?_cons_zero, List.getElem?_cons_succ, Option.some.injEq, exists_eq_left, exists_eq_left', V.bl.injEq, Int.reduceToNat, Int.reducePow, List.append_nil, List.nil_append, List.cons_append, y52y, y54y, y2by, y2cy, y65y, y5ay, y70y, y60y, y61y, y3ay, y3by, y3cy, y43y, y45y, y3ey, y76y, y40y, y3fy, y4fy, y33y, y35y, y37y, y38y, y34y, y36y, y7cy, y58y, y8ay, y3dy, y41y, reduceCtorEq, decide_false, decide_true]
    exact k
abbrev s_is_bound : Stmt := top 21
theorem sc_is_bound : FnScope ["thing"] ["thing"] (defScope s_is_bound) := ⟨rfl, rfl, rfl, by decide +kernel, rfl, by decide +kernel, by decide +kernel⟩
def sp_is_bound (K : PySem.W.Frag) : Sp := fun vs H Q E => ∃ (x : V) (d : D), vs = [x] ∧ Rep K H d x ∧ Q (.bl (boundB d)) H
theorem ok_is_bound {f : Addr} {fd : FuncData} {dV : Value} (F : FunD K "is_bound" "is_bound" s_is_bound dV f fd) (T : Txt K mg Ad) (c_is_fraction : Cal P w K mg base 2 "is_fraction" ["thing"] [] (sp_is_fraction K)) : FnOk P w K mg base (CX1 P w) 3 f fd ["thing"] (sp_is_bound K) := by
  refine F.okn sc_is_bound (fun vs H Q E h => ?_) (fun cdv A outer s H vs Q E hr h => ?_)
  · obtain ⟨x, d, rfl, _⟩ := h; rfl
  obtain ⟨x, d, rfl, h⟩ := h
  have hu := hr.units
  refine ⟨_, (pss_one (ps_ret (pe_or (pe_cmpR op_isNU (pv 0) pe_non (nomark _)) (pe_one (c_is_fraction.ev hr (by decide) rfl passF (pa_cons (pv 0) pa_nil)))))), ?_⟩
  obtain ⟨hx, k⟩ := h
  show tRet _ _ [some x] H
  try infer_instance
  by_cases hn : d = .non
  · subst hn
    simp only [Rep] at hx
    subst hx
    simp only [decide_true, y7dy, y4cy, y4dy, y4ey, y6cy, y2ay, y67y, y7ay, y7by, y44y, y2dy, y73y, y89y, y2fy, y39y, y6dy, y2ey, y82y, y23y, y28y, y74y, y6fy, y29y, y75y, y71y, y56y, y8by, y26y, y81y, y6by, y64y, y49y, y63y, y78y, y32y, y47y, y69y, y48y, y6ay, y46y, y68y, y84y, y5fy, y5by, y86y, y88y, y85y, y87y, y25y, y62y, y24y, true_and, if_true, if_false, Bool.not_true, Bool.not_false, Bool.false_eq_true, yby, ydy, yay, ycy, yey, y15y, y17y, y14y, y16y, y18y, y6y, y8y, y5y, y7y, y9y, y1y, y3y, y0y, y2y, y4y, y10y, y12y, yfy, y11y, y13y, y1ay, y1cy, y19y, y1by, y1dy, y1fy, y21y, y1ey, y20y, y22y, y7fy, y77y, y6ey, y30y, y31y, y50y, y5dy, y5ey, y4by, y80y, y83y, y8cy, y79y, y27y, V.int.injEq, V.str.injEq, List.set_cons_zero, List.set_cons_succ, List.getElem?_cons_zero, List.getElem?_cons_succ, Option.some.injEq, exists_eq_left, exists_eq_left', V.bl.injEq, Int.reduceToNat, Int.reducePow, List.append_nil, List.nil_append, List.cons_append, y52y, y54y, y2by, y2cy, y65y, y5ay, y70y, y60y, y61y, y3ay, y3by, y3cy, y43y, y45y, y3ey, y76y, y40y, y3fy, y4fy, y33y, y35y, y37y, y38y, y34y, y36y, y7cy, y58y, y8ay, y3dy, y41y, reduceCtorEq, decide_false, decide_true]
    exact k
  · have xn : x ≠ .non := by
      rintro rfl
      cases d <;> simp [Rep] at hx
      exact hn rfl
    rw [if_neg (by simpa using xn)]
    have ef : boundB d = fracB d := by cases d <;> first | rfl | exact absurd rfl hn
    rw [ef] at k
    exact ⟨x, d, rfl, hx, k⟩
abbrev s_are_faces : Stmt := top 22
theorem sc_are_faces : FnScope ["one", "other"] ["one", "other"] (defScope s_are_faces) := ⟨rfl, rfl, rfl, by decide +kernel, rfl, by decide +kernel, by decide +kernel⟩
def sp_are_faces (K : PySem.W.Frag) : Sp := fun vs H Q E => ∃ (x y : V) (d e : D), vs = [x, y] ∧ Rep K H d x ∧ Rep K H e y ∧ szD d ∧ szD e ∧ ∀ H', Same H H' → Q (.bl (facesB d e)) H'
theorem ok_are_faces {f : Addr} {fd : FuncData} {dV : Value} (F : FunD K "are_faces" "are_faces" s_are_faces dV f fd) (T : Txt K mg Ad) (c_is_name : Cal P w K mg base 1 "is_name" ["thing"] [] (sp_is_name K)) : FnOk P w K mg base (CX1 P w) 2 f fd ["one", "other"] (sp_are_faces K) := by
  refine F.okn sc_are_faces (fun vs H Q E h => ?_) (fun cdv A outer s H vs Q E hr h => ?_)
  · obtain ⟨x, y, d, e, rfl, _⟩ := h; rfl
  obtain ⟨x, y, d, e, rfl, h⟩ := h
  have hu := hr.units
  refine ⟨_, (pss_one (ps_ret (pe_and (c_is_name.ev hr (by decide) rfl passF (pa_cons (pv 0) pa_nil)) (pe_and (c_is_name.ev hr (by decide) rfl passF (pa_cons (pv 1) pa_nil)) (pe_one (pe_cmpR (op_neU hu) (pv 0) (pv 1) (nomark _))))))), ?_⟩
  obtain ⟨hx, hy, sx, sy, k⟩ := h
  show tRet _ _ [some x, some y] H
  try infer_instance
  refine ⟨x, d, rfl, hx, sx, fun H1 S1 => ?_⟩
  try infer_instance
  unfold facesB at k
  by_cases c1 : nameB d = true
  · rw [if_pos c1]
    refine ⟨y, e, rfl, hy.same S1, sy, fun H2 S2 => ?_⟩
    try infer_instance
    by_cases c2 : nameB e = true
    · rw [if_pos c2]
      obtain ⟨z, rfl, _⟩ := name_shape c1
      obtain ⟨z', rfl, _⟩ := name_shape c2
      have e1 := hx.str
      have e2 := hy.str
      subst e1 e2
      try infer_instance
      have := k H2 (S1.trans S2)
      rw [c1, c2] at this
      simpa [eqD, BEq.beq] using this
    · rw [if_neg c2]
      have := k H2 (S1.trans S2)
      have e2 : nameB e = false := by simpa using c2
      rw [c1, e2] at this
      exact this
  · rw [if_neg c1]
    have := k H1 S1
    have e1 : nameB d = false := by simpa using c1
    rw [e1] at this
    exact this
abbrev s_are_bounds : Stmt := top 23
theorem sc_are_bounds : FnScope ["least", "greatest"] ["least", "greatest"] (defScope s_are_bounds) := ⟨rfl, rfl, rfl, by decide +kernel, rfl, by decide +kernel, by decide +kernel⟩
def sp_are_bounds (K : PySem.W.Frag) : Sp := fun vs H Q E => ∃ (x y : V) (d e : D), vs = [x, y] ∧ Rep K H d x ∧ Rep K H e y ∧ szD d ∧ szD e ∧ Q (.bl (boundsB d e)) H
theorem ok_are_bounds {f : Addr} {fd : FuncData} {dV : Value} (F : FunD K "are_bounds" "are_bounds" s_are_bounds dV f fd) (T : Txt K mg Ad) (c_is_bound : Cal P w K mg base 3 "is_bound" ["thing"] [] (sp_is_bound K)) (c_under : Cal P w K mg base 1 "under" ["one", "other"] [] (sp_under K)) : FnOk P w K mg base (CX1 P w) 4 f fd ["least", "greatest"] (sp_are_bounds K) := by
  refine F.okn sc_are_bounds (fun vs H Q E h => ?_) (fun cdv A outer s H vs Q E hr h => ?_)
  · obtain ⟨x, y, d, e, rfl, _⟩ := h; rfl
  obtain ⟨x, y, d, e, rfl, h⟩ := h
  have hu := hr.units
  refine ⟨_, (pss_cons (ps_if (PW.pt (pw_or (pt_not (pt_val (c_is_bound.ev hr (by decide) rfl passF (pa_cons (pv 0) pa_nil)))) (pw_or1 (pt_not (pt_val (c_is_bound.ev hr (by decide) rfl passF (pa_cons (pv 1) pa_nil)))))))
      (pss_one (ps_ret pe_bl))
      pss_nil)
      (pss_cons (ps_if (PW.pt (pw_or (pt_cmpR op_isNU (pv 0) pe_non (nomark _)) (pw_or1 (pt_cmpR op_isNU (pv 1) pe_non (nomark _)))))
      (pss_one (ps_ret pe_bl))
      pss_nil)
      (pss_one (ps_ret (pe_not (c_under.ev hr (by decide) rfl passF (pa_cons (pv 1) (pa_cons (pv 0) pa_nil)))))))), ?_⟩
  obtain ⟨hx, hy, sx, sy, k⟩ := h
  show tSeq _ _ _ [some x, some y] H
  try infer_instance
  unfold boundsB at k
  refine ⟨x, d, rfl, hx, ?_⟩
  try infer_instance
  by_cases c1 : boundB d = true
  · rw [if_neg (by simp [c1])]
    refine ⟨y, e, rfl, hy, ?_⟩
    try infer_instance
    by_cases c2 : boundB e = true
    · rw [if_neg (by simp [c2])]
      simp only [y7dy, y4cy, y4dy, y4ey, y6cy, y2ay, y67y, y7ay, y7by, y44y, y2dy, y73y, y89y, y2fy, y39y, y6dy, y2ey, y82y, y23y, y28y, y74y, y6fy, y29y, y75y, y71y, y56y, y8by, y26y, y81y, y6by, y64y, y49y, y63y, y78y, y32y, y47y, y69y, y48y, y6ay, y46y, y68y, y84y, y5fy, y5by, y86y, y88y, y85y, y87y, y25y, y62y, y24y, true_and, if_true, if_false, Bool.not_true, Bool.not_false, Bool.false_eq_true, yby, ydy, yay, ycy, yey, y15y, y17y, y14y, y16y, y18y, y6y, y8y, y5y, y7y, y9y, y1y, y3y, y0y, y2y, y4y, y10y, y12y, yfy, y11y, y13y, y1ay, y1cy, y19y, y1by, y1dy, y1fy, y21y, y1ey, y20y, y22y, y7fy, y77y, y6ey, y30y, y31y, y50y, y5dy, y5ey, y4by, y80y, y83y, y8cy, y79y, y27y, V.int.injEq, V.str.injEq, List.set_cons_zero, List.set_cons_succ, List.getElem?_cons_zero, List.getElem?_cons_succ, Option.some.injEq, exists_eq_left, exists_eq_left', V.bl.injEq, Int.reduceToNat, Int.reducePow, List.append_nil, List.nil_append, List.cons_append, y52y, y54y, y2by, y2cy, y65y, y5ay, y70y, y60y, y61y, y3ay, y3by, y3cy, y43y, y45y, y3ey, y76y, y40y, y3fy, y4fy, y33y, y35y, y37y, y38y, y34y, y36y, y7cy, y58y, y8ay, y3dy, y41y, reduceCtorEq, decide_false, decide_true, hx.nonV, hy.nonV]
      rw [c1, c2] at k
      by_cases n1 : d = .non
      · rw [if_pos (by simp [n1, nonD])]
        try infer_instance
        have : lessD e d = false := by subst n1; unfold lessD; split <;> first | rfl | simp_all
        rw [this] at k
        exact k
      · rw [if_neg (by simp [nonD_no n1])]
        by_cases n2 : e = .non
        · rw [if_pos (by simp [n2, nonD])]
          try infer_instance
          have : lessD e d = false := by subst n2; rfl
          rw [this] at k
          exact k
        · rw [if_neg (by simp [nonD_no n2])]
          try infer_instance
          have f1 : fracB d = true := by cases d <;> first | exact c1 | exact absurd rfl n1
          have f2 : fracB e = true := by cases e <;> first | exact c2 | exact absurd rfl n2
          obtain ⟨a, b, rfl, _, _⟩ := frac_shape f1
          obtain ⟨a', b', rfl, _, _⟩ := frac_shape f2
          simp only [szD, szL] at sx sy
          refine ⟨y, x, a', b', a, b, rfl, FrV.of_rep hy, FrV.of_rep hx, sy.1, sy.2.1, sx.1, sx.2.1, ?_⟩
          try infer_instance
          simpa [lessD] using k
    · rw [if_pos (by simp [c2])]
      try infer_instance
      have e2 : boundB e = false := by simpa using c2
      rw [c1, e2] at k
      exact k
  · rw [if_pos (by simp [c1])]
    try infer_instance
    have e1 : boundB d = false := by simpa using c1
    rw [e1] at k
    exact k
abbrev s_is_tie : Stmt := top 24
theorem sc_is_tie : FnScope ["thing"] ["thing"] (defScope s_is_tie) := ⟨rfl, rfl, rfl, by decide +kernel, rfl, by decide +kernel, by decide +kernel⟩
def sp_is_tie (K : PySem.W.Frag) : Sp := fun vs H Q E => ∃ (x : V) (d : D), vs = [x] ∧ Rep K H d x ∧ szD d ∧ ∀ H', Same H H' → Q (.bl (tieB d)) H'
theorem ok_is_tie {f : Addr} {fd : FuncData} {dV : Value} (F : FunD K "is_tie" "is_tie" s_is_tie dV f fd) (T : Txt K mg Ad) (c_is_name : Cal P w K mg base 1 "is_name" ["thing"] [] (sp_is_name K)) (c_are_faces : Cal P w K mg base 2 "are_faces" ["one", "other"] [] (sp_are_faces K)) (c_are_bounds : Cal P w K mg base 4 "are_bounds" ["least", "greatest"] [] (sp_are_bounds K)) : FnOk P w K mg base (CX1 P w) 5 f fd ["thing"] (sp_is_tie K) := by
  refine F.okn sc_is_tie (fun vs H Q E h => ?_) (fun cdv A outer s H vs Q E hr h => ?_)
  · obtain ⟨x, d, rfl, _⟩ := h; rfl
  obtain ⟨x, d, rfl, h⟩ := h
  have hu := hr.units
  refine ⟨_, (pss_cons (ps_if (PW.pt (pw_or (pt_not (pt_val (pe_callB call_isinstanceU rfl T.n_isinstance bt_isinstance (pa_cons (pv 0) (pa_cons (pe_bltn (v := .ty "tuple") rfl T.n_tuple bt_tuple rfl) pa_nil))))) (pw_or1 (pt_cmpR (op_neU hu) (pe_callB call_lenU rfl T.n_len bt_len (pa_cons (pv 0) pa_nil)) pe_int (nomark _)))))
      (pss_one (ps_ret pe_bl))
      pss_nil)
      (pss_one (ps_ret (pe_and (c_is_name.ev hr (by decide) rfl passF (pa_cons (pe_ix ix_U (pv 0) pe_int (fun _ _ => rfl)) pa_nil)) (pe_and (c_are_faces.ev hr (by decide) rfl passF (pa_cons (pe_ix ix_U (pv 0) pe_int (fun _ _ => rfl)) (pa_cons (pe_ix ix_U (pv 0) pe_int (fun _ _ => rfl)) pa_nil))) (pe_one (c_are_bounds.ev hr (by decide) rfl passF (pa_cons (pe_ix ix_U (pv 0) pe_int (fun _ _ => rfl)) (pa_cons (pe_ix ix_U (pv 0) pe_int (fun _ _ => rfl)) pa_nil))))))))), ?_⟩
  obtain ⟨hx, sz, k⟩ := h
  show tSeq _ _ _ [some x] H
  try infer_instance
  refine ⟨_, hx.tyN, ?_⟩
  by_cases ht : ∃ ds, d = .tup ds
  · obtain ⟨ds, rfl⟩ := ht
    simp only [tyD, y7dy, y4cy, y4dy, y4ey, y6cy, y2ay, y67y, y7ay, y7by, y44y, y2dy, y73y, y89y, y2fy, y39y, y6dy, y2ey, y82y, y23y, y28y, y74y, y6fy, y29y, y75y, y71y, y56y, y8by, y26y, y81y, y6by, y64y, y49y, y63y, y78y, y32y, y47y, y69y, y48y, y6ay, y46y, y68y, y84y, y5fy, y5by, y86y, y88y, y85y, y87y, y25y, y62y, y24y, true_and, if_true, if_false, Bool.not_true, Bool.not_false, Bool.false_eq_true, yby, ydy, yay, ycy, yey, y15y, y17y, y14y, y16y, y18y, y6y, y8y, y5y, y7y, y9y, y1y, y3y, y0y, y2y, y4y, y10y, y12y, yfy, y11y, y13y, y1ay, y1cy, y19y, y1by, y1dy, y1fy, y21y, y1ey, y20y, y22y, y7fy, y77y, y6ey, y30y, y31y, y50y, y5dy, y5ey, y4by, y80y, y83y, y8cy, y79y, y27y, V.int.injEq, V.str.injEq, List.set_cons_zero, List.set_cons_succ, List.getElem?_cons_zero, List.getElem?_cons_succ, Option.some.injEq, exists_eq_left, exists_eq_left', V.bl.injEq, Int.reduceToNat, Int.reducePow, List.append_nil, List.nil_append, List.cons_append, y52y, y54y, y2by, y2cy, y65y, y5ay, y70y, y60y, y61y, y3ay, y3by, y3cy, y43y, y45y, y3ey, y76y, y40y, y3fy, y4fy, y33y, y35y, y37y, y38y, y34y, y36y, y7cy, y58y, y8ay, y3dy, y41y, reduceCtorEq, decide_false, decide_true]
    simp only [Rep] at hx
    obtain ⟨a, xs, rfl, hq, hr⟩ := hx
    have hl := hr.length
    refine ⟨xs, .inr hq, ?_⟩
    try infer_instance
    by_cases h5 : ds.length = 5
    · match ds, h5 with
      | [d0, d1, d2, d3, d4], _ =>
        simp only [RepL] at hr
        obtain ⟨v0, r0, rfl, h0, v1, r1, rfl, h1, v2, r2, rfl, h2, v3, r3, rfl, h3, v4, r4, rfl, h4, rfl⟩ := hr
        simp only [szD, szL] at sz
        obtain ⟨s0, s1, s2, s3, s4, _⟩ := sz
        simp only [tieB] at k
        simp only [List.length_cons, List.length_nil, y7dy, y4cy, y4dy, y4ey, y6cy, y2ay, y67y, y7ay, y7by, y44y, y2dy, y73y, y89y, y2fy, y39y, y6dy, y2ey, y82y, y23y, y28y, y74y, y6fy, y29y, y75y, y71y, y56y, y8by, y26y, y81y, y6by, y64y, y49y, y63y, y78y, y32y, y47y, y69y, y48y, y6ay, y46y, y68y, y84y, y5fy, y5by, y86y, y88y, y85y, y87y, y25y, y62y, y24y, true_and, if_true, if_false, Bool.not_true, Bool.not_false, Bool.false_eq_true, yby, ydy, yay, ycy, yey, y15y, y17y, y14y, y16y, y18y, y6y, y8y, y5y, y7y, y9y, y1y, y3y, y0y, y2y, y4y, y10y, y12y, yfy, y11y, y13y, y1ay, y1cy, y19y, y1by, y1dy, y1fy, y21y, y1ey, y20y, y22y, y7fy, y77y, y6ey, y30y, y31y, y50y, y5dy, y5ey, y4by, y80y, y83y, y8cy, y79y, y27y, V.int.injEq, V.str.injEq, List.set_cons_zero, List.set_cons_succ, List.getElem?_cons_zero, List.getElem?_cons_succ, Option.some.injEq, exists_eq_left, exists_eq_left', V.bl.injEq, Int.reduceToNat, Int.reducePow, List.append_nil, List.nil_append, List.cons_append, y52y, y54y, y2by, y2cy, y65y, y5ay, y70y, y60y, y61y, y3ay, y3by, y3cy, y43y, y45y, y3ey, y76y, y40y, y3fy, y4fy, y33y, y35y, y37y, y38y, y34y, y36y, y7cy, y58y, y8ay, y3dy, y41y, reduceCtorEq, decide_false, decide_true]
        rw [if_neg (by simp)]
        try infer_instance
        refine ixT (i := 0) hq rfl ?_
        refine ⟨v0, d0, rfl, h0, s0, fun H1 S1 => ?_⟩
        try infer_instance
        by_cases c0 : nameB d0 = true
        · rw [if_pos c0]
          rw [c0] at k
          refine ixT (i := 1) (hq.same S1) rfl ?_
          refine ixT (i := 2) (hq.same S1) rfl ?_
          refine ⟨v1, v2, d1, d2, rfl, h1.same S1, h2.same S1, s1, s2, fun H2 S2 => ?_⟩
          try infer_instance
          have S12 := S1.trans S2
          by_cases c1 : facesB d1 d2 = true
          · rw [if_pos c1]
            rw [c1] at k
            refine ixT (i := 3) (hq.same S12) rfl ?_
            refine ixT (i := 4) (hq.same S12) rfl ?_
            exact ⟨v3, v4, d3, d4, rfl, h3.same S12, h4.same S12, s3, s4, k H2 S12⟩
          · rw [if_neg c1]
            have e1 : facesB d1 d2 = false := by simpa using c1
            rw [e1] at k
            exact k H2 S12
        · rw [if_neg c0]
          have e0 : nameB d0 = false := by simpa using c0
          rw [e0] at k
          exact k H1 S1
    · rw [if_pos (by simp; omega)]
      have ef : tieB (.tup ds) = false := by
        unfold tieB
        split
        · rename_i e; cases e; simp at h5
        · rfl
      rw [ef] at k
      try infer_instance
      exact k H (.refl H)
  · have ef : tieB d = false := by cases d <;> first | rfl | exact absurd ⟨_, rfl⟩ ht
    rw [ef] at k
    have et : isiB (tyD d) "tuple" = false := by cases d <;> first | rfl | exact absurd ⟨_, rfl⟩ ht
    simp only [et, y7dy, y4cy, y4dy, y4ey, y6cy, y2ay, y67y, y7ay, y7by, y44y, y2dy, y73y, y89y, y2fy, y39y, y6dy, y2ey, y82y, y23y, y28y, y74y, y6fy, y29y, y75y, y71y, y56y, y8by, y26y, y81y, y6by, y64y, y49y, y63y, y78y, y32y, y47y, y69y, y48y, y6ay, y46y, y68y, y84y, y5fy, y5by, y86y, y88y, y85y, y87y, y25y, y62y, y24y, true_and, if_true, if_false, Bool.not_true, Bool.not_false, Bool.false_eq_true, yby, ydy, yay, ycy, yey, y15y, y17y, y14y, y16y, y18y, y6y, y8y, y5y, y7y, y9y, y1y, y3y, y0y, y2y, y4y, y10y, y12y, yfy, y11y, y13y, y1ay, y1cy, y19y, y1by, y1dy, y1fy, y21y, y1ey, y20y, y22y, y7fy, y77y, y6ey, y30y, y31y, y50y, y5dy, y5ey, y4by, y80y, y83y, y8cy, y79y, y27y, V.int.injEq, V.str.injEq, List.set_cons_zero, List.set_cons_succ, List.getElem?_cons_zero, List.getElem?_cons_succ, Option.some.injEq, exists_eq_left, exists_eq_left', V.bl.injEq, Int.reduceToNat, Int.reducePow, List.append_nil, List.nil_append, List.cons_append, y52y, y54y, y2by, y2cy, y65y, y5ay, y70y, y60y, y61y, y3ay, y3by, y3cy, y43y, y45y, y3ey, y76y, y40y, y3fy, y4fy, y33y, y35y, y37y, y38y, y34y, y36y, y7cy, y58y, y8ay, y3dy, y41y, reduceCtorEq, decide_false, decide_true]
    exact k H (.refl H)
abbrev s_Partuu_inituu : Stmt := inClass (top 32) 0
theorem sc_Partuu_inituu : FnScope ["self", "row"] ["self", "row"] (defScope s_Partuu_inituu) := ⟨rfl, rfl, rfl, by decide +kernel, rfl, by decide +kernel, by decide +kernel⟩
def sp_Partuu_inituu (K : PySem.W.Frag) : Sp := fun vs H Q E => ∃ (x C dx a : Addr) (n st en z m wt : V), vs = [.ref x, .ref a] ∧ H x = some (.ins C dx []) ∧ PartC K C ∧ SqT K H a [n, st, en, z, m, wt] ∧ ∀ H', H' x = some (.ins C dx (partF n st en z m wt)) → (∀ b, b ≠ x → H' b = H b) → Q .non H'
theorem ok_Partuu_inituu {f : Addr} {fd : FuncData} {dV : Value} (F : FunD K "__init__" "Part.__init__" s_Partuu_inituu dV f fd) (T : Txt K mg Ad)  : FnOk P w K mg base (CX1 P w) 1 f fd ["self", "row"] (sp_Partuu_inituu K) := by
  refine F.okn sc_Partuu_inituu (fun vs H Q E h => ?_) (fun cdv A outer s H vs Q E hr h => ?_)
  · obtain ⟨x, C, dx, a, n, st, en, z, m, wt, rfl, _⟩ := h; rfl
  obtain ⟨x, C, dx, a, n, st, en, z, m, wt, rfl, h⟩ := h
  have hu := hr.units
  refine ⟨_, (pss_cons (ps_fld (pv 0) (pe_ix ix_U (pv 1) pe_int (fun _ _ => rfl)) rfl)
      (pss_cons (ps_fld (pv 0) (pe_ix ix_U (pv 1) pe_int (fun _ _ => rfl)) rfl)
      (pss_cons (ps_fld (pv 0) (pe_ix ix_U (pv 1) pe_int (fun _ _ => rfl)) rfl)
      (pss_cons (ps_fld (pv 0) (pe_ix ix_U (pv 1) pe_int (fun _ _ => rfl)) rfl)
      (pss_cons (ps_fld (pv 0) (pe_ix ix_U (pv 1) pe_int (fun _ _ => rfl)) rfl)
      (pss_one (ps_fld (pv 0) (pe_ix ix_U (pv 1) pe_int (fun _ _ => rfl)) rfl))))))), ?_⟩
  obtain ⟨e0, tc, hq0, k⟩ := h
  show tSeq _ _ _ [some (.ref x), some (.ref a)] H
  try ac_rfl

  refine ixT (i := 0) hq0 rfl ?_
  try ac_rfl
  refine ⟨x, C, dx, _, rfl, e0, tc.cls, tc.n1, by simp, ?_⟩
  have hq1 := SqT.put (fs' := putF "name" n []) e0 hq0
  generalize u0 : upd H x _ = H1 at hq1 ⊢
  have e1 : H1 x = some (.ins C dx [("name", n)]) := by rw [← u0]; exact upd_same.trans rfl
  have o1 : ∀ b, b ≠ x → H1 b = H b := fun b hb => by rw [← u0, upd_ne hb]
  try ac_rfl

  refine ixT (i := 1) hq1 rfl ?_
  try ac_rfl
  refine ⟨x, C, dx, _, rfl, e1, tc.cls, tc.n2, by simp, ?_⟩
  have hq2 := SqT.put (fs' := putF "start" st [("name", n)]) e1 hq1
  generalize u1 : upd H1 x _ = H2 at hq2 ⊢
  have e2 : H2 x = some (.ins C dx [("name", n), ("start", st)]) := by rw [← u1]; exact upd_same.trans rfl
  have o2 : ∀ b, b ≠ x → H2 b = H1 b := fun b hb => by rw [← u1, upd_ne hb]
  try ac_rfl

  refine ixT (i := 2) hq2 rfl ?_
  try ac_rfl
  refine ⟨x, C, dx, _, rfl, e2, tc.cls, tc.n3, by simp, ?_⟩
  have hq3 := SqT.put (fs' := putF "end" en [("name", n), ("start", st)]) e2 hq2
  generalize u2 : upd H2 x _ = H3 at hq3 ⊢
  have e3 : H3 x = some (.ins C dx [("name", n), ("start", st), ("end", en)]) := by rw [← u2]; exact upd_same.trans rfl
  have o3 : ∀ b, b ≠ x → H3 b = H2 b := fun b hb => by rw [← u2, upd_ne hb]
  try ac_rfl

  refine ixT (i := 3) hq3 rfl ?_
  try ac_rfl
  refine ⟨x, C, dx, _, rfl, e3, tc.cls, tc.n4, by simp, ?_⟩
  have hq4 := SqT.put (fs' := putF "size" z [("name", n), ("start", st), ("end", en)]) e3 hq3
  generalize u3 : upd H3 x _ = H4 at hq4 ⊢
  have e4 : H4 x = some (.ins C dx [("name", n), ("start", st), ("end", en), ("size", z)]) := by rw [← u3]; exact upd_same.trans rfl
  have o4 : ∀ b, b ≠ x → H4 b = H3 b := fun b hb => by rw [← u3, upd_ne hb]
  try ac_rfl

  refine ixT (i := 4) hq4 rfl ?_
  try ac_rfl
  refine ⟨x, C, dx, _, rfl, e4, tc.cls, tc.n5, by simp, ?_⟩
  have hq5 := SqT.put (fs' := putF "most" m [("name", n), ("start", st), ("end", en), ("size", z)]) e4 hq4
  generalize u4 : upd H4 x _ = H5 at hq5 ⊢
  have e5 : H5 x = some (.ins C dx [("name", n), ("start", st), ("end", en), ("size", z), ("most", m)]) := by rw [← u4]; exact upd_same.trans rfl
  have o5 : ∀ b, b ≠ x → H5 b = H4 b := fun b hb => by rw [← u4, upd_ne hb]
  try ac_rfl

  refine ixT (i := 5) hq5 rfl ?_
  try ac_rfl
  refine ⟨x, C, dx, _, rfl, e5, tc.cls, tc.n6, by simp, ?_⟩
  have hq6 := SqT.put (fs' := putF "weight" wt [("name", n), ("start", st), ("end", en), ("size", z), ("most", m)]) e5 hq5
  generalize u5 : upd H5 x _ = H6 at hq6 ⊢
  have e6 : H6 x = some (.ins C dx [("name", n), ("start", st), ("end", en), ("size", z), ("most", m), ("weight", wt)]) := by rw [← u5]; exact upd_same.trans rfl
  have o6 : ∀ b, b ≠ x → H6 b = H5 b := fun b hb => by rw [← u5, upd_ne hb]
  try ac_rfl
  exact k H6 e6 fun b hb => by rw [o6 b hb, o5 b hb, o4 b hb, o3 b hb, o2 b hb, o1 b hb]
abbrev s_Part_plain : Stmt := inClass (top 32) 1
theorem sc_Part_plain : FnScope ["self"] ["self"] (defScope s_Part_plain) := ⟨rfl, rfl, rfl, by decide +kernel, rfl, by decide +kernel, by decide +kernel⟩
def sp_Part_plain (K : PySem.W.Frag) (Ad : Adr) : Sp := fun vs H Q E => ∃ (p dx : Addr) (n st en z m wt : V), vs = [.ref p] ∧ H p = some (.ins Ad.Part dx (partF n st en z m wt)) ∧ ∀ q H', Same H H' → H' q = some (.tup [n, st, en, z, m, wt]) → Q (.ref q) H'
theorem ok_Part_plain {f : Addr} {fd : FuncData} {dV : Value} (F : FunD K "plain" "Part.plain" s_Part_plain dV f fd) (T : Txt K mg Ad)  : FnOk P w K mg base (CX1 P w) 1 f fd ["self"] (sp_Part_plain K Ad) := by
  refine F.okn sc_Part_plain (fun vs H Q E h => ?_) (fun cdv A outer s H vs Q E hr h => ?_)
  · obtain ⟨p, dx, n, st, en, z, m, wt, rfl, _⟩ := h; rfl
  obtain ⟨p, dx, n, st, en, z, m, wt, rfl, h⟩ := h
  have hu := hr.units
  refine ⟨_, (pss_one (ps_ret (pe_tup (pa_cons (pe_fld (pv 0) rfl) (pa_cons (pe_fld (pv 0) rfl) (pa_cons (pe_fld (pv 0) rfl) (pa_cons (pe_fld (pv 0) rfl) (pa_cons (pe_fld (pv 0) rfl) (pa_cons (pe_fld (pv 0) rfl) pa_nil))))))))), ?_⟩
  obtain ⟨hp, k⟩ := h
  have tc := T.c_Part Ad.Part rfl
  show tRet _ _ [some (.ref p)] H
  contradiction
  refine ⟨p, _, dx, _, n, rfl, hp, tc.cls, tc.n1, rfl, ?_⟩
  refine ⟨p, _, dx, _, st, rfl, hp, tc.cls, tc.n2, rfl, ?_⟩
  refine ⟨p, _, dx, _, en, rfl, hp, tc.cls, tc.n3, rfl, ?_⟩
  refine ⟨p, _, dx, _, z, rfl, hp, tc.cls, tc.n4, rfl, ?_⟩
  refine ⟨p, _, dx, _, m, rfl, hp, tc.cls, tc.n5, rfl, ?_⟩
  refine ⟨p, _, dx, _, wt, rfl, hp, tc.cls, tc.n6, rfl, ?_⟩
  try infer_instance
  refine ⟨by show 6 ≤ sizeLine; decide, ?_⟩
  exact new_obj fun q H1 S e => k q H1 S e
abbrev s_Gapuu_inituu : Stmt := inClass (top 33) 0
theorem sc_Gapuu_inituu : FnScope ["self", "row"] ["self", "row"] (defScope s_Gapuu_inituu) := ⟨rfl, rfl, rfl, by decide +kernel, rfl, by decide +kernel, by decide +kernel⟩
def sp_Gapuu_inituu (K : PySem.W.Frag) : Sp := fun vs H Q E => ∃ (x C dx a : Addr) (n st en l g : V), vs = [.ref x, .ref a] ∧ H x = some (.ins C dx []) ∧ GapC K C ∧ SqT K H a [n, st, en, l, g] ∧ ∀ H', H' x = some (.ins C dx (gapF n st en l g)) → (∀ b, b ≠ x → H' b = H b) → Q .non H'
theorem ok_Gapuu_inituu {f : Addr} {fd : FuncData} {dV : Value} (F : FunD K "__init__" "Gap.__init__" s_Gapuu_inituu dV f fd) (T : Txt K mg Ad)  : FnOk P w K mg base (CX1 P w) 1 f fd ["self", "row"] (sp_Gapuu_inituu K) := by
  refine F.okn sc_Gapuu_inituu (fun vs H Q E h => ?_) (fun cdv A outer s H vs Q E hr h => ?_)
  · obtain ⟨x, C, dx, a, n, st, en, l, g, rfl, _⟩ := h; rfl
  obtain ⟨x, C, dx, a, n, st, en, l, g, rfl, h⟩ := h
  have hu := hr.units
  refine ⟨_, (pss_cons (ps_fld (pv 0) (pe_ix ix_U (pv 1) pe_int (fun _ _ => rfl)) rfl)
      (pss_cons (ps_fld (pv 0) (pe_ix ix_U (pv 1) pe_int (fun _ _ => rfl)) rfl)
      (pss_cons (ps_fld (pv 0) (pe_ix ix_U (pv 1) pe_int (fun _ _ => rfl)) rfl)
      (pss_cons (ps_fld (pv 0) (pe_ix ix_U (pv 1) pe_int (fun _ _ => rfl)) rfl)
      (pss_one (ps_fld (pv 0) (pe_ix ix_U (pv 1) pe_int (fun _ _ => rfl)) rfl)))))), ?_⟩
  obtain ⟨e0, tc, hq0, k⟩ := h
  show tSeq _ _ _ [some (.ref x), some (.ref a)] H
  try ac_rfl

  refine ixT (i := 0) hq0 rfl ?_
  try ac_rfl
  refine ⟨x, C, dx, _, rfl, e0, tc.cls, tc.n1, by simp, ?_⟩
  have hq1 := SqT.put (fs' := putF "name" n []) e0 hq0
  generalize u0 : upd H x _ = H1 at hq1 ⊢
  have e1 : H1 x = some (.ins C dx [("name", n)]) := by rw [← u0]; exact upd_same.trans rfl
  have o1 : ∀ b, b ≠ x → H1 b = H b := fun b hb => by rw [← u0, upd_ne hb]
  try ac_rfl

  refine ixT (i := 1) hq1 rfl ?_
  try ac_rfl
  refine ⟨x, C, dx, _, rfl, e1, tc.cls, tc.n2, by simp, ?_⟩
  have hq2 := SqT.put (fs' := putF "one" st [("name", n)]) e1 hq1
  generalize u1 : upd H1 x _ = H2 at hq2 ⊢
  have e2 : H2 x = some (.ins C dx [("name", n), ("one", st)]) := by rw [← u1]; exact upd_same.trans rfl
  have o2 : ∀ b, b ≠ x → H2 b = H1 b := fun b hb => by rw [← u1, upd_ne hb]
  try ac_rfl

  refine ixT (i := 2) hq2 rfl ?_
  try ac_rfl
  refine ⟨x, C, dx, _, rfl, e2, tc.cls, tc.n3, by simp, ?_⟩
  have hq3 := SqT.put (fs' := putF "other" en [("name", n), ("one", st)]) e2 hq2
  generalize u2 : upd H2 x _ = H3 at hq3 ⊢
  have e3 : H3 x = some (.ins C dx [("name", n), ("one", st), ("other", en)]) := by rw [← u2]; exact upd_same.trans rfl
  have o3 : ∀ b, b ≠ x → H3 b = H2 b := fun b hb => by rw [← u2, upd_ne hb]
  try ac_rfl

  refine ixT (i := 3) hq3 rfl ?_
  try ac_rfl
  refine ⟨x, C, dx, _, rfl, e3, tc.cls, tc.n4, by simp, ?_⟩
  have hq4 := SqT.put (fs' := putF "low" l [("name", n), ("one", st), ("other", en)]) e3 hq3
  generalize u3 : upd H3 x _ = H4 at hq4 ⊢
  have e4 : H4 x = some (.ins C dx [("name", n), ("one", st), ("other", en), ("low", l)]) := by rw [← u3]; exact upd_same.trans rfl
  have o4 : ∀ b, b ≠ x → H4 b = H3 b := fun b hb => by rw [← u3, upd_ne hb]
  try ac_rfl

  refine ixT (i := 4) hq4 rfl ?_
  try ac_rfl
  refine ⟨x, C, dx, _, rfl, e4, tc.cls, tc.n5, by simp, ?_⟩
  have hq5 := SqT.put (fs' := putF "high" g [("name", n), ("one", st), ("other", en), ("low", l)]) e4 hq4
  generalize u4 : upd H4 x _ = H5 at hq5 ⊢
  have e5 : H5 x = some (.ins C dx [("name", n), ("one", st), ("other", en), ("low", l), ("high", g)]) := by rw [← u4]; exact upd_same.trans rfl
  have o5 : ∀ b, b ≠ x → H5 b = H4 b := fun b hb => by rw [← u4, upd_ne hb]
  try ac_rfl
  exact k H5 e5 fun b hb => by rw [o5 b hb, o4 b hb, o3 b hb, o2 b hb, o1 b hb]
abbrev s_is_part : Stmt := top 30
theorem sc_is_part : FnScope ["thing"] ["thing"] (defScope s_is_part) := ⟨rfl, rfl, rfl, by decide +kernel, rfl, by decide +kernel, by decide +kernel⟩
def sp_is_part (K : PySem.W.Frag) : Sp := fun vs H Q E => ∃ (x : V) (d : D), vs = [x] ∧ Rep K H d x ∧ szD d ∧ ∀ H', Same H H' → Q (.bl (partB d)) H'
theorem ok_is_part {f : Addr} {fd : FuncData} {dV : Value} (F : FunD K "is_part" "is_part" s_is_part dV f fd) (T : Txt K mg Ad) (c_is_name : Cal P w K mg base 1 "is_name" ["thing"] [] (sp_is_name K)) (c_are_faces : Cal P w K mg base 2 "are_faces" ["one", "other"] [] (sp_are_faces K)) (c_is_fraction : Cal P w K mg base 2 "is_fraction" ["thing"] [] (sp_is_fraction K)) (c_is_whole : Cal P w K mg base 1 "is_whole" ["thing"] [] (sp_is_whole K)) (c_under : Cal P w K mg base 1 "under" ["one", "other"] [] (sp_under K)) : FnOk P w K mg base (CX1 P w) 5 f fd ["thing"] (sp_is_part K) := by
  refine F.okn sc_is_part (fun vs H Q E h => ?_) (fun cdv A outer s H vs Q E hr h => ?_)
  · obtain ⟨x, d, rfl, _⟩ := h; rfl
  obtain ⟨x, d, rfl, h⟩ := h
  have hu := hr.units
  refine ⟨_, (pss_cons (ps_if (PW.pt (pw_or (pt_not (pt_val (pe_callB call_isinstanceU rfl T.n_isinstance bt_isinstance (pa_cons (pv 0) (pa_cons (pe_bltn (v := .ty "tuple") rfl T.n_tuple bt_tuple rfl) pa_nil))))) (pw_or1 (pt_cmpR (op_neU hu) (pe_callB call_lenU rfl T.n_len bt_len (pa_cons (pv 0) pa_nil)) pe_int (nomark _)))))
      (pss_one (ps_ret pe_bl))
      pss_nil)
      (pss_cons (ps_if (PW.pt (pw_or (pt_not (pt_val (c_is_name.ev hr (by decide) rfl passF (pa_cons (pe_ix ix_U (pv 0) pe_int (fun _ _ => rfl)) pa_nil)))) (pw_or1 (pt_not (pt_val (c_are_faces.ev hr (by decide) rfl passF (pa_cons (pe_ix ix_U (pv 0) pe_int (fun _ _ => rfl)) (pa_cons (pe_ix ix_U (pv 0) pe_int (fun _ _ => rfl)) pa_nil))))))))
      (pss_one (ps_ret pe_bl))
      pss_nil)
      (pss_cons (ps_if (PW.pt (pw_or (pt_not (pt_val (c_is_fraction.ev hr (by decide) rfl passF (pa_cons (pe_ix ix_U (pv 0) pe_int (fun _ _ => rfl)) pa_nil)))) (pw_or (pt_not (pt_val (c_is_fraction.ev hr (by decide) rfl passF (pa_cons (pe_ix ix_U (pv 0) pe_int (fun _ _ => rfl)) pa_nil)))) (pw_or1 (pt_not (pt_val (c_is_whole.ev hr (by decide) rfl passF (pa_cons (pe_ix ix_U (pv 0) pe_int (fun _ _ => rfl)) pa_nil))))))))
      (pss_one (ps_ret pe_bl))
      pss_nil)
      (pss_one (ps_ret (pe_and (pe_not (c_under.ev hr (by decide) rfl passF (pa_cons (pe_ix ix_U (pv 0) pe_int (fun _ _ => rfl)) (pa_cons (pe_glob (v := .ref _) rfl T.m_ZERO T.r_ZERO) pa_nil)))) (pe_one (pe_cmpR op_geU (pe_ix ix_U (pv 0) pe_int (fun _ _ => rfl)) pe_int (nomark _))))))))), ?_⟩
  obtain ⟨hx, sz, k⟩ := h
  show tSeq _ _ _ [some x] H
  try infer_instance
  refine ⟨_, hx.tyN, ?_⟩
  by_cases ht : ∃ ds, d = .tup ds
  · obtain ⟨ds, rfl⟩ := ht
    simp only [tyD, y7dy, y4cy, y4dy, y4ey, y6cy, y2ay, y67y, y7ay, y7by, y44y, y2dy, y73y, y89y, y2fy, y39y, y6dy, y2ey, y82y, y23y, y28y, y74y, y6fy, y29y, y75y, y71y, y56y, y8by, y26y, y81y, y6by, y64y, y49y, y63y, y78y, y32y, y47y, y69y, y48y, y6ay, y46y, y68y, y84y, y5fy, y5by, y86y, y88y, y85y, y87y, y25y, y62y, y24y, true_and, if_true, if_false, Bool.not_true, Bool.not_false, Bool.false_eq_true, yby, ydy, yay, ycy, yey, y15y, y17y, y14y, y16y, y18y, y6y, y8y, y5y, y7y, y9y, y1y, y3y, y0y, y2y, y4y, y10y, y12y, yfy, y11y, y13y, y1ay, y1cy, y19y, y1by, y1dy, y1fy, y21y, y1ey, y20y, y22y, y7fy, y77y, y6ey, y30y, y31y, y50y, y5dy, y5ey, y4by, y80y, y83y, y8cy, y79y, y27y, V.int.injEq, V.str.injEq, List.set_cons_zero, List.set_cons_succ, List.getElem?_cons_zero, List.getElem?_cons_succ, Option.some.injEq, exists_eq_left, exists_eq_left', V.bl.injEq, Int.reduceToNat, Int.reducePow, List.append_nil, List.nil_append, List.cons_append, y52y, y54y, y2by, y2cy, y65y, y5ay, y70y, y60y, y61y, y3ay, y3by, y3cy, y43y, y45y, y3ey, y76y, y40y, y3fy, y4fy, y33y, y35y, y37y, y38y, y34y, y36y, y7cy, y58y, y8ay, y3dy, y41y, reduceCtorEq, decide_false, decide_true]
    simp only [Rep] at hx
    obtain ⟨a, xs, rfl, hq, hr⟩ := hx
    have hl := hr.length
    refine ⟨xs, .inr hq, ?_⟩
    try infer_instance
    by_cases h6 : ds.length = 6
    · match ds, h6 with
      | [d0, d1, d2, d3, d4, d5], _ =>
        simp only [RepL] at hr
        obtain ⟨v0, r0, rfl, h0, v1, r1, rfl, h1, v2, r2, rfl, h2, v3, r3, rfl, h3, v4, r4, rfl, h4, v5, r5, rfl, h5, rfl⟩ := hr
        simp only [szD, szL] at sz
        obtain ⟨s0, s1, s2, s3, s4, s5, _⟩ := sz
        simp only [partB] at k
        simp only [List.length_cons, List.length_nil, y7dy, y4cy, y4dy, y4ey, y6cy, y2ay, y67y, y7ay, y7by, y44y, y2dy, y73y, y89y, y2fy, y39y, y6dy, y2ey, y82y, y23y, y28y, y74y, y6fy, y29y, y75y, y71y, y56y, y8by, y26y, y81y, y6by, y64y, y49y, y63y, y78y, y32y, y47y, y69y, y48y, y6ay, y46y, y68y, y84y, y5fy, y5by, y86y, y88y, y85y, y87y, y25y, y62y, y24y, true_and, if_true, if_false, Bool.not_true, Bool.not_false, Bool.false_eq_true, yby, ydy, yay, ycy, yey, y15y, y17y, y14y, y16y, y18y, y6y, y8y, y5y, y7y, y9y, y1y, y3y, y0y, y2y, y4y, y10y, y12y, yfy, y11y, y13y, y1ay, y1cy, y19y, y1by, y1dy, y1fy, y21y, y1ey, y20y, y22y, y7fy, y77y, y6ey, y30y, y31y, y50y, y5dy, y5ey, y4by, y80y, y83y, y8cy, y79y, y27y, V.int.injEq, V.str.injEq, List.set_cons_zero, List.set_cons_succ, List.getElem?_cons_zero, List.getElem?_cons_succ, Option.some.injEq, exists_eq_left, exists_eq_left', V.bl.injEq, Int.reduceToNat, Int.reducePow, List.append_nil, List.nil_append, List.cons_append, y52y, y54y, y2by, y2cy, y65y, y5ay, y70y, y60y, y61y, y3ay, y3by, y3cy, y43y, y45y, y3ey, y76y, y40y, y3fy, y4fy, y33y, y35y, y37y, y38y, y34y, y36y, y7cy, y58y, y8ay, y3dy, y41y, reduceCtorEq, decide_false, decide_true]
        rw [if_neg (by simp)]
        try infer_instance
        refine ixT (i := 0) hq rfl ?_
        refine ⟨v0, d0, rfl, h0, s0, fun H1 S1 => ?_⟩
        try infer_instance
        by_cases c0 : nameB d0 = true
        · rw [c0] at k ⊢
          try infer_instance
          refine ixT (i := 1) (hq.same S1) rfl ?_
          refine ixT (i := 2) (hq.same S1) rfl ?_
          refine ⟨v1, v2, d1, d2, rfl, h1.same S1, h2.same S1, s1, s2, fun H2 S2 => ?_⟩
          try infer_instance
          have S02 := S1.trans S2
          by_cases c1 : facesB d1 d2 = true
          · rw [c1] at k ⊢
            try infer_instance
            refine ixT (i := 3) (hq.same S02) rfl ?_
            refine ⟨v3, d3, rfl, h3.same S02, ?_⟩
            try infer_instance
            by_cases c3 : fracB d3 = true
            · rw [c3] at k ⊢
              try infer_instance
              refine ixT (i := 4) (hq.same S02) rfl ?_
              refine ⟨v4, d4, rfl, h4.same S02, ?_⟩
              try infer_instance
              by_cases c4 : fracB d4 = true
              · rw [c4] at k ⊢
                try infer_instance
                refine ixT (i := 5) (hq.same S02) rfl ?_
                refine ⟨v5, d5, rfl, h5.same S02, ?_⟩
                try infer_instance
                by_cases c5 : wholeB d5 = true
                · rw [c5] at k ⊢
                  try infer_instance
                  obtain ⟨p4, q4, rfl, _, _⟩ := frac_shape c4
                  obtain ⟨w, rfl⟩ : ∃ w, d5 = .int w := by cases d5 <;> first | exact ⟨_, rfl⟩ | simp [wholeB] at c5
                  simp only [szD, szL] at s4
                  have h5' : v5 = .int w := by simpa only [Rep] using h5
                  subst h5'
                  refine ixT (i := 4) (hq.same S02) rfl ?_
                  refine ⟨v4, .ref Ad.ZERO, p4, q4, 0, 1, rfl, FrV.of_rep (h4.same S02), ⟨Ad.ZERO, rfl, T.q_ZERO _⟩, s4.1, s4.2.1, .lit (by decide) (by decide), .lit (by decide) (by decide), ?_⟩
                  try infer_instance
                  by_cases c6 : p4 * 1 < 0 * q4
                  · have e6 : lessD (.tup [.int p4, .int q4]) (.tup [.int 0, .int 1]) = true := by simpa [lessD] using c6
                    rw [e6] at k
                    rw [if_neg (by simpa using c6)]
                    exact k H2 S02
                  · have e6 : lessD (.tup [.int p4, .int q4]) (.tup [.int 0, .int 1]) = false := by simpa [lessD] using c6
                    rw [e6] at k
                    rw [if_pos (by simpa using c6)]
                    refine ixT (i := 5) (hq.same S02) rfl ?_
                    try infer_instance
                    exact k H2 S02
                · have e5 : wholeB d5 = false := by simpa using c5
                  rw [e5] at k ⊢
                  try infer_instance
                  exact k H2 S02
              · have e4 : fracB d4 = false := by simpa using c4
                rw [e4] at k ⊢
                try infer_instance
                exact k H2 S02
            · have e3 : fracB d3 = false := by simpa using c3
              rw [e3] at k ⊢
              try infer_instance
              exact k H2 S02
          · have e1 : facesB d1 d2 = false := by simpa using c1
            rw [e1] at k ⊢
            try infer_instance
            exact k H2 S02
        · have e0 : nameB d0 = false := by simpa using c0
          rw [e0] at k ⊢
          try infer_instance
          exact k H1 S1
    · rw [if_pos (by simp; omega)]
      have ef : partB (.tup ds) = false := by
        unfold partB
        split
        · rename_i e; cases e; simp at h6
        · rfl
      rw [ef] at k
      try infer_instance
      exact k H (.refl H)
  · have ef : partB d = false := by cases d <;> first | rfl | exact absurd ⟨_, rfl⟩ ht
    rw [ef] at k
    have et : isiB (tyD d) "tuple" = false := by cases d <;> first | rfl | exact absurd ⟨_, rfl⟩ ht
    simp only [et, y7dy, y4cy, y4dy, y4ey, y6cy, y2ay, y67y, y7ay, y7by, y44y, y2dy, y73y, y89y, y2fy, y39y, y6dy, y2ey, y82y, y23y, y28y, y74y, y6fy, y29y, y75y, y71y, y56y, y8by, y26y, y81y, y6by, y64y, y49y, y63y, y78y, y32y, y47y, y69y, y48y, y6ay, y46y, y68y, y84y, y5fy, y5by, y86y, y88y, y85y, y87y, y25y, y62y, y24y, true_and, if_true, if_false, Bool.not_true, Bool.not_false, Bool.false_eq_true, yby, ydy, yay, ycy, yey, y15y, y17y, y14y, y16y, y18y, y6y, y8y, y5y, y7y, y9y, y1y, y3y, y0y, y2y, y4y, y10y, y12y, yfy, y11y, y13y, y1ay, y1cy, y19y, y1by, y1dy, y1fy, y21y, y1ey, y20y, y22y, y7fy, y77y, y6ey, y30y, y31y, y50y, y5dy, y5ey, y4by, y80y, y83y, y8cy, y79y, y27y, V.int.injEq, V.str.injEq, List.set_cons_zero, List.set_cons_succ, List.getElem?_cons_zero, List.getElem?_cons_succ, Option.some.injEq, exists_eq_left, exists_eq_left', V.bl.injEq, Int.reduceToNat, Int.reducePow, List.append_nil, List.nil_append, List.cons_append, y52y, y54y, y2by, y2cy, y65y, y5ay, y70y, y60y, y61y, y3ay, y3by, y3cy, y43y, y45y, y3ey, y76y, y40y, y3fy, y4fy, y33y, y35y, y37y, y38y, y34y, y36y, y7cy, y58y, y8ay, y3dy, y41y, reduceCtorEq, decide_false, decide_true]
    exact k H (.refl H)
abbrev s_is_gap : Stmt := top 31
theorem sc_is_gap : FnScope ["thing"] ["thing"] (defScope s_is_gap) := ⟨rfl, rfl, rfl, by decide +kernel, rfl, by decide +kernel, by decide +kernel⟩
def sp_is_gap (K : PySem.W.Frag) : Sp := fun vs H Q E => ∃ (x : V) (d : D), vs = [x] ∧ Rep K H d x ∧ szD d ∧ ∀ H', Same H H' → Q (.bl (gapB d)) H'
theorem ok_is_gap {f : Addr} {fd : FuncData} {dV : Value} (F : FunD K "is_gap" "is_gap" s_is_gap dV f fd) (T : Txt K mg Ad) (c_is_tie : Cal P w K mg base 5 "is_tie" ["thing"] [] (sp_is_tie K)) : FnOk P w K mg base (CX1 P w) 6 f fd ["thing"] (sp_is_gap K) := by
  refine F.okn sc_is_gap (fun vs H Q E h => ?_) (fun cdv A outer s H vs Q E hr h => ?_)
  · obtain ⟨x, d, rfl, _⟩ := h; rfl
  obtain ⟨x, d, rfl, h⟩ := h
  have hu := hr.units
  refine ⟨_, (pss_one (ps_ret (pe_and (c_is_tie.ev hr (by decide) rfl passF (pa_cons (pv 0) pa_nil)) (pe_and (pe_cmpR op_notNU (pe_ix ix_U (pv 0) pe_int (fun _ _ => rfl)) pe_non (nomark _)) (pe_one (pe_cmpR op_notNU (pe_ix ix_U (pv 0) pe_int (fun _ _ => rfl)) pe_non (nomark _))))))), ?_⟩
  obtain ⟨hx, sz, k⟩ := h
  show tRet _ _ [some x] H
  try infer_instance
  refine ⟨x, d, rfl, hx, sz, fun H1 S1 => ?_⟩
  try infer_instance
  by_cases c : tieB d = true
  · rw [if_pos c]
    obtain ⟨n, s, e, l, g, rfl⟩ : ∃ n s e l g, d = .tup [n, s, e, l, g] := by
      unfold tieB at c
      split at c
      · exact ⟨_, _, _, _, _, rfl⟩
      · cases c
    simp only [Rep, RepL] at hx
    obtain ⟨a, xs, rfl, hq, v0, r0, rfl, h0, v1, r1, rfl, h1, v2, r2, rfl, h2, v3, r3, rfl, h3, v4, r4, rfl, h4, rfl⟩ := hx
    simp only [gapB] at k
    rw [c] at k
    refine ixT (i := 3) (hq.same S1) rfl ?_
    simp only [y7dy, y4cy, y4dy, y4ey, y6cy, y2ay, y67y, y7ay, y7by, y44y, y2dy, y73y, y89y, y2fy, y39y, y6dy, y2ey, y82y, y23y, y28y, y74y, y6fy, y29y, y75y, y71y, y56y, y8by, y26y, y81y, y6by, y64y, y49y, y63y, y78y, y32y, y47y, y69y, y48y, y6ay, y46y, y68y, y84y, y5fy, y5by, y86y, y88y, y85y, y87y, y25y, y62y, y24y, true_and, if_true, if_false, Bool.not_true, Bool.not_false, Bool.false_eq_true, yby, ydy, yay, ycy, yey, y15y, y17y, y14y, y16y, y18y, y6y, y8y, y5y, y7y, y9y, y1y, y3y, y0y, y2y, y4y, y10y, y12y, yfy, y11y, y13y, y1ay, y1cy, y19y, y1by, y1dy, y1fy, y21y, y1ey, y20y, y22y, y7fy, y77y, y6ey, y30y, y31y, y50y, y5dy, y5ey, y4by, y80y, y83y, y8cy, y79y, y27y, V.int.injEq, V.str.injEq, List.set_cons_zero, List.set_cons_succ, List.getElem?_cons_zero, List.getElem?_cons_succ, Option.some.injEq, exists_eq_left, exists_eq_left', V.bl.injEq, Int.reduceToNat, Int.reducePow, List.append_nil, List.nil_append, List.cons_append, y52y, y54y, y2by, y2cy, y65y, y5ay, y70y, y60y, y61y, y3ay, y3by, y3cy, y43y, y45y, y3ey, y76y, y40y, y3fy, y4fy, y33y, y35y, y37y, y38y, y34y, y36y, y7cy, y58y, y8ay, y3dy, y41y, reduceCtorEq, decide_false, decide_true, h3.nonV]
    by_cases n1 : nonD l = true
    · rw [n1] at k
      try rw [n1]
      try try infer_instance
      exact k H1 S1
    · have n1' : nonD l = false := by simpa using n1
      rw [n1'] at k
      try rw [n1']
      try try infer_instance
      refine ixT (i := 4) (hq.same S1) rfl ?_
      simp only [y7dy, y4cy, y4dy, y4ey, y6cy, y2ay, y67y, y7ay, y7by, y44y, y2dy, y73y, y89y, y2fy, y39y, y6dy, y2ey, y82y, y23y, y28y, y74y, y6fy, y29y, y75y, y71y, y56y, y8by, y26y, y81y, y6by, y64y, y49y, y63y, y78y, y32y, y47y, y69y, y48y, y6ay, y46y, y68y, y84y, y5fy, y5by, y86y, y88y, y85y, y87y, y25y, y62y, y24y, true_and, if_true, if_false, Bool.not_true, Bool.not_false, Bool.false_eq_true, yby, ydy, yay, ycy, yey, y15y, y17y, y14y, y16y, y18y, y6y, y8y, y5y, y7y, y9y, y1y, y3y, y0y, y2y, y4y, y10y, y12y, yfy, y11y, y13y, y1ay, y1cy, y19y, y1by, y1dy, y1fy, y21y, y1ey, y20y, y22y, y7fy, y77y, y6ey, y30y, y31y, y50y, y5dy, y5ey, y4by, y80y, y83y, y8cy, y79y, y27y, V.int.injEq, V.str.injEq, List.set_cons_zero, List.set_cons_succ, List.getElem?_cons_zero, List.getElem?_cons_succ, Option.some.injEq, exists_eq_left, exists_eq_left', V.bl.injEq, Int.reduceToNat, Int.reducePow, List.append_nil, List.nil_append, List.cons_append, y52y, y54y, y2by, y2cy, y65y, y5ay, y70y, y60y, y61y, y3ay, y3by, y3cy, y43y, y45y, y3ey, y76y, y40y, y3fy, y4fy, y33y, y35y, y37y, y38y, y34y, y36y, y7cy, y58y, y8ay, y3dy, y41y, reduceCtorEq, decide_false, decide_true, h4.nonV]
      exact k H1 S1
  · rw [if_neg c]
    have e0 : gapB d = false := by
      have c' : tieB d = false := by simpa using c
      unfold gapB
      split
      · rw [c']; rfl
      · rfl
    rw [e0] at k
    exact k H1 S1
abbrev s_part_of : Stmt := top 34
theorem sc_part_of : FnScope ["thing"] ["thing"] (defScope s_part_of) := ⟨rfl, rfl, rfl, by decide +kernel, rfl, by decide +kernel, by decide +kernel⟩
def sp_part_of (K : PySem.W.Frag) (Ad : Adr) : Sp := fun vs H Q E => ∃ (x : V) (e : PD ⊕ D), vs = [x] ∧ PEV K H e x ∧ (match e with | .inr _ => ∀ H', Same H H' → E (.ref Ad.NoPart) none H' | .inl p => ∀ v H', Same H H' → POV K Ad H' p v → Q v H')
theorem ok_part_of {f : Addr} {fd : FuncData} {dV : Value} (F : FunD K "part_of" "part_of" s_part_of dV f fd) (T : Txt K mg Ad) (c_is_part : Cal P w K mg base 5 "is_part" ["thing"] [] (sp_is_part K)) (k_Part : KCal P w K mg base 1 "Part" Ad.Part ["self", "row"] (sp_Partuu_inituu K)) : FnOk P w K mg base (CX1 P w) 6 f fd ["thing"] (sp_part_of K Ad) := by
  refine F.okx sc_part_of (fun vs H Q E h => ?_) (fun cdv A outer s H vs Q E hr h => ?_)
  · obtain ⟨x, e, rfl, _⟩ := h; rfl
  obtain ⟨x, e, rfl, h⟩ := h
  have hu := hr.units
  refine ⟨_, (pss_cons (ps_if (pt_not (pt_val (c_is_part.ev hr (by decide) rfl pass1 (pa_cons (pv 0) pa_nil))))
      (pss_one (ps_raise PySem.F.excBase_ValueError T.x_NoPart rfl T.m_NoPart (pa_cons pe_str pa_nil)))
      pss_nil)
      (pss_one (ps_ret (k_Part.ev hr (by decide) rfl pass1 (pa_cons (pv 0) pa_nil))))), ?_⟩
  obtain ⟨he, k⟩ := h
  show tSeq _ _ _ [some x] H
  try infer_instance
  match e, he, k with
  | .inr c, he, k =>
    refine ⟨x, c, rfl, he.1, he.2.1, fun H1 S1 => ?_⟩
    rw [he.2.2]
    try infer_instance
    exact ⟨by show 1 ≤ sizeLine; decide, k H1 S1⟩
  | .inl p, he, k =>
    refine ⟨x, pdD p, rfl, he.1.rep, he.2.sz, fun H1 S1 => ?_⟩
    rw [he.2.part]
    try infer_instance
    obtain ⟨b, vz, vm, rfl, hq, hz, hm⟩ := he.1
    intro y dx hy hdx ne
    have S2 : Same H1 (upd (upd H1 dx (.own y)) y (.ins Ad.Part dx [])) := fun b u q => by rw [upd_ne (ne_of_none q hy), upd_ne (ne_of_none q hdx)]; exact q
    refine ⟨y, _, dx, b, _, _, _, vz, vm, _, rfl, upd_same, T.c_Part _ rfl, (hq.same S1).same S2, fun H' e o => ⟨rfl, k _ H' ?_ ⟨y, dx, vz, vm, rfl, e, ?_, ?_⟩⟩⟩
    · exact S1.trans fun b u q => by rw [o b (ne_of_none q hy)]; exact S2 _ _ q
    · exact hz.same (S1.trans fun b u q => by rw [o b (ne_of_none q hy)]; exact S2 _ _ q)
    · exact hm.same (S1.trans fun b u q => by rw [o b (ne_of_none q hy)]; exact S2 _ _ q)
abbrev s_gap_of : Stmt := top 35
theorem sc_gap_of : FnScope ["thing"] ["thing"] (defScope s_gap_of) := ⟨rfl, rfl, rfl, by decide +kernel, rfl, by decide +kernel, by decide +kernel⟩
def sp_gap_of (K : PySem.W.Frag) (Ad : Adr) : Sp := fun vs H Q E => ∃ (x : V) (e : GD ⊕ D), vs = [x] ∧ GEV K H e x ∧ (match e with | .inr _ => ∀ H', Same H H' → E (.ref Ad.NoGap) none H' | .inl g => ∀ v H', Same H H' → GOV K Ad H' g v → Q v H')
theorem ok_gap_of {f : Addr} {fd : FuncData} {dV : Value} (F : FunD K "gap_of" "gap_of" s_gap_of dV f fd) (T : Txt K mg Ad) (c_is_gap : Cal P w K mg base 6 "is_gap" ["thing"] [] (sp_is_gap K)) (k_Gap : KCal P w K mg base 1 "Gap" Ad.Gap ["self", "row"] (sp_Gapuu_inituu K)) : FnOk P w K mg base (CX1 P w) 7 f fd ["thing"] (sp_gap_of K Ad) := by
  refine F.okx sc_gap_of (fun vs H Q E h => ?_) (fun cdv A outer s H vs Q E hr h => ?_)
  · obtain ⟨x, e, rfl, _⟩ := h; rfl
  obtain ⟨x, e, rfl, h⟩ := h
  have hu := hr.units
  refine ⟨_, (pss_cons (ps_if (pt_not (pt_val (c_is_gap.ev hr (by decide) rfl pass1 (pa_cons (pv 0) pa_nil))))
      (pss_one (ps_raise PySem.F.excBase_ValueError T.x_NoGap rfl T.m_NoGap (pa_cons pe_str pa_nil)))
      pss_nil)
      (pss_one (ps_ret (k_Gap.ev hr (by decide) rfl pass1 (pa_cons (pv 0) pa_nil))))), ?_⟩
  obtain ⟨he, k⟩ := h
  show tSeq _ _ _ [some x] H
  try infer_instance
  match e, he, k with
  | .inr c, he, k =>
    refine ⟨x, c, rfl, he.1, he.2.1, fun H1 S1 => ?_⟩
    rw [he.2.2]
    try infer_instance
    exact ⟨by show 1 ≤ sizeLine; decide, k H1 S1⟩
  | .inl g, he, k =>
    refine ⟨x, tdD g.td, rfl, he.1.rep, he.2.sz, fun H1 S1 => ?_⟩
    rw [gap_ok he.2]
    try infer_instance
    obtain ⟨b, vz, vm, rfl, hq, hz, hm⟩ := he.1
    replace hz : FrV K H vz g.lo.1 g.lo.2 := hz
    replace hm : FrV K H vm g.hi.1 g.hi.2 := hm
    intro y dx hy hdx ne
    have S2 : Same H1 (upd (upd H1 dx (.own y)) y (.ins Ad.Gap dx [])) := fun b u q => by rw [upd_ne (ne_of_none q hy), upd_ne (ne_of_none q hdx)]; exact q
    refine ⟨y, _, dx, b, _, _, _, vz, vm, rfl, upd_same, T.c_Gap _ rfl, (hq.same S1).same S2, fun H' e o => ⟨rfl, k _ H' ?_ ⟨y, dx, vz, vm, rfl, e, ?_, ?_⟩⟩⟩
    · exact S1.trans fun b u q => by rw [o b (ne_of_none q hy)]; exact S2 _ _ q
    · exact hz.same (S1.trans fun b u q => by rw [o b (ne_of_none q hy)]; exact S2 _ _ q)
    · exact hm.same (S1.trans fun b u q => by rw [o b (ne_of_none q hy)]; exact S2 _ _ q)
abbrev s_Jointsuu_inituu : Stmt := inClass (top 36) 0
theorem sc_Jointsuu_inituu : FnScope ["self"] ["self"] (defScope s_Jointsuu_inituu) := ⟨rfl, rfl, rfl, by decide +kernel, rfl, by decide +kernel, by decide +kernel⟩
def sp_Jointsuu_inituu (K : PySem.W.Frag) (Ad : Adr) : Sp := fun vs H Q E => ∃ (x dx : Addr), vs = [.ref x] ∧ H x = some (.ins Ad.Joints dx []) ∧ ∀ d H', H d = none → d ≠ x → H' x = some (.ins Ad.Joints dx [("leads", .ref d)]) → H' d = some (.dK []) → (∀ b u, b ≠ x → H b = some u → H' b = some u) → Q .non H'
theorem ok_Jointsuu_inituu {f : Addr} {fd : FuncData} {dV : Value} (F : FunD K "__init__" "Joints.__init__" s_Jointsuu_inituu dV f fd) (T : Txt K mg Ad)  : FnOk P w K mg base (CX1 P w) 1 f fd ["self"] (sp_Jointsuu_inituu K Ad) := by
  refine F.okn sc_Jointsuu_inituu (fun vs H Q E h => ?_) (fun cdv A outer s H vs Q E hr h => ?_)
  · obtain ⟨x, dx, rfl, _⟩ := h; rfl
  obtain ⟨x, dx, rfl, h⟩ := h
  have hu := hr.units
  refine ⟨_, (pss_one (ps_fld (pv 0) pe_dnewK rfl)), ?_⟩
  obtain ⟨hx, k⟩ := h
  have tc := T.c_Joints _ rfl
  show sFld _ _ _ _ _ [some (.ref x)] H
  try ac_rfl
  intro d h_d
  generalize q_d : upd H d _ = H1
  have S1 := newS h_d q_d
  have e1 := newE q_d
  refine ⟨x, _, dx, _, rfl, S1 _ _ hx, tc.cls, tc.n1, by simp, ?_⟩
  have ne : d ≠ x := fun z => by rw [z, hx] at h_d; cases h_d
  exact k d _ h_d ne (upd_same.trans rfl) (by rw [upd_ne ne]; exact e1) fun b u hb h => by rw [upd_ne hb]; exact S1 _ _ h
abbrev s_Joints_link : Stmt := inClass (top 36) 1
theorem sc_Joints_link : FnScope ["self", "part"] ["self", "part"] (defScope s_Joints_link) := ⟨rfl, rfl, rfl, by decide +kernel, rfl, by decide +kernel, by decide +kernel⟩
def sp_Joints_link (K : PySem.W.Frag) (Ad : Adr) : Sp := fun vs H Q E => ∃ (j d : Addr) (v : V) (ls : List PD) (p : PD) (H0 : Hp), vs = [.ref j, v] ∧ JK Ad H0 H j d ls ∧ Same H0 H ∧ POV K Ad H p v ∧ p.st ≠ p.en ∧ ls.length ≤ 20 ∧ ∀ H', Same H0 H' → SameJ d H H' → JK Ad H0 H' j d (ls ++ [p]) → Q .non H'
theorem ok_Joints_link {f : Addr} {fd : FuncData} {dV : Value} (F : FunD K "link" "Joints.link" s_Joints_link dV f fd) (T : Txt K mg Ad)  : FnOk P w K mg base (CX1 P w) 1 f fd ["self", "part"] (sp_Joints_link K Ad) := by
  refine F.okn sc_Joints_link (fun vs H Q E h => ?_) (fun cdv A outer s H vs Q E hr h => ?_)
  · obtain ⟨j, d, v, ls, p, H0, rfl, _⟩ := h; rfl
  obtain ⟨j, d, v, ls, p, H0, rfl, h⟩ := h
  have hu := hr.units
  refine ⟨_, (pss_cons (ps_expr (pe_bm PySem.F.plainAttrs_list PySem.F.slot_list_append PySem.F.type_list_append mt_append (pe_dset (pe_fld (pv 0) rfl) (pe_fld (pv 1) rfl) (pe_lst pa_nil) ⟨rfl, rfl, rfl, rfl⟩) (pa_cons (pe_tup (pa_cons (pe_fld (pv 1) rfl) (pa_cons (pe_tup (pa_cons (pe_fld (pv 1) rfl) (pa_cons pe_bl pa_nil))) pa_nil))) pa_nil)))
      (pss_one (ps_expr (pe_bm PySem.F.plainAttrs_list PySem.F.slot_list_append PySem.F.type_list_append mt_append (pe_dset (pe_fld (pv 0) rfl) (pe_fld (pv 1) rfl) (pe_lst pa_nil) ⟨rfl, rfl, rfl, rfl⟩) (pa_cons (pe_tup (pa_cons (pe_fld (pv 1) rfl) (pa_cons (pe_tup (pa_cons (pe_fld (pv 1) rfl) (pa_cons pe_bl pa_nil))) pa_nil))) pa_nil))))), ?_⟩
  obtain ⟨⟨⟨dx, hj1⟩, hd0, kvs, hd1, hk, hJ1⟩, S01, hv, hne, hl, k⟩ := h
  obtain ⟨q, dq, vz, vm, rfl, hq1, hz, hm⟩ := hv
  have sl : (1000 : Nat) ≤ sizeLine := by decide
  have jc := T.c_Joints _ rfl
  have pc := T.c_Part _ rfl
  have nj : j ≠ d := fun z => by rw [z, hd1] at hj1; cases hj1
  have nq : q ≠ d := fun z => by rw [z, hd1] at hq1; cases hq1
  have hLn1 : ∀ f, (leadsOf ls f).length ≤ 20 := fun f => by have := lead_len ls f; omega
  show tSeq _ _ _ [some (.ref j), some (.ref q)] H
  try contradiction
  obtain ⟨H1, hH⟩ : ∃ H', H' = H := ⟨_, rfl⟩
  subst hH

  refine ⟨j, _, dx, _, .ref d, rfl, hj1, jc.cls, jc.n1, rfl, ?_⟩
  try contradiction
  refine ⟨d, rfl, .inl ⟨kvs, .inl hd1⟩, ?_⟩
  refine ⟨q, _, dq, _, .str p.st, rfl, hq1, pc.cls, pc.n2, rfl, ?_⟩
  try contradiction
  refine ⟨len0, ?_⟩
  intro l1 h_l1
  generalize q_l1 : upd H1 l1 _ = Hb1
  have Sb1 := newS h_l1 q_l1
  have eb1 := newE q_l1
  refine ⟨kvs, Sum.inr p.st, Sb1 _ _ hd1, rfl, by omega, fun v hv => ?_, fun hv => ?_⟩
  · obtain ⟨l, xs, hlx, hl0, hlh, hla⟩ : ∃ l xs, v = .ref l ∧ H0 l = none ∧ H1 l = some (.lst xs) ∧ All2 (LeV H1) ((leadsOf ls) p.st) xs := by
      rcases hJ1.at_ p.st with ⟨h1, _⟩ | ⟨l, xs, h1, h2, h3, h4⟩
      · rw [hv] at h1; cases h1
      · rw [hv] at h1; cases h1; exact ⟨l, xs, rfl, h2, h3, h4⟩
    subst hlx
    have lxs : xs.length ≤ 20 := by rw [hla.length]; exact hLn1 _
    refine ⟨.inl ⟨rfl, _, SqL.of (Sb1 _ _ hlh)⟩, ?_⟩
    try contradiction
    have hq_c := Sb1 _ _ hq1
    obtain ⟨Hc1, hHc⟩ : ∃ H', H' = Hb1 := ⟨_, rfl⟩
    rw [← hHc] at hq_c ⊢

    refine ⟨q, _, dq, _, .str p.en, rfl, hq_c, pc.cls, pc.n3, rfl, ?_⟩
    try contradiction
    refine ⟨q, _, dq, _, .str p.nm, rfl, hq_c, pc.cls, pc.n1, rfl, ?_⟩
    try contradiction
    refine ⟨len2, ?_⟩
    intro tc1 h_tc1
    generalize q_tc1 : upd Hc1 tc1 _ = Hd1
    have Sd1 := newS h_tc1 q_tc1
    have ed1 := newE q_tc1
    refine ⟨len2, ?_⟩
    intro tb1 h_tb1
    generalize q_tb1 : upd Hd1 tb1 _ = He1
    have Se1 := newS h_tb1 q_tb1
    have ee1 := newE q_tb1
    have lev1 : LeV He1 (p.en, (p.nm, true)) (.ref tb1) := ⟨tb1, tc1, rfl, ee1, Se1 _ _ ed1⟩
    have Sce1 := Sd1.trans Se1

    have hle := Sce1 _ _ (by rw [hHc]; exact Sb1 _ _ hlh : Hc1 l = some (.lst xs))
    refine ⟨l, xs, _, rfl, rfl, hle, by omega, ?_⟩
    generalize u2 : upd He1 l _ = H2
    have Sbe : Same H1 He1 := fun b u h => Sce1 _ _ (by rw [hHc]; exact Sb1 _ _ h)
    have hJ2 := (hJ1.same Sbe).more hv hle lev1 u2
    have sj2 : SameJ d H1 H2 := fun b u _ hu h => by rw [← u2, upd_ne (fun z => by have := Sbe _ _ h; rw [z, hle] at this; cases this; exact hu _ rfl)]; exact Sbe _ _ h
    have hd2 : H2 d = some (.dK kvs) := by rw [← u2, upd_ne (fun z => by have := Sbe _ _ hd1; rw [z, hle] at this; cases this)]; exact Sbe _ _ hd1
    have S02 : Same H0 H2 := fun b u h => by rw [← u2, upd_ne (ne_of_none h hl0)]; exact Sbe _ _ (S01 _ _ h)

    have hj2 := sj2 _ _ nj (by intro xs z; cases z) hj1
    have hq2 := sj2 _ _ nq (by intro xs z; cases z) hq1
    have hLn2 : ∀ f, (addL (leadsOf ls) p.st (p.en, (p.nm, true)) f).length ≤ 21 := fun f => by
      have := lead_len ls f
      unfold addL
      split
      · rw [List.length_append, List.length_singleton]; omega
      · omega
    try contradiction

    refine ⟨j, _, dx, _, .ref d, rfl, hj2, jc.cls, jc.n1, rfl, ?_⟩
    try contradiction
    refine ⟨d, rfl, .inl ⟨kvs, .inl hd2⟩, ?_⟩
    refine ⟨q, _, dq, _, .str p.en, rfl, hq2, pc.cls, pc.n3, rfl, ?_⟩
    try contradiction
    refine ⟨len0, ?_⟩
    intro l2 h_l2
    generalize q_l2 : upd H2 l2 _ = Hb2
    have Sb2 := newS h_l2 q_l2
    have eb2 := newE q_l2
    refine ⟨kvs, Sum.inr p.en, Sb2 _ _ hd2, rfl, by omega, fun v hv => ?_, fun hv => ?_⟩
    · obtain ⟨l, xs, hlx, hl0, hlh, hla⟩ : ∃ l xs, v = .ref l ∧ H0 l = none ∧ H2 l = some (.lst xs) ∧ All2 (LeV H2) ((addL (leadsOf ls) p.st (p.en, (p.nm, true))) p.en) xs := by
        rcases hJ2.at_ p.en with ⟨h1, _⟩ | ⟨l, xs, h1, h2, h3, h4⟩
        · rw [hv] at h1; cases h1
        · rw [hv] at h1; cases h1; exact ⟨l, xs, rfl, h2, h3, h4⟩
      subst hlx
      have lxs : xs.length ≤ 21 := by rw [hla.length]; exact hLn2 _
      refine ⟨.inl ⟨rfl, _, SqL.of (Sb2 _ _ hlh)⟩, ?_⟩
      try contradiction
      have hq_c := Sb2 _ _ hq2
      obtain ⟨Hc2, hHc⟩ : ∃ H', H' = Hb2 := ⟨_, rfl⟩
      rw [← hHc] at hq_c ⊢

      refine ⟨q, _, dq, _, .str p.st, rfl, hq_c, pc.cls, pc.n2, rfl, ?_⟩
      try contradiction
      refine ⟨q, _, dq, _, .str p.nm, rfl, hq_c, pc.cls, pc.n1, rfl, ?_⟩
      try contradiction
      refine ⟨len2, ?_⟩
      intro tc2 h_tc2
      generalize q_tc2 : upd Hc2 tc2 _ = Hd2
      have Sd2 := newS h_tc2 q_tc2
      have ed2 := newE q_tc2
      refine ⟨len2, ?_⟩
      intro tb2 h_tb2
      generalize q_tb2 : upd Hd2 tb2 _ = He2
      have Se2 := newS h_tb2 q_tb2
      have ee2 := newE q_tb2
      have lev2 : LeV He2 (p.st, (p.nm, false)) (.ref tb2) := ⟨tb2, tc2, rfl, ee2, Se2 _ _ ed2⟩
      have Sce2 := Sd2.trans Se2

      have hle := Sce2 _ _ (by rw [hHc]; exact Sb2 _ _ hlh : Hc2 l = some (.lst xs))
      refine ⟨l, xs, _, rfl, rfl, hle, by omega, ?_⟩
      generalize u3 : upd He2 l _ = H3
      have Sbe : Same H2 He2 := fun b u h => Sce2 _ _ (by rw [hHc]; exact Sb2 _ _ h)
      have hJ3 := (hJ2.same Sbe).more hv hle lev2 u3
      have sj3 : SameJ d H2 H3 := fun b u _ hu h => by rw [← u3, upd_ne (fun z => by have := Sbe _ _ h; rw [z, hle] at this; cases this; exact hu _ rfl)]; exact Sbe _ _ h
      have hd3 : H3 d = some (.dK kvs) := by rw [← u3, upd_ne (fun z => by have := Sbe _ _ hd2; rw [z, hle] at this; cases this)]; exact Sbe _ _ hd2
      have S03 : Same H0 H3 := fun b u h => by rw [← u3, upd_ne (ne_of_none h hl0)]; exact Sbe _ _ (S02 _ _ h)

      rw [add_leads hne] at hJ3
      refine k H3 S03 (fun b u hb hu h => sj3 b u hb hu (sj2 b u hb hu h)) ⟨⟨dx, sj3 _ _ nj (by intro xs z; cases z) hj2⟩, hd0, _, hd3, ?_, hJ3⟩
      rw [List.length_append, List.length_singleton]
      omega
    · have hn0 : H0 l2 = none := by
        cases e : H0 l2 with
        | none => rfl
        | some o => rw [S02 _ _ e] at h_l2; cases h_l2
      generalize uc : upd Hb2 d _ = Hc2
      have nd : l2 ≠ d := fun z => by rw [z, hd2] at h_l2; cases h_l2
      have elc : Hc2 l2 = some (.lst []) := by rw [← uc, upd_ne nd]; exact eb2
      have scx : ∀ b u, b ≠ d → H2 b = some u → Hc2 b = some u := fun b u hb h => by rw [← uc, upd_ne hb]; exact Sb2 _ _ h
      have hdc : Hc2 d = some (.dK (putK kvs (Sum.inr p.en) (.ref l2))) := by rw [← uc, upd_same]
      refine ⟨.inl ⟨rfl, _, SqL.of elc⟩, ?_⟩
      try contradiction
      have hq_c := scx _ _ (fun z => by rw [z, hd2] at hq2; cases hq2) hq2

      refine ⟨q, _, dq, _, .str p.st, rfl, hq_c, pc.cls, pc.n2, rfl, ?_⟩
      try contradiction
      refine ⟨q, _, dq, _, .str p.nm, rfl, hq_c, pc.cls, pc.n1, rfl, ?_⟩
      try contradiction
      refine ⟨len2, ?_⟩
      intro tc2 h_tc2
      generalize q_tc2 : upd Hc2 tc2 _ = Hd2
      have Sd2 := newS h_tc2 q_tc2
      have ed2 := newE q_tc2
      refine ⟨len2, ?_⟩
      intro tb2 h_tb2
      generalize q_tb2 : upd Hd2 tb2 _ = He2
      have Se2 := newS h_tb2 q_tb2
      have ee2 := newE q_tb2
      have lev2 : LeV He2 (p.st, (p.nm, false)) (.ref tb2) := ⟨tb2, tc2, rfl, ee2, Se2 _ _ ed2⟩
      have Sce2 := Sd2.trans Se2

      have hle := Sce2 _ _ elc
      refine ⟨l2, [], _, rfl, rfl, hle, by show 0 < sizeLine; omega, ?_⟩
      generalize u3 : upd He2 l2 _ = H3
      have hJ3 := ((hJ2.sx scx hd2).same Sce2).first hv hn0 (fun g l' hl' z => by
        rcases hJ2.at_ g with ⟨h1, _⟩ | ⟨l2, xs2, h1, _, h3, _⟩
        · rw [hl'] at h1; cases h1
        · rw [hl'] at h1; cases h1; rw [z, h_l2] at h3; cases h3) hle lev2 u3
      have sj3 : SameJ d H2 H3 := fun b u hb hu h => by rw [← u3, upd_ne (fun z => by rw [z, h_l2] at h; cases h)]; exact Sce2 _ _ (scx _ _ hb h)
      have hd3 := Sce2 _ _ hdc
      rw [show He2 d = H3 d by rw [← u3, upd_ne (Ne.symm nd)]] at hd3
      have S03 : Same H0 H3 := fun b u h => by rw [← u3, upd_ne (ne_of_none h hn0)]; exact Sce2 _ _ (scx _ _ (ne_of_none h hd0) (S02 _ _ h))
      have lp := length_putK kvs (Sum.inr p.en) (V.ref l2)

      rw [add_leads hne] at hJ3
      refine k H3 S03 (fun b u hb hu h => sj3 b u hb hu (sj2 b u hb hu h)) ⟨⟨dx, sj3 _ _ nj (by intro xs z; cases z) hj2⟩, hd0, _, hd3, ?_, hJ3⟩
      rw [List.length_append, List.length_singleton]
      omega
  · have hn0 : H0 l1 = none := by
      cases e : H0 l1 with
      | none => rfl
      | some o => rw [S01 _ _ e] at h_l1; cases h_l1
    generalize uc : upd Hb1 d _ = Hc1
    have nd : l1 ≠ d := fun z => by rw [z, hd1] at h_l1; cases h_l1
    have elc : Hc1 l1 = some (.lst []) := by rw [← uc, upd_ne nd]; exact eb1
    have scx : ∀ b u, b ≠ d → H1 b = some u → Hc1 b = some u := fun b u hb h => by rw [← uc, upd_ne hb]; exact Sb1 _ _ h
    have hdc : Hc1 d = some (.dK (putK kvs (Sum.inr p.st) (.ref l1))) := by rw [← uc, upd_same]
    refine ⟨.inl ⟨rfl, _, SqL.of elc⟩, ?_⟩
    try contradiction
    have hq_c := scx _ _ (fun z => by rw [z, hd1] at hq1; cases hq1) hq1

    refine ⟨q, _, dq, _, .str p.en, rfl, hq_c, pc.cls, pc.n3, rfl, ?_⟩
    try contradiction
    refine ⟨q, _, dq, _, .str p.nm, rfl, hq_c, pc.cls, pc.n1, rfl, ?_⟩
    try contradiction
    refine ⟨len2, ?_⟩
    intro tc1 h_tc1
    generalize q_tc1 : upd Hc1 tc1 _ = Hd1
    have Sd1 := newS h_tc1 q_tc1
    have ed1 := newE q_tc1
    refine ⟨len2, ?_⟩
    intro tb1 h_tb1
    generalize q_tb1 : upd Hd1 tb1 _ = He1
    have Se1 := newS h_tb1 q_tb1
    have ee1 := newE q_tb1
    have lev1 : LeV He1 (p.en, (p.nm, true)) (.ref tb1) := ⟨tb1, tc1, rfl, ee1, Se1 _ _ ed1⟩
    have Sce1 := Sd1.trans Se1

    have hle := Sce1 _ _ elc
    refine ⟨l1, [], _, rfl, rfl, hle, by show 0 < sizeLine; omega, ?_⟩
    generalize u2 : upd He1 l1 _ = H2
    have hJ2 := ((hJ1.sx scx hd1).same Sce1).first hv hn0 (fun g l' hl' z => by
      rcases hJ1.at_ g with ⟨h1, _⟩ | ⟨l2, xs2, h1, _, h3, _⟩
      · rw [hl'] at h1; cases h1
      · rw [hl'] at h1; cases h1; rw [z, h_l1] at h3; cases h3) hle lev1 u2
    have sj2 : SameJ d H1 H2 := fun b u hb hu h => by rw [← u2, upd_ne (fun z => by rw [z, h_l1] at h; cases h)]; exact Sce1 _ _ (scx _ _ hb h)
    have hd2 := Sce1 _ _ hdc
    rw [show He1 d = H2 d by rw [← u2, upd_ne (Ne.symm nd)]] at hd2
    have S02 : Same H0 H2 := fun b u h => by rw [← u2, upd_ne (ne_of_none h hn0)]; exact Sce1 _ _ (scx _ _ (ne_of_none h hd0) (S01 _ _ h))
    have lp := length_putK kvs (Sum.inr p.st) (V.ref l1)

    have hj2 := sj2 _ _ nj (by intro xs z; cases z) hj1
    have hq2 := sj2 _ _ nq (by intro xs z; cases z) hq1
    have hLn2 : ∀ f, (addL (leadsOf ls) p.st (p.en, (p.nm, true)) f).length ≤ 21 := fun f => by
      have := lead_len ls f
      unfold addL
      split
      · rw [List.length_append, List.length_singleton]; omega
      · omega
    try contradiction

    refine ⟨j, _, dx, _, .ref d, rfl, hj2, jc.cls, jc.n1, rfl, ?_⟩
    try contradiction
    refine ⟨d, rfl, .inl ⟨(putK kvs (Sum.inr p.st) (V.ref l1)), .inl hd2⟩, ?_⟩
    refine ⟨q, _, dq, _, .str p.en, rfl, hq2, pc.cls, pc.n3, rfl, ?_⟩
    try contradiction
    refine ⟨len0, ?_⟩
    intro l2 h_l2
    generalize q_l2 : upd H2 l2 _ = Hb2
    have Sb2 := newS h_l2 q_l2
    have eb2 := newE q_l2
    refine ⟨(putK kvs (Sum.inr p.st) (V.ref l1)), Sum.inr p.en, Sb2 _ _ hd2, rfl, by omega, fun v hv => ?_, fun hv => ?_⟩
    · obtain ⟨l, xs, hlx, hl0, hlh, hla⟩ : ∃ l xs, v = .ref l ∧ H0 l = none ∧ H2 l = some (.lst xs) ∧ All2 (LeV H2) ((addL (leadsOf ls) p.st (p.en, (p.nm, true))) p.en) xs := by
        rcases hJ2.at_ p.en with ⟨h1, _⟩ | ⟨l, xs, h1, h2, h3, h4⟩
        · rw [hv] at h1; cases h1
        · rw [hv] at h1; cases h1; exact ⟨l, xs, rfl, h2, h3, h4⟩
      subst hlx
      have lxs : xs.length ≤ 21 := by rw [hla.length]; exact hLn2 _
      refine ⟨.inl ⟨rfl, _, SqL.of (Sb2 _ _ hlh)⟩, ?_⟩
      try contradiction
      have hq_c := Sb2 _ _ hq2
      obtain ⟨Hc2, hHc⟩ : ∃ H', H' = Hb2 := ⟨_, rfl⟩
      rw [← hHc] at hq_c ⊢

      refine ⟨q, _, dq, _, .str p.st, rfl, hq_c, pc.cls, pc.n2, rfl, ?_⟩
      try contradiction
      refine ⟨q, _, dq, _, .str p.nm, rfl, hq_c, pc.cls, pc.n1, rfl, ?_⟩
      try contradiction
      refine ⟨len2, ?_⟩
      intro tc2 h_tc2
      generalize q_tc2 : upd Hc2 tc2 _ = Hd2
      have Sd2 := newS h_tc2 q_tc2
      have ed2 := newE q_tc2
      refine ⟨len2, ?_⟩
      intro tb2 h_tb2
      generalize q_tb2 : upd Hd2 tb2 _ = He2
      have Se2 := newS h_tb2 q_tb2
      have ee2 := newE q_tb2
      have lev2 : LeV He2 (p.st, (p.nm, false)) (.ref tb2) := ⟨tb2, tc2, rfl, ee2, Se2 _ _ ed2⟩
      have Sce2 := Sd2.trans Se2

      have hle := Sce2 _ _ (by rw [hHc]; exact Sb2 _ _ hlh : Hc2 l = some (.lst xs))
      refine ⟨l, xs, _, rfl, rfl, hle, by omega, ?_⟩
      generalize u3 : upd He2 l _ = H3
      have Sbe : Same H2 He2 := fun b u h => Sce2 _ _ (by rw [hHc]; exact Sb2 _ _ h)
      have hJ3 := (hJ2.same Sbe).more hv hle lev2 u3
      have sj3 : SameJ d H2 H3 := fun b u _ hu h => by rw [← u3, upd_ne (fun z => by have := Sbe _ _ h; rw [z, hle] at this; cases this; exact hu _ rfl)]; exact Sbe _ _ h
      have hd3 : H3 d = some (.dK (putK kvs (Sum.inr p.st) (V.ref l1))) := by rw [← u3, upd_ne (fun z => by have := Sbe _ _ hd2; rw [z, hle] at this; cases this)]; exact Sbe _ _ hd2
      have S03 : Same H0 H3 := fun b u h => by rw [← u3, upd_ne (ne_of_none h hl0)]; exact Sbe _ _ (S02 _ _ h)

      rw [add_leads hne] at hJ3
      refine k H3 S03 (fun b u hb hu h => sj3 b u hb hu (sj2 b u hb hu h)) ⟨⟨dx, sj3 _ _ nj (by intro xs z; cases z) hj2⟩, hd0, _, hd3, ?_, hJ3⟩
      rw [List.length_append, List.length_singleton]
      omega
    · have hn0 : H0 l2 = none := by
        cases e : H0 l2 with
        | none => rfl
        | some o => rw [S02 _ _ e] at h_l2; cases h_l2
      generalize uc : upd Hb2 d _ = Hc2
      have nd : l2 ≠ d := fun z => by rw [z, hd2] at h_l2; cases h_l2
      have elc : Hc2 l2 = some (.lst []) := by rw [← uc, upd_ne nd]; exact eb2
      have scx : ∀ b u, b ≠ d → H2 b = some u → Hc2 b = some u := fun b u hb h => by rw [← uc, upd_ne hb]; exact Sb2 _ _ h
      have hdc : Hc2 d = some (.dK (putK (putK kvs (Sum.inr p.st) (V.ref l1)) (Sum.inr p.en) (.ref l2))) := by rw [← uc, upd_same]
      refine ⟨.inl ⟨rfl, _, SqL.of elc⟩, ?_⟩
      try contradiction
      have hq_c := scx _ _ (fun z => by rw [z, hd2] at hq2; cases hq2) hq2

      refine ⟨q, _, dq, _, .str p.st, rfl, hq_c, pc.cls, pc.n2, rfl, ?_⟩
      try contradiction
      refine ⟨q, _, dq, _, .str p.nm, rfl, hq_c, pc.cls, pc.n1, rfl, ?_⟩
      try contradiction
      refine ⟨len2, ?_⟩
      intro tc2 h_tc2
      generalize q_tc2 : upd Hc2 tc2 _ = Hd2
      have Sd2 := newS h_tc2 q_tc2
      have ed2 := newE q_tc2
      refine ⟨len2, ?_⟩
      intro tb2 h_tb2
      generalize q_tb2 : upd Hd2 tb2 _ = He2
      have Se2 := newS h_tb2 q_tb2
      have ee2 := newE q_tb2
      have lev2 : LeV He2 (p.st, (p.nm, false)) (.ref tb2) := ⟨tb2, tc2, rfl, ee2, Se2 _ _ ed2⟩
      have Sce2 := Sd2.trans Se2

      have hle := Sce2 _ _ elc
      refine ⟨l2, [], _, rfl, rfl, hle, by show 0 < sizeLine; omega, ?_⟩
      generalize u3 : upd He2 l2 _ = H3
      have hJ3 := ((hJ2.sx scx hd2).same Sce2).first hv hn0 (fun g l' hl' z => by
        rcases hJ2.at_ g with ⟨h1, _⟩ | ⟨l2, xs2, h1, _, h3, _⟩
        · rw [hl'] at h1; cases h1
        · rw [hl'] at h1; cases h1; rw [z, h_l2] at h3; cases h3) hle lev2 u3
      have sj3 : SameJ d H2 H3 := fun b u hb hu h => by rw [← u3, upd_ne (fun z => by rw [z, h_l2] at h; cases h)]; exact Sce2 _ _ (scx _ _ hb h)
      have hd3 := Sce2 _ _ hdc
      rw [show He2 d = H3 d by rw [← u3, upd_ne (Ne.symm nd)]] at hd3
      have S03 : Same H0 H3 := fun b u h => by rw [← u3, upd_ne (ne_of_none h hn0)]; exact Sce2 _ _ (scx _ _ (ne_of_none h hd0) (S02 _ _ h))
      have lp := length_putK (putK kvs (Sum.inr p.st) (V.ref l1)) (Sum.inr p.en) (V.ref l2)

      rw [add_leads hne] at hJ3
      refine k H3 S03 (fun b u hb hu h => sj3 b u hb hu (sj2 b u hb hu h)) ⟨⟨dx, sj3 _ _ nj (by intro xs z; cases z) hj2⟩, hd0, _, hd3, ?_, hJ3⟩
      rw [List.length_append, List.length_singleton]
      omega
abbrev s_Joints_way_between : Stmt := inClass (top 36) 2
theorem sc_Joints_way_between : FnScope ["self", "one", "other", "found", "waiting", "face", "lead"] ["self", "one", "other"] (defScope s_Joints_way_between) := ⟨rfl, rfl, rfl, by decide +kernel, rfl, by decide +kernel, by decide +kernel⟩
def sp_Joints_way_between (K : PySem.W.Frag) (Ad : Adr) : Sp := fun vs H Q E => ∃ (j d : Addr) (one other : Str) (ls : List PD) (H0 : Hp), vs = [.ref j, .str one, .str other] ∧ JK Ad H0 H j d ls ∧ ls.length ≤ 20 ∧ (¬ Conn ls one other → ∀ H', Same H H' → Q .non H') ∧ (∀ w l xs H', Same H H' → H l = none → H' l = some (.lst xs) → All2 (CV H') w xs → WalkTo ls one w other → Q (.ref l) H')
theorem ok_Joints_way_between {f : Addr} {fd : FuncData} {dV : Value} (F : FunD K "way_between" "Joints.way_between" s_Joints_way_between dV f fd) (T : Txt K mg Ad)  : FnOk P w K mg base (CX1 P w) 1 f fd ["self", "one", "other"] (sp_Joints_way_between K Ad) := by
  refine F.okn sc_Joints_way_between (fun vs H Q E h => ?_) (fun cdv A outer s H vs Q E hr h => ?_)
  · obtain ⟨j, d, one, other, ls, H0, rfl, _⟩ := h; rfl
  obtain ⟨j, d, one, other, ls, H0, rfl, h⟩ := h
  have hu := hr.units
  refine ⟨_, (pss_cons (ps_set (i := 3) sc_Joints_way_between.nd rfl (Or.inl rfl) (pe_disp (pps_cons (pv 1) (pe_lst pa_nil) pps_nil) rfl rfl (by simp) (by decide)))
      (pss_cons (ps_set (i := 4) sc_Joints_way_between.nd rfl (Or.inl rfl) (pe_lst (pa_cons (pv 1) pa_nil)))
      (pss_cons (ps_while PassesOwn.never (pt_cmpR op_gtU (pe_callB call_lenU rfl T.n_len bt_len (pa_cons (pv 4) pa_nil)) pe_int (nomark _))
      (pss_cons (ps_set (i := 5) sc_Joints_way_between.nd rfl (Or.inl rfl) (pe_bm0 PySem.F.plainAttrs_list PySem.F.slot_list_pop PySem.F.type_list_pop mt_pop (pv 4)))
      (pss_one (ps_for PassesOwn.never rfl (pi_U (pe_dget2 (hu1 hu) (pe_fld (pv 0) rfl) (pv 5) (pe_lst pa_nil) ⟨rfl, rfl, rfl, rfl⟩)) (pg_name (i := 6) sc_Joints_way_between.nd rfl (Or.inl rfl))
      (pss_one (ps_if (pt_cmp (pc_dnotin (hu1 hu) (pe_ix ix_U (pv 6) pe_int (fun _ _ => rfl)) (pv 3)) (by with_unfolding_all rfl))
      (pss_cons (ps_dput (hu1 hu) (pv 3) (pe_ix ix_U (pv 6) pe_int (fun _ _ => rfl)) (pe_op op_addU (pe_dget (hu1 hu) (pv 3) (pv 5) (fun _ _ => rfl)) (pe_lst (pa_cons (pe_ix ix_U (pv 6) pe_int (fun _ _ => rfl)) pa_nil))) rfl)
      (pss_one (ps_expr (pe_bm PySem.F.plainAttrs_list PySem.F.slot_list_append PySem.F.type_list_append mt_append (pv 4) (pa_cons (pe_ix ix_U (pv 6) pe_int (fun _ _ => rfl)) pa_nil)))))
      pss_nil))))))
      (pss_one (ps_ret (pe_dget1 (hu1 hu) (pv 3) (pv 2) ⟨rfl, rfl, rfl, rfl⟩)))))), ?_⟩
  obtain ⟨⟨⟨dx, hj⟩, hd0, kvs, hd, hk, hJ⟩, hl, k1, k2⟩ := h
  have sl : (1000 : Nat) ≤ sizeLine := by decide
  have jc := T.c_Joints _ rfl
  show tSeq _ _ _ [some (.ref j), some (.str one), some (.str other), none, none, none, none] H
  try contradiction
  intro fd h_fd
  generalize q_fd : upd H fd _ = H1
  have S1 := newS h_fd q_fd
  have e1 := newE q_fd
  refine ⟨len0, ?_⟩
  intro l0 h_l0
  generalize q_l0 : upd H1 l0 _ = H2
  have S2 := newS h_l0 q_l0
  have e2 := newE q_l0
  refine ⟨S2 _ _ e1, [(Sum.inr one, .ref l0)], rfl, by show 1 ≤ 15; omega, ?_⟩
  generalize u3 : upd H2 fd _ = H3
  have e3 : H3 fd = some (.dK [(Sum.inr one, .ref l0)]) := by rw [← u3]; exact upd_same.trans rfl
  have nl0 : l0 ≠ fd := fun z => by rw [z, e1] at h_l0; cases h_l0
  have e3l : H3 l0 = some (.lst []) := by rw [← u3, upd_ne nl0]; exact e2
  have S03 : Same H H3 := fun b u h => by rw [← u3, upd_ne (ne_of_none h h_fd)]; exact S2 _ _ (S1 _ _ h)
  have h0l : H l0 = none := by
    cases e : H l0 with
    | none => rfl
    | some o => rw [S1 _ _ e] at h_l0; cases h_l0
  refine ⟨by show 1 ≤ sizeLine; omega, ?_⟩
  intro wl h_wl
  generalize q_wl : upd H3 wl _ = H4
  have S4 := newS h_wl q_wl
  have e4 := newE q_wl
  have h0w : H wl = none := by
    cases e : H wl with
    | none => rfl
    | some o => rw [S03 _ _ e] at h_wl; cases h_wl
  have nwl : l0 ≠ wl := fun z => by rw [← z, e3l] at h_wl; cases h_wl
  have nfw : fd ≠ wl := fun z => by rw [← z, e3] at h_wl; cases h_wl
  have sr0 : Srch H ls one fd wl H4 [(one, [])] [one] := ⟨S03.trans S4, ⟨_, S4 _ _ e3, rfl, .ref l0, [], rfl, ⟨l0, [], rfl, h0l, nwl, S4 _ _ e3l, rfl⟩, rfl⟩, by simp, by simp, fun a ha => by rw [List.mem_singleton.mp ha]; exact .nil, e4, by simp, by simp⟩
  refine ⟨fun m σ H' => ∃ (v5 v6 : Option V) (ws : List (Str × List Pr)) (wt : List Str), σ = [some (.ref j), some (.str one), some (.str other), some (.ref fd), some (.ref wl), v5, v6] ∧ Srch H ls one fd wl H' ws wt ∧ (∀ a ∈ ws, a.1 ∉ wt → ∀ e ∈ leadsOf ls a.1, e.1 ∈ ws.map (·.1)) ∧ m = 2 * (41 - ws.length) + wt.length ∧ m ≤ 81, ⟨_, none, none, [(one, [])], [one], rfl, sr0, fun a ha hn => absurd (by rw [List.mem_singleton.mp ha]; simp) hn, rfl, by simp⟩, ?_⟩
  rintro m σ H5 ⟨v5, v6, ws, wt, rfl, sr, cl, rfl, m81⟩
  try infer_instance
  refine ⟨_, .inl (SqL.of sr.wait), ?_⟩
  try try infer_instance
  rcases List.eq_nil_or_concat wt with rfl | ⟨wt', face, rfl⟩
  · rw [if_neg (by simp)]
    obtain ⟨kv5, hf5, hb5⟩ := sr.dict
    try try infer_instance
    refine ⟨fd, rfl, .inl ⟨kv5, .inl hf5⟩, _, DGet.k (k := Sum.inr other) hf5, ?_⟩
    rcases hb5.get (z := other) with ⟨a, v, h1, h2, h3, l, xs, rfl, h4, _, h5, h6⟩ | ⟨h1, h2⟩
    · rw [h3]
      exact k2 a.2 l xs H5 sr.same h4 h5 h6 (by rw [← h2]; exact sr.walk a h1)
    · rw [h2]
      refine k1 (fun hc => h1 (conn_in sr.here (fun f hf e he => ?_) hc)) H5 sr.same
      obtain ⟨a, ha, rfl⟩ := List.mem_map.mp hf
      exact cl a ha (by simp) e he
  · rw [if_pos (by simp)]
    rw [List.concat_eq_append] at sr cl m81 ⊢
    refine ⟨_, fun _ _ q => q, .inl ⟨rfl, _, SqL.of sr.wait⟩, ?_⟩
    refine ⟨wl, _, .str face, rfl, rfl, sr.wait, by simp, ?_⟩
    generalize u6 : upd H5 wl _ = H6
    have ed : ((wt' ++ [face]).map V.str).dropLast = wt'.map V.str := by simp
    rw [ed] at u6
    have sr6 : Srch H ls one fd wl H6 ws wt' := sr.wait' h0w u6 fun f hf => sr.sub f (by simp [hf])
    have hface := sr.sub face (by simp)
    try contradiction
    refine ⟨j, _, dx, _, .ref d, rfl, sr6.same _ _ hj, jc.cls, jc.n1, rfl, ?_⟩
    try contradiction
    refine ⟨d, rfl, .inl ⟨kvs, .inl (sr6.same _ _ hd)⟩, len0, ?_⟩
    intro le h_le
    generalize q_le : upd H6 le _ = H7
    have S7 := newS h_le q_le
    have e7 := newE q_le
    have sr7 := sr6.grow S7
    have nle : le ≠ wl := fun z => by have := sr6.wait; rw [← z, h_le] at this; cases this
    refine ⟨_, DGet.k (k := Sum.inr face) (sr7.same _ _ hd), ?_⟩
    obtain ⟨la, xs, hla, hxs, hlx, nla⟩ : ∃ la xs, (valV kvs (Sum.inr face)).getD (.ref le) = .ref la ∧ H7 la = some (.lst xs) ∧ All2 (LeV H7) (leadsOf ls face) xs ∧ la ≠ wl := by
      rcases hJ.at_ face with ⟨h1, h2⟩ | ⟨l, xs, h1, h2, h3, h4⟩
      · exact ⟨le, [], by rw [h1]; rfl, e7, by rw [h2]; rfl, nle⟩
      · exact ⟨l, xs, by rw [h1]; rfl, sr7.same _ _ h3, h4.mono fun _ _ z => z.sameT sr7.same.t, ne_of_none h3 h0w⟩
    have lx := hlx.length
    have l41 := sr7.len hl
    refine ⟨la, hla, ForA.byL (xs := xs) (SqL.of hxs) (fun i σ H' => i ≤ xs.length ∧ ∃ (v6 : Option V) (ws2 : List (Str × List Pr)) (wt2 : List Str), σ = [some (.ref j), some (.str one), some (.str other), some (.ref fd), some (.ref wl), some (.str face), v6] ∧ Srch H ls one fd wl H' ws2 wt2 ∧ H' la = some (.lst xs) ∧ SameT H7 H' ∧ (∀ a ∈ ws2, a.1 ∉ wt2 → a.1 ≠ face → ∀ e ∈ leadsOf ls a.1, e.1 ∈ ws2.map (·.1)) ∧ (∀ e ∈ (leadsOf ls face).take i, e.1 ∈ ws2.map (·.1)) ∧ face ∈ ws2.map (·.1) ∧ 2 * (41 - ws2.length) + wt2.length ≤ 2 * (41 - ws.length) + wt'.length) ⟨Nat.zero_le _, v6, ws, wt', rfl, sr7, hxs, SameT.refl _, fun a ha h1 h2 => cl a ha (by simp [h1, h2]), by simp, hface, Nat.le_refl _⟩ (fun i σ H' z => by obtain ⟨_, _, _, _, _, _, z, _⟩ := z; exact SqL.of z) ?_ ?_⟩
    · rintro i y σ H8 hy ⟨hi, v6, ws2, wt2, rfl, sr8, hl8, T78, cl8, pt8, fc8, ms8⟩
      have li : i < xs.length := (List.getElem?_eq_some_iff.mp hy).1
      obtain ⟨e, he, b, c, rfl, hb7, hc7⟩ := hlx.at_ hy
      have hb8 := T78 _ _ rfl hb7
      have hc8 := T78 _ _ rfl hc7
      have etk : (leadsOf ls face).take (i + 1) = (leadsOf ls face).take i ++ [e] := by rw [List.take_succ, he]; rfl
      have hem : e ∈ leadsOf ls face := List.mem_of_getElem? he
      obtain ⟨kv8, hf8, bg8⟩ := sr8.dict
      try infer_instance
      refine ixT (i := 0) (SqT.of hb8) rfl ?_
      refine ⟨fd, _, rfl, DGet.k (k := Sum.inr e.1) hf8, ?_⟩
      rw [bg8.val]
      by_cases cin : e.1 ∈ ws2.map (·.1)
      · rw [decide_eq_true cin]
        try try infer_instance
        refine ⟨li, _, ws2, wt2, rfl, sr8, hl8, T78, cl8, fun e' he' => ?_, fc8, ms8⟩
        rw [etk] at he'
        rcases List.mem_append.mp he' with h' | h'
        · exact pt8 e' h'
        · rw [List.mem_singleton.mp h']
          exact cin
      · rw [decide_eq_false cin]
        try try infer_instance
        obtain ⟨a, v, ha, haf, hv, l, xw, rfl, hl0, hlw, hlx8, hxa⟩ := bg8.some fc8
        have wl8 := sr8.lw a ha
        have w41 := sr8.len hl
        have lxw := hxa.length
        refine ⟨fd, .ref l, rfl, by rw [← hv]; exact DGet.k (k := Sum.inr face) hf8, ?_⟩
        refine ixT (i := 1) (SqT.of hb8) rfl ?_
        refine ⟨by show 1 ≤ sizeLine; omega, ?_⟩
        intro ln h_ln
        generalize q_ln : upd H8 ln _ = H9
        have S9 := newS h_ln q_ln
        have e9 := newE q_ln
        refine .inl ⟨l, ln, xw, _, rfl, rfl, S9 _ _ hlx8, e9, by simp; omega, ?_⟩
        intro lr h_lr
        generalize q_lr : upd H9 lr _ = H10
        have S10 := newS h_lr q_lr
        have e10 := newE q_lr
        try try infer_instance
        have S810 := S9.trans S10
        have sr10 := sr8.grow S810
        refine ixT (i := 0) (SqT.of (S810 _ _ hb8)) rfl ?_
        have lk := bg8.length
        refine ⟨fd, _, rfl, DPut.k (k := Sum.inr e.1) (S810 _ _ hf8) (by omega), ?_⟩
        generalize u11 : upd H10 fd _ = H11
        have n0 : H lr = none := by
          cases e : H lr with
          | none => rfl
          | some o => rw [S9 _ _ (sr8.same _ _ e)] at h_lr; cases h_lr
        have nlr : lr ≠ wl := fun z => by have := (sr8.grow S9).wait; rw [← z, h_lr] at this; cases this
        have hwk : WalkTo ls one (a.2 ++ [e.2]) e.1 := .snoc (by rw [← haf]; exact sr8.walk a ha) hem
        have hf10 := S810 _ _ hf8
        have bg10 := bg8.mono (P' := PWy H H10 wl) fun a v ⟨l, xs, e1, hn, hne, hx, ha⟩ => ⟨l, xs, e1, hn, hne, S810 _ _ hx, ha.mono fun _ _ z => z.sameT S810.t⟩
        have cv : CV H10 e.2 (.ref c) := ⟨c, rfl, S810 _ _ hc8⟩
        have sr11 := sr10.find hf10 bg10 h_fd cin hwk (by simp; omega) n0 nlr e10 ((hxa.mono (P' := CV H10) fun _ _ z => z.sameT S810.t).append (.one cv)) u11
        have T11 : SameT H10 H11 := SameT.put u11 hf10 rfl
        have nlf : la ≠ fd := fun z => by rw [z, hf8] at hl8; cases hl8
        have hl11 : H11 la = some (.lst xs) := by rw [← u11, upd_ne nlf]; exact S810 _ _ hl8
        have l11 := sr11.len hl
        rw [List.length_append, List.length_singleton] at l11
        have lw' : (wt2.map V.str).length ≤ 81 := by
          rw [List.length_map]
          rw [List.length_append, List.length_singleton] at m81
          omega
        refine ⟨.inl ⟨rfl, _, SqL.of sr11.wait⟩, ?_⟩
        refine ixT (i := 0) (SqT.of (T11 _ _ rfl (S810 _ _ hb8))) rfl ?_
        refine ⟨wl, _, _, rfl, rfl, sr11.wait, by omega, ?_⟩
        generalize u12 : upd H11 wl _ = H12
        have ea : wt2.map V.str ++ [V.str e.1] = (wt2 ++ [e.1]).map V.str := by simp
        rw [ea] at u12
        have sr12 := sr11.wait' h0w u12 (fun f hf => by
          rcases List.mem_append.mp hf with h' | h'
          · exact sr11.sub f h'
          · rw [List.mem_singleton.mp h', List.map_append]
            simp)
        have T12 : SameT H11 H12 := SameT.put u12 sr11.wait rfl
        refine ⟨li, _, ws2 ++ [(e.1, a.2 ++ [e.2])], wt2 ++ [e.1], rfl, sr12, by rw [← u12, upd_ne nla]; exact hl11, T78.trans (S810.t.trans (T11.trans T12)), fun a' ha' h1 h2 e' he' => ?_, fun e' he' => ?_, ?_, ?_⟩
        · rw [List.map_append]
          rcases List.mem_append.mp ha' with h' | h'
          · exact List.mem_append.mpr (.inl (cl8 a' h' (fun z => h1 (by simp [z])) h2 e' he'))
          · refine absurd ?_ h1
            rw [List.mem_singleton.mp h']
            simp
        · rw [List.map_append]
          rw [etk] at he'
          rcases List.mem_append.mp he' with h' | h'
          · exact List.mem_append.mpr (.inl (pt8 e' h'))
          · rw [List.mem_singleton.mp h']
            simp
        · rw [List.map_append]
          exact List.mem_append.mpr (.inl fc8)
        · rw [List.length_append, List.length_append, List.length_singleton, List.length_singleton]
          omega
    · rintro σ H8 ⟨hi, v6, ws2, wt2, rfl, sr8, hl8, T78, cl8, pt8, fc8, ms8⟩
      rw [List.length_append, List.length_singleton] at m81
      refine ⟨_, by rw [List.length_append, List.length_singleton]; omega, some (.str face), v6, ws2, wt2, rfl, sr8, fun a ha hn e he => ?_, rfl, by omega⟩
      by_cases c : a.1 = face
      · rw [List.take_of_length_le (by omega)] at pt8
        rw [c] at he
        exact pt8 e he
      · exact cl8 a ha hn c e he
abbrev s_Thinguu_inituu : Stmt := inClass (top 37) 0
theorem sc_Thinguu_inituu : FnScope ["self", "parts", "gaps", "joints", "row", "part", "gap", "found"] ["self", "parts", "gaps"] (defScope s_Thinguu_inituu) := ⟨rfl, rfl, rfl, by decide +kernel, rfl, by decide +kernel, by decide +kernel⟩
def sp_Thinguu_inituu (K : PySem.W.Frag) (Ad : Adr) : Sp := fun vs H Q E => ∃ (x dx a c : Addr) (xs zs : List V) (es : List (PD ⊕ D)) (fs : List (GD ⊕ D)) (H0 : Hp), vs = [.ref x, .ref a, .ref c] ∧ H x = some (.ins Ad.Thing dx []) ∧ H0 x = none ∧ Same H0 H ∧ SqL K H0 a xs ∧ All2 (PEV K H0) es xs ∧ SqL K H0 c zs ∧ All2 (GEV K H0) fs zs ∧ es.length ≤ 20 ∧ fs.length ≤ 20 ∧ (match partsW [] es with | .noPart => ∀ H', Same H0 H' → E (.ref Ad.NoPart) none H' | .twice => ∀ H', Same H0 H' → E (.ref Ad.Twice) none H' | .ring => ∀ H', Same H0 H' → E (.ref Ad.InRing) none H' | .ok ls => match gapsW ls [] fs with | .noGap => ∀ H', Same H0 H' → E (.ref Ad.NoGap) none H' | .twice => ∀ H', Same H0 H' → E (.ref Ad.Twice) none H' | .apart => ∀ H', Same H0 H' → E (.ref Ad.Apart) none H' | .ok gs => ∀ H', Same H0 H' → TK K Ad H' x ls gs → Q .non H')
theorem ok_Thinguu_inituu {f : Addr} {fd : FuncData} {dV : Value} (F : FunD K "__init__" "Thing.__init__" s_Thinguu_inituu dV f fd) (T : Txt K mg Ad) (k_Joints : KCal P w K mg base 1 "Joints" Ad.Joints ["self"] (sp_Jointsuu_inituu K Ad)) (c_part_of : Cal P w K mg base 6 "part_of" ["thing"] [] (sp_part_of K Ad)) (c_gap_of : Cal P w K mg base 7 "gap_of" ["thing"] [] (sp_gap_of K Ad)) (m_way_between : MCal P w K mg base 1 "way_between" (IsJoints Ad) ["self", "one", "other"] (sp_Joints_way_between K Ad)) (m_link : MCal P w K mg base 1 "link" (IsJoints Ad) ["self", "part"] (sp_Joints_link K Ad)) : FnOk P w K mg base (CX1 P w) 9 f fd ["self", "parts", "gaps"] (sp_Thinguu_inituu K Ad) := by
  refine F.okx sc_Thinguu_inituu (fun vs H Q E h => ?_) (fun cdv A outer s H vs Q E hr h => ?_)
  · obtain ⟨x, dx, a, c, xs, zs, es, fs, H0, rfl, _⟩ := h; rfl
  obtain ⟨x, dx, a, c, xs, zs, es, fs, H0, rfl, h⟩ := h
  have hu := hr.units
  refine ⟨_, (pss_cons (ps_set (i := 3) sc_Thinguu_inituu.nd rfl (Or.inl rfl) (k_Joints.ev0 hr (by decide) rfl pass1))
      (pss_cons (ps_fld (pv 0) pe_dnewK rfl)
      (pss_cons (ps_for PassesOwn.leaving rfl (pi_U (pv 1)) (pg_name (i := 4) sc_Thinguu_inituu.nd rfl (Or.inl rfl))
      (pss_cons (ps_set (i := 5) sc_Thinguu_inituu.nd rfl (Or.inl rfl) (c_part_of.ev hr (by decide) rfl pass1 (pa_cons (pv 4) pa_nil)))
      (pss_cons (ps_if (pt_cmp (pc_din (hu1 hu) (pe_fld (pv 5) rfl) (pe_fld (pv 0) rfl)) (by with_unfolding_all rfl))
      (pss_one (ps_raise PySem.F.excBase_ValueError T.x_Twice rfl T.m_Twice (pa_cons pe_str pa_nil)))
      pss_nil)
      (pss_cons (ps_if (pt_cmpR op_notNU (m_way_between.m hr (by decide) pass1 (pv 3) (pa_cons (pe_fld (pv 5) rfl) (pa_cons (pe_fld (pv 5) rfl) pa_nil))) pe_non (nomark _))
      (pss_one (ps_raise PySem.F.excBase_ValueError T.x_InRing rfl T.m_InRing (pa_cons pe_str pa_nil)))
      pss_nil)
      (pss_cons (ps_expr (m_link.m hr (by decide) pass1 (pv 3) (pa_cons (pv 5) pa_nil)))
      (pss_one (ps_dput (hu1 hu) (pe_fld (pv 0) rfl) (pe_fld (pv 5) rfl) (pv 5) rfl)))))))
      (pss_cons (ps_fld (pv 0) pe_dnewK rfl)
      (pss_cons (ps_fld (pv 0) pe_dnewK rfl)
      (pss_one (ps_for PassesOwn.leaving rfl (pi_U (pv 2)) (pg_name (i := 4) sc_Thinguu_inituu.nd rfl (Or.inl rfl))
      (pss_cons (ps_set (i := 6) sc_Thinguu_inituu.nd rfl (Or.inl rfl) (c_gap_of.ev hr (by decide) rfl pass1 (pa_cons (pv 4) pa_nil)))
      (pss_cons (ps_if (pt_cmp (pc_din (hu1 hu) (pe_fld (pv 6) rfl) (pe_fld (pv 0) rfl)) (by with_unfolding_all rfl))
      (pss_one (ps_raise PySem.F.excBase_ValueError T.x_Twice rfl T.m_Twice (pa_cons pe_str pa_nil)))
      pss_nil)
      (pss_cons (ps_set (i := 7) sc_Thinguu_inituu.nd rfl (Or.inl rfl) (m_way_between.m hr (by decide) pass1 (pv 3) (pa_cons (pe_fld (pv 6) rfl) (pa_cons (pe_fld (pv 6) rfl) pa_nil))))
      (pss_cons (ps_if (pt_cmpR op_isNU (pv 7) pe_non (nomark _))
      (pss_one (ps_raise PySem.F.excBase_ValueError T.x_Apart rfl T.m_Apart (pa_cons pe_str pa_nil)))
      pss_nil)
      (pss_cons (ps_dput (hu1 hu) (pe_fld (pv 0) rfl) (pe_fld (pv 6) rfl) (pv 6) rfl)
      (pss_one (ps_dput (hu1 hu) (pe_fld (pv 0) rfl) (pe_fld (pv 6) rfl) (pv 7) rfl)))))))))))))), ?_⟩
  obtain ⟨hx, hx0, S0, hS, hE, hC, hG, hl, hg, k⟩ := h
  have tc := T.c_Thing _ rfl
  have pc := T.c_Part _ rfl
  have gc := T.c_Gap _ rfl
  have sl : (1000 : Nat) ≤ sizeLine := by decide
  have le := hE.length
  have lg := hG.length
  show tSeq _ _ _ [some (.ref x), some (.ref a), some (.ref c), none, none, none, none, none] H
  try ac_rfl
  intro j dj hj hdj nj
  have Sm : Same H (upd (upd H dj (.own j)) j (.ins Ad.Joints dj [])) := fun b u q => by rw [upd_ne (ne_of_none q hj), upd_ne (ne_of_none q hdj)]; exact q
  generalize um : upd (upd H dj (.own j)) j (.ins Ad.Joints dj []) = Hm at Sm ⊢
  have em : Hm j = some (.ins Ad.Joints dj []) := by rw [← um, upd_same]
  refine ⟨j, dj, rfl, em, fun d H1 hd1 ndj e1j e1d fr1 => ⟨rfl, ?_⟩⟩
  have fresh : ∀ {H : Hp} {b : Addr}, Same H0 H → H b = none → H0 b = none := fun {H b} S h => by
    cases e : H0 b with
    | none => rfl
    | some o => rw [S _ _ e] at h; cases h
  have sdI : ∀ {H H' : Hp} {d : Addr} {kv : List (Key × V)}, (∀ b u, b ≠ d → H b = some u → H' b = some u) → H d = some (.dK kv) → SameI H H' := fun {H H' d kv} S hd b u t h => S b u (fun z => by rw [z, hd] at h; cases h; simp [isTI, isTF] at t) h
  have sdL : ∀ {H H' : Hp} {d b : Addr} {kv : List (Key × V)} {ys : List V}, (∀ b u, b ≠ d → H b = some u → H' b = some u) → H d = some (.dK kv) → H b = some (.lst ys) → H' b = some (.lst ys) := fun {H H' d b kv ys} S hd h => S _ _ (fun z => by rw [z, hd] at h; cases h) h
  have sdJ : ∀ {H H' : Hp} {e : Addr} {kv : List (Key × V)} {ls : List PD}, (∀ b u, b ≠ e → H b = some u → H' b = some u) → H e = some (.dK kv) → e ≠ d → JK Ad H0 H j d ls → JK Ad H0 H' j d ls := fun {H H' e kv ls} S he ne ⟨⟨dj, h1⟩, h2, kvs, h3, h4, h5⟩ => ⟨⟨dj, S _ _ (fun z => by rw [z, he] at h1; cases h1) h1⟩, h2, kvs, S _ _ (Ne.symm ne) h3, h4, h5.sx S he⟩
  have j0 := fresh S0 hj
  have S01 : Same H0 H1 := fun b u h => fr1 b u (ne_of_none h j0) (Sm _ _ (S0 _ _ h))
  have nxj : x ≠ j := ne_of_none hx hj
  have hx1 : H1 x = some (.ins Ad.Thing dx []) := fr1 x _ nxj (Sm _ _ hx)
  have d0 : H0 d = none := fresh (S0.trans Sm) hd1
  intro d1 h_d1
  generalize q_d1 : upd H1 d1 _ = H2
  have S2 := newS h_d1 q_d1
  have e2 := newE q_d1
  try ac_rfl
  refine ⟨x, _, dx, _, rfl, S2 _ _ hx1, tc.cls, tc.n1, by simp, ?_⟩
  generalize u3 : upd H2 x _ = H3
  have e3 : H3 x = some (.ins Ad.Thing dx [("parts_by_name", .ref d1)]) := by rw [← u3]; exact upd_same.trans rfl
  have fr3 : ∀ b u, b ≠ x → H2 b = some u → H3 b = some u := fun b u hb h => by rw [← u3, upd_ne hb]; exact h
  have S03 : Same H0 H3 := fun b u h => fr3 _ _ (ne_of_none h hx0) (S2 _ _ (S01 _ _ h))
  have ndx : d ≠ x := fun z => by rw [z, hx1] at e1d; cases e1d
  have nd1x : d1 ≠ x := fun z => by rw [z, hx1] at h_d1; cases h_d1
  have nd1d : d1 ≠ d := fun z => by rw [z, e1d] at h_d1; cases h_d1
  have e3d1 : H3 d1 = some (.dK []) := fr3 _ _ nd1x e2
  have d10 := fresh S01 h_d1
  have jk3 : JK Ad H0 H3 j d [] := ⟨⟨dj, fr3 _ _ (Ne.symm nxj) (S2 _ _ e1j)⟩, d0, [], fr3 _ _ ndx (S2 _ _ e1d), by simp, JD.nil⟩
  refine ⟨a, rfl, ForA.byL (xs := xs) (hS.same S03) (fun i σ H' => i ≤ xs.length ∧ ∃ (v4 v5 : Option V) (k1 : List (Key × V)) (ls : List PD), σ = [some (.ref x), some (.ref a), some (.ref c), some (.ref j), v4, v5, none, none] ∧ Same H0 H' ∧ H' x = some (.ins Ad.Thing dx [("parts_by_name", .ref d1)]) ∧ JK Ad H0 H' j d ls ∧ H' d1 = some (.dK k1) ∧ BG (·.nm) (POV K Ad H') ls k1 ∧ ls.length = i ∧ partsW ls (es.drop i) = partsW [] es) ⟨Nat.zero_le _, none, none, [], [], rfl, S03, e3, jk3, e3d1, ⟨rfl, rfl⟩, rfl, rfl⟩ (fun i σ H' z => by obtain ⟨_, _, _, _, _, _, z, _⟩ := z; exact hS.same z) ?_ ?_⟩
  · rintro i y σ H4 hy ⟨hi, v4, v5, k1, ls, rfl, S4, hx4, jk4, hd4, bg4, hli, hw⟩
    have li : i < xs.length := (List.getElem?_eq_some_iff.mp hy).1
    obtain ⟨e, he, ev0⟩ := hE.at_ hy
    have lie : i < es.length := by omega
    have edr : es.drop i = e :: es.drop (i + 1) := by
      rw [List.drop_eq_getElem_cons lie]
      rw [List.getElem?_eq_getElem lie] at he
      rw [Option.some.inj he]
    rw [edr] at hw
    have lk := bg4.length
    try contradiction
    match e, ev0.same S4, hw with
    | .inr cc, ev, hw =>
      rw [partsW_bad] at hw
      rw [← hw] at k
      exact ⟨y, .inr cc, rfl, ev, fun H5 S5 => k H5 (S4.trans S5)⟩
    | .inl p, ev, hw =>
      refine ⟨y, .inl p, rfl, ev, fun v H5 S5 pv => ?_⟩
      obtain ⟨q, dq, vz, vm, rfl, hq5, hz, hm⟩ := id pv
      have ok := ev.2
      have hx5 := S5 _ _ hx4
      have hd5 := S5 _ _ hd4
      have jk5 := jk4.same S5
      have bg5 := bg4.mono (P' := POV K Ad H5) fun _ _ z => z.si (Same.i S5)
      obtain ⟨⟨dj5, hj5⟩, _⟩ := id jk5
      try contradiction
      refine ⟨q, _, dq, _, .str p.nm, rfl, hq5, pc.cls, pc.n1, rfl, ?_⟩
      refine ⟨x, _, dx, _, .ref d1, rfl, hx5, tc.cls, tc.n1, rfl, ?_⟩
      refine ⟨d1, _, rfl, DGet.k (k := Sum.inr p.nm) hd5, ?_⟩
      rw [bg5.val]
      by_cases cn : p.nm ∈ ls.map (·.nm)
      · rw [partsW_two cn] at hw
        rw [← hw] at k
        rw [decide_eq_true cn]
        try contradiction
        exact ⟨by show 1 ≤ sizeLine; omega, k H5 (S4.trans S5)⟩
      · rw [decide_eq_false cn]
        try contradiction
        refine ⟨j, _, dj5, _, rfl, hj5, rfl, rfl, ?_⟩
        try contradiction
        refine ⟨q, _, dq, _, .str p.st, rfl, hq5, pc.cls, pc.n2, rfl, ?_⟩
        refine ⟨q, _, dq, _, .str p.en, rfl, hq5, pc.cls, pc.n3, rfl, ?_⟩
        refine ⟨j, d, p.st, p.en, ls, H0, rfl, jk5, by omega, fun hc H6 S6 => ?_, fun w l yy H6 S6 hl6 e6 hcv hwk => ?_⟩
        · rw [partsW_go cn hc] at hw
          try contradiction
          have jk6 := jk5.same S6
          have S06 := S4.trans (S5.trans S6)
          refine ⟨j, _, dj5, _, rfl, S6 _ _ hj5, rfl, rfl, ?_⟩
          try contradiction
          refine ⟨j, d, .ref q, ls, p, H0, rfl, jk6, S06, pv.si (Same.i S6), ok.ne, by omega, fun H7 S07 sj jk7 => ?_⟩
          have nd : ∀ {b : Addr} {C dd : Addr} {ff : List (Str × V)}, H6 b = some (.ins C dd ff) → H7 b = some (.ins C dd ff) := fun {b C dd ff} h => by
            obtain ⟨_, _, _, hdd, _⟩ := jk6
            exact sj _ _ (fun z => by rw [z, hdd] at h; cases h) (by intro xs z; cases z) h
          have SI : SameI H6 H7 := fun b u t h => by
            obtain ⟨_, _, _, hdd, _⟩ := jk6
            exact sj b u (fun z => by rw [z, hdd] at h; cases h; simp [isTI, isTF] at t) (fun xs z => by rw [z] at t; simp [isTI, isTF] at t) h
          have hd7 : H7 d1 = some (.dK k1) := sj _ _ nd1d (by intro xs z; cases z) (S6 _ _ hd5)
          have bg7 := bg5.mono (P' := POV K Ad H7) fun _ _ z => (z.si (Same.i S6)).si SI
          have pv7 := (pv.si (Same.i S6)).si SI
          try contradiction
          refine ⟨x, _, dx, _, .ref d1, rfl, nd (S6 _ _ hx5), tc.cls, tc.n1, rfl, ?_⟩
          refine ⟨q, _, dq, _, .str p.nm, rfl, nd (S6 _ _ hq5), pc.cls, pc.n1, rfl, ?_⟩
          refine ⟨d1, _, rfl, DPut.k (k := Sum.inr p.nm) hd7 (by omega), ?_⟩
          generalize u8 : upd H7 d1 _ = H8
          have e8 := putE u8
          have sd8 : ∀ b u, b ≠ d1 → H7 b = some u → H8 b = some u := fun b u hb h => by rw [← u8, upd_ne hb]; exact h
          have SI8 := sdI sd8 hd7
          refine ⟨li, _, _, _, ls ++ [p], rfl, fun b u h => sd8 _ _ (ne_of_none h d10) (S07 _ _ h), sd8 _ _ (Ne.symm nd1x) (nd (S6 _ _ hx5)), sdJ sd8 hd7 nd1d jk7, e8, ?_, by simp [hli], hw⟩
          exact (bg7.new (a := p) cn pv7).mono fun _ _ z => z.si SI8
        · by_cases hc : Conn ls p.st p.en
          · rw [partsW_ring cn hc] at hw
            rw [← hw] at k
            try contradiction
            exact ⟨by show 1 ≤ sizeLine; omega, k H6 (S4.trans (S5.trans S6))⟩
          · exact absurd ⟨w, hwk⟩ hc
  · rintro σ H4 ⟨hi, v4, v5, k1, ls, rfl, S4, hx4, jk4, hd4, bg4, hli, hw⟩
    rw [List.drop_eq_nil_of_le (by omega), partsW] at hw
    rw [← hw] at k
    dsimp only at k
    try ac_rfl
    obtain ⟨⟨dj4, hj4⟩, _, kd4, hdd4, hkd4, hJ4⟩ := id jk4
    intro d2 h_d2
    generalize q_d2 : upd H4 d2 _ = H5
    have S5 := newS h_d2 q_d2
    have e5 := newE q_d2
    refine ⟨x, _, dx, _, rfl, S5 _ _ hx4, tc.cls, tc.n2, by simp, ?_⟩
    generalize u6 : upd H5 x _ = H6
    have e6 : H6 x = some (.ins Ad.Thing dx [("parts_by_name", .ref d1), ("gaps_by_name", .ref d2)]) := by rw [← u6]; exact upd_same.trans rfl
    have fr6 : ∀ b u, b ≠ x → H5 b = some u → H6 b = some u := fun b u hb h => by rw [← u6, upd_ne hb]; exact h
    try ac_rfl
    intro d3 h_d3
    generalize q_d3 : upd H6 d3 _ = H7
    have S7 := newS h_d3 q_d3
    have e7 := newE q_d3
    refine ⟨x, _, dx, _, rfl, S7 _ _ e6, tc.cls, tc.n3, by simp, ?_⟩
    generalize u8 : upd H7 x _ = H8
    have e8 : H8 x = some (.ins Ad.Thing dx [("parts_by_name", .ref d1), ("gaps_by_name", .ref d2), ("ways", .ref d3)]) := by rw [← u8]; exact upd_same.trans rfl
    have fr8 : ∀ b u, b ≠ x → H7 b = some u → H8 b = some u := fun b u hb h => by rw [← u8, upd_ne hb]; exact h
    have st8 : ∀ b u, b ≠ x → H4 b = some u → H8 b = some u := fun b u hb h => fr8 _ _ hb (S7 _ _ (fr6 _ _ hb (S5 _ _ h)))
    have nd2x : d2 ≠ x := fun z => by rw [z, hx4] at h_d2; cases h_d2
    have nd2d1 : d2 ≠ d1 := fun z => by rw [z, hd4] at h_d2; cases h_d2
    have nd2d : d2 ≠ d := fun z => by rw [z, hdd4] at h_d2; cases h_d2
    have nd3x : d3 ≠ x := fun z => by rw [z, e6] at h_d3; cases h_d3
    have e6d1 := fr6 _ _ nd1x (S5 _ _ hd4)
    have e6d := fr6 _ _ ndx (S5 _ _ hdd4)
    have e6d2 := fr6 _ _ nd2x e5
    have nd3d1 : d3 ≠ d1 := fun z => by rw [z, e6d1] at h_d3; cases h_d3
    have nd3d : d3 ≠ d := fun z => by rw [z, e6d] at h_d3; cases h_d3
    have nd3d2 : d3 ≠ d2 := fun z => by rw [z, e6d2] at h_d3; cases h_d3
    have d20 := fresh S4 h_d2
    have S06 : Same H0 H6 := fun b u h => fr6 _ _ (ne_of_none h hx0) (S5 _ _ (S4 _ _ h))
    have d30 := fresh S06 h_d3
    have S08 : Same H0 H8 := fun b u h => st8 _ _ (ne_of_none h hx0) (S4 _ _ h)
    have T48 : SameT H4 H8 := fun b u t h => st8 _ _ (fun z => by rw [z, hx4] at h; cases h; simp [isTF] at t) h
    have jk8 : JK Ad H0 H8 j d ls := ⟨⟨dj4, st8 _ _ (Ne.symm nxj) hj4⟩, d0, kd4, st8 _ _ ndx hdd4, hkd4, hJ4.sy st8 hx4 (by intro xs z; cases z) rfl⟩
    have bg8 : BG (·.nm) (POV K Ad H8) ls k1 := bg4.mono fun p v ⟨q, dq, vz, vm, h1, h2, h3, h4⟩ => ⟨q, dq, vz, vm, h1, st8 _ _ (ne_of h2 hx4 (by
      intro z
      injection z with _ _ z3
      have := congrArg List.length z3
      simp [partF] at this)) h2, h3.sameT T48, h4.sameT T48⟩
    refine ⟨c, rfl, ForA.byL (xs := zs) (hC.same S08) (fun i σ H' => i ≤ zs.length ∧ ∃ (v4 v6 v7 : Option V) (k2 k3 : List (Key × V)) (gs : List GD), σ = [some (.ref x), some (.ref a), some (.ref c), some (.ref j), v4, v5, v6, v7] ∧ Same H0 H' ∧ H' x = some (.ins Ad.Thing dx [("parts_by_name", .ref d1), ("gaps_by_name", .ref d2), ("ways", .ref d3)]) ∧ JK Ad H0 H' j d ls ∧ H' d1 = some (.dK k1) ∧ BG (·.nm) (POV K Ad H') ls k1 ∧ H' d2 = some (.dK k2) ∧ BG (·.nm) (GOV K Ad H') gs k2 ∧ H' d3 = some (.dK k3) ∧ BG (·.nm) (WOV H' ls) gs k3 ∧ gs.length = i ∧ gapsW ls gs (fs.drop i) = gapsW ls [] fs) ⟨Nat.zero_le _, v4, none, none, [], [], [], rfl, S08, e8, jk8, st8 _ _ nd1x hd4, bg8, fr8 _ _ nd2x (S7 _ _ e6d2), ⟨rfl, rfl⟩, fr8 _ _ nd3x e7, ⟨rfl, rfl⟩, rfl, rfl⟩ (fun i σ H' z => by obtain ⟨_, _, _, _, _, _, _, _, z, _⟩ := z; exact hC.same z) ?_ ?_⟩
    · rintro i y σ H9 hy ⟨hi, v4, v6, v7, k2, k3, gs, rfl, S9, hx9, jk9, hd19, bg9, hd29, bh9, hd39, bw9, hgi, hw2⟩
      have li : i < zs.length := (List.getElem?_eq_some_iff.mp hy).1
      obtain ⟨e, he, ev0⟩ := hG.at_ hy
      have lie : i < fs.length := by omega
      have edr : fs.drop i = e :: fs.drop (i + 1) := by
        rw [List.drop_eq_getElem_cons lie]
        rw [List.getElem?_eq_getElem lie] at he
        rw [Option.some.inj he]
      rw [edr] at hw2
      have lk := bh9.length
      have lk3 := bw9.length
      try contradiction
      match e, ev0.same S9, hw2 with
      | .inr cc, ev, hw2 =>
        rw [gapsW_bad] at hw2
        rw [← hw2] at k
        exact ⟨y, .inr cc, rfl, ev, fun H10 S10 => k H10 (S9.trans S10)⟩
      | .inl g, ev, hw2 =>
        refine ⟨y, .inl g, rfl, ev, fun v H10 S10 gv => ?_⟩
        obtain ⟨q, dq, vl, vg, rfl, hq10, hz, hm⟩ := id gv
        have hx10 := S10 _ _ hx9
        have hd10 := S10 _ _ hd29
        have jk10 := jk9.same S10
        obtain ⟨⟨dj10, hj10⟩, _⟩ := id jk10
        try contradiction
        refine ⟨q, _, dq, _, .str g.nm, rfl, hq10, gc.cls, gc.n1, rfl, ?_⟩
        refine ⟨x, _, dx, _, .ref d2, rfl, hx10, tc.cls, tc.n2, rfl, ?_⟩
        refine ⟨d2, _, rfl, DGet.k (k := Sum.inr g.nm) hd10, ?_⟩
        rw [bh9.val]
        by_cases cn : g.nm ∈ gs.map (·.nm)
        · rw [gapsW_two cn] at hw2
          rw [← hw2] at k
          rw [decide_eq_true cn]
          try contradiction
          exact ⟨by show 1 ≤ sizeLine; omega, k H10 (S9.trans S10)⟩
        · rw [decide_eq_false cn]
          try contradiction
          refine ⟨j, _, dj10, _, rfl, hj10, rfl, rfl, ?_⟩
          try contradiction
          refine ⟨q, _, dq, _, .str g.st, rfl, hq10, gc.cls, gc.n2, rfl, ?_⟩
          refine ⟨q, _, dq, _, .str g.en, rfl, hq10, gc.cls, gc.n3, rfl, ?_⟩
          refine ⟨j, d, g.st, g.en, ls, H0, rfl, jk10, by omega, fun hc H11 S11 => ?_, fun w l yy H11 S11 hl11 e11 hcv hwk => ?_⟩
          · rw [gapsW_apart cn hc] at hw2
            rw [← hw2] at k
            try contradiction
            exact ⟨by show 1 ≤ sizeLine; omega, k H11 (S9.trans (S10.trans S11))⟩
          · rw [gapsW_go cn ⟨w, hwk⟩] at hw2
            try contradiction
            have S911 := S10.trans S11
            have hd11 := S911 _ _ hd29
            refine ⟨x, _, dx, _, .ref d2, rfl, S911 _ _ hx9, tc.cls, tc.n2, rfl, ?_⟩
            refine ⟨q, _, dq, _, .str g.nm, rfl, S11 _ _ hq10, gc.cls, gc.n1, rfl, ?_⟩
            refine ⟨d2, _, rfl, DPut.k (k := Sum.inr g.nm) hd11 (by omega), ?_⟩
            generalize u12 : upd H11 d2 _ = H12
            have e12 := putE u12
            have sd12 : ∀ b u, b ≠ d2 → H11 b = some u → H12 b = some u := fun b u hb h => by rw [← u12, upd_ne hb]; exact h
            have SI12 := sdI sd12 hd11
            have hx12 := sd12 _ _ (Ne.symm nd2x) (S911 _ _ hx9)
            have hq12 := sd12 _ _ (fun z => by have := S11 _ _ hq10; rw [z, hd11] at this; cases this) (S11 _ _ hq10)
            have hd312 := sd12 _ _ nd3d2 (S911 _ _ hd39)
            try contradiction
            refine ⟨x, _, dx, _, .ref d3, rfl, hx12, tc.cls, tc.n3, rfl, ?_⟩
            refine ⟨q, _, dq, _, .str g.nm, rfl, hq12, gc.cls, gc.n1, rfl, ?_⟩
            refine ⟨d3, _, rfl, DPut.k (k := Sum.inr g.nm) hd312 (by omega), ?_⟩
            generalize u13 : upd H12 d3 _ = H13
            have e13 := putE u13
            have sd13 : ∀ b u, b ≠ d3 → H12 b = some u → H13 b = some u := fun b u hb h => by rw [← u13, upd_ne hb]; exact h
            have SI13 := sdI sd13 hd312
            have SI : SameI H11 H13 := fun b u t h => SI13 b u t (SI12 b u t h)
            have wv : ∀ {g : GD} {v : V}, WOV H11 ls g v → WOV H13 ls g v := fun {g v} ⟨l, xs, w, h1, h2, h3, h4⟩ => ⟨l, xs, w, h1, sdL sd13 hd312 (sdL sd12 hd11 h2), h3.mono fun _ _ z => z.sameT SI.t, h4⟩
            refine ⟨li, _, _, _, _, _, gs ++ [g], rfl, fun b u h => sd13 _ _ (ne_of_none h d30) (sd12 _ _ (ne_of_none h d20) (S911 _ _ (S9 _ _ h))), sd13 _ _ (Ne.symm nd3x) hx12, sdJ sd13 hd312 nd3d (sdJ sd12 hd11 nd2d (jk10.same S11)), sd13 _ _ (Ne.symm nd3d1) (sd12 _ _ (Ne.symm nd2d1) (S911 _ _ hd19)), bg9.mono fun _ _ z => (z.si (Same.i S911)).si SI, sd13 _ _ (Ne.symm nd3d2) e12, ?_, e13, ?_, by simp [hgi], hw2⟩
            · exact ((bh9.mono (P' := GOV K Ad H11) fun _ _ z => z.si (Same.i S911)).new (a := g) cn (gv.si (Same.i S11))).mono fun _ _ z => z.si SI
            · exact ((bw9.mono (P' := WOV H11 ls) fun _ _ z => z.same S911).new (a := g) cn ⟨l, yy, w, rfl, e11, hcv, hwk⟩).mono fun _ _ z => wv z
    · rintro σ H9 ⟨hi, v4, v6, v7, k2, k3, gs, rfl, S9, hx9, jk9, hd19, bg9, hd29, bh9, hd39, bw9, hgi, hw2⟩
      rw [List.drop_eq_nil_of_le (by omega), gapsW] at hw2
      try infer_instance
      have k' := k
      simp only [← hw2] at k'
      exact k' H9 S9 ⟨dx, d1, d2, d3, k1, k2, k3, hx9, hd19, bg9, hd29, bh9, hd39, bw9⟩
abbrev s_Thing_parts : Stmt := inClass (top 37) 1
theorem sc_Thing_parts : FnScope ["self"] ["self"] (defScope s_Thing_parts) := ⟨rfl, rfl, rfl, by decide +kernel, rfl, by decide +kernel, by decide +kernel⟩
def sp_Thing_parts (K : PySem.W.Frag) (Ad : Adr) : Sp := fun vs H Q E => ∃ (x : Addr) (ls : List PD) (gs : List GD), vs = [.ref x] ∧ TK K Ad H x ls gs ∧ ls.length ≤ 20 ∧ ∀ l ys H', Same H H' → H l = none → H' l = some (.lst ys) → All2 (PDV K H') ls ys → Q (.ref l) H'
theorem ok_Thing_parts {f : Addr} {fd : FuncData} {dV : Value} (F : FunD K "parts" "Thing.parts" s_Thing_parts dV f fd) (T : Txt K mg Ad) (m_plain : MCal P w K mg base 1 "plain" (IsPart Ad) ["self"] (sp_Part_plain K Ad)) : FnOk P w K mg base (CX1 P w) 2 f fd ["self"] (sp_Thing_parts K Ad) := by
  refine F.okn sc_Thing_parts (fun vs H Q E h => ?_) (fun cdv A outer s H vs Q E hr h => ?_)
  · obtain ⟨x, ls, gs, rfl, _⟩ := h; rfl
  obtain ⟨x, ls, gs, rfl, h⟩ := h
  have hu := hr.units
  refine ⟨_, (pss_one (ps_ret (pe_thaw (pe_comp (own := ["part"]) (cs := []) (cl := []) rfl (pi_vals (pe_fld (pv 0) rfl)) (fun _ _ _ _ => (pg_name (i := 0) (show [("part" : Str)].Nodup by decide) rfl (Or.inl rfl))) (fun _ _ _ _ => (m_plain.m0 hr (by decide) passF (pv 0))) rfl (by decide) rfl (by decide) hcl0 (hhas0 (by decide)) hcs0)))), ?_⟩
  obtain ⟨⟨dx, d1, d2, d3, k1, k2, k3, hx, hd1, b1, _⟩, hl, k⟩ := h
  have tc := T.c_Thing _ rfl
  have sl : (1000 : Nat) ≤ sizeLine := by decide
  have lk := b1.length
  show tRet _ _ [some (.ref x)] H
  try contradiction
  refine ⟨d1, k1, hd1, x, _, dx, _, .ref d1, rfl, hx, tc.cls, tc.n1, rfl, d1, k1, rfl, hd1, fun od => ?_⟩
  generalize uf : upd H d1 (.frz od (.dK k1)) = H1
  have f1 : H1 d1 = some (.frz od (.dK k1)) := by rw [← uf, upd_same]
  have o1 : ∀ b u, b ≠ d1 → H b = some u → H1 b = some u := fun b u hb h => by rw [← uf, upd_ne hb]; exact h
  refine CompJ.vals (fun i ys H' => H' d1 = some (.frz od (.dK k1)) ∧ (∀ b u, b ≠ d1 → H b = some u → H' b = some u) ∧ (∀ b u, b ≠ d1 → H' b = some u → H b = none → True) ∧ All2 (PDV K H') (ls.take i) ys) ⟨f1, o1, fun _ _ _ _ _ => trivial, rfl⟩ (fun i ys H' hi z => ⟨z.1, by have := z.2.2.2.length; rw [List.length_take] at this; omega⟩) ?_ ?_
  · rintro i v ys H2 hv ⟨f2, o2, _, hA⟩
    simp only [List.length_singleton, List.replicate, capsAt, List.map_cons, List.map_nil, Option.join_some, y7dy, y4cy, y4dy, y4ey, y6cy, y2ay, y67y, y7ay, y7by, y44y, y2dy, y73y, y89y, y2fy, y39y, y6dy, y2ey, y82y, y23y, y28y, y74y, y6fy, y29y, y75y, y71y, y56y, y8by, y26y, y81y, y6by, y64y, y49y, y63y, y78y, y32y, y47y, y69y, y48y, y6ay, y46y, y68y, y84y, y5fy, y5by, y86y, y88y, y85y, y87y, y25y, y62y, y24y, true_and, if_true, if_false, Bool.not_true, Bool.not_false, Bool.false_eq_true, yby, ydy, yay, ycy, yey, y15y, y17y, y14y, y16y, y18y, y6y, y8y, y5y, y7y, y9y, y1y, y3y, y0y, y2y, y4y, y10y, y12y, yfy, y11y, y13y, y1ay, y1cy, y19y, y1by, y1dy, y1fy, y21y, y1ey, y20y, y22y, y7fy, y77y, y6ey, y30y, y31y, y50y, y5dy, y5ey, y4by, y80y, y83y, y8cy, y79y, y27y, V.int.injEq, V.str.injEq, List.set_cons_zero, List.set_cons_succ, List.getElem?_cons_zero, List.getElem?_cons_succ, Option.some.injEq, exists_eq_left, exists_eq_left', V.bl.injEq, Int.reduceToNat, Int.reducePow, List.append_nil, List.nil_append, List.cons_append, y52y, y54y, y2by, y2cy, y65y, y5ay, y70y, y60y, y61y, y3ay, y3by, y3cy, y43y, y45y, y3ey, y76y, y40y, y3fy, y4fy, y33y, y35y, y37y, y38y, y34y, y36y, y7cy, y58y, y8ay, y3dy, y41y, reduceCtorEq, decide_false, decide_true]
    obtain ⟨p, hp, q, dq, vz, vm, rfl, hq, hz, hm⟩ := b1.2.at_ hv
    have nd : ∀ {b : Addr} {u : HO}, H b = some u → isTI u = true → H2 b = some u := fun {b u} h t => o2 _ _ (fun z => by rw [z, hd1] at h; cases h; simp [isTI, isTF] at t) h
    have T2 : SameT H H2 := fun b u t h => nd h (by cases u <;> first | exact t | (simp [isTF] at t))
    refine ⟨q, _, dq, _, rfl, nd hq rfl, rfl, rfl, q, dq, _, _, _, vz, vm, _, rfl, nd hq rfl, fun r H3 S3 e3 => ?_⟩
    refine ⟨S3 _ _ f2, fun b u hb h => S3 _ _ (o2 _ _ hb h), fun _ _ _ _ _ => trivial, ?_⟩
    rw [List.take_succ, hp]
    exact (hA.mono (P' := PDV K H3) fun _ _ z => z.sameT S3.t).append (.one ⟨r, vz, vm, rfl, SqT.of e3, (hz.sameT T2).sameT S3.t, (hm.sameT T2).sameT S3.t⟩)
  · rintro ys H2 ⟨f2, o2, _, hA⟩
    rw [List.take_of_length_le (by omega)] at hA
    intro r h_r
    generalize q_r : upd H2 r _ = H3
    have S3 := newS h_r q_r
    have e3 := newE q_r
    refine ⟨od, k1, S3 _ _ f2, ?_⟩
    generalize u4 : upd H3 d1 (.dK k1) = H4
    have nr : r ≠ d1 := fun z => by rw [z, f2] at h_r; cases h_r
    have e4 : H4 r = some (.lst ys) := by rw [← u4, upd_ne nr]; exact e3
    have S04 : Same H H4 := fun b u h => by
      by_cases c : b = d1
      · subst c
        rw [hd1] at h
        cases h
        rw [← u4, upd_same]
      · rw [← u4, upd_ne c]
        exact S3 _ _ (o2 _ _ c h)
    have f3 := S3 _ _ f2
    have sq : ∀ {b : Addr} {xs : List V}, SqT K H3 b xs → SqT K H4 b xs := fun {b xs} h => by
      rcases h with (h | ⟨o, h⟩) | h
      · exact .inl (.inl (by rw [← u4, upd_ne (fun z => by rw [z, f3] at h; cases h)]; exact h))
      · exact .inl (.inr ⟨o, by rw [← u4, upd_ne (fun z => by rw [z, f3] at h; cases h)]; exact h⟩)
      · exact .inr h
    have hn : H r = none := by
      cases e : H r with
      | none => rfl
      | some o => rw [o2 _ _ nr e] at h_r; cases h_r
    exact k r ys H4 S04 hn e4 ((hA.mono (P' := PDV K H3) fun _ _ z => z.sameT S3.t).mono fun p v ⟨b, vz, vm, h1, h2, ⟨pz, h3, h4⟩, ⟨pm, h5, h6⟩⟩ => ⟨b, vz, vm, h1, sq h2, ⟨pz, h3, sq h4⟩, ⟨pm, h5, sq h6⟩⟩)
abbrev s_in_order : Stmt := top 26
theorem sc_in_order : FnScope ["numbers", "told", "number", "place"] ["numbers"] (defScope s_in_order) := ⟨rfl, rfl, rfl, by decide +kernel, rfl, by decide +kernel, by decide +kernel⟩
def sp_in_order (K : PySem.W.Frag) : Sp := fun vs H Q E => ∃ (a : Addr) (xs : List V) (ns : List Fr2), vs = [.ref a] ∧ SqL K H a xs ∧ All2 (FrL K H) ns xs ∧ (∀ n ∈ ns, FW 3000 3000 n) ∧ ns.length ≤ 20 ∧ ∀ l ys H', Same H H' → H l = none → H' l = some (.lst ys) → All2 (FrL K H') (ordO ns) ys → Q (.ref l) H'
theorem ok_in_order {f : Addr} {fd : FuncData} {dV : Value} (F : FunD K "in_order" "in_order" s_in_order dV f fd) (T : Txt K mg Ad) (c_under : Cal P w K mg base 1 "under" ["one", "other"] [] (sp_under K)) : FnOk P w K mg base (CX1 P w) 2 f fd ["numbers"] (sp_in_order K) := by
  refine F.okn sc_in_order (fun vs H Q E h => ?_) (fun cdv A outer s H vs Q E hr h => ?_)
  · obtain ⟨a, xs, ns, rfl, _⟩ := h; rfl
  obtain ⟨a, xs, ns, rfl, h⟩ := h
  have hu := hr.units
  refine ⟨_, (pss_cons (ps_set (i := 1) sc_in_order.nd rfl (Or.inl rfl) (pe_lst pa_nil))
      (pss_cons (ps_for PassesOwn.never rfl (pi_U (pv 0)) (pg_name (i := 2) sc_in_order.nd rfl (Or.inl rfl))
      (pss_cons (ps_set (i := 3) sc_in_order.nd rfl (Or.inl rfl) (pe_callB call_lenU rfl T.n_len bt_len (pa_cons (pv 1) pa_nil)))
      (pss_cons (ps_while PassesOwn.never (PW.pt (pw_and (pt_cmpR op_gtU (pv 3) pe_int (nomark _)) (pw_and1 (pt_val (c_under.ev hr (by decide) rfl passF (pa_cons (pv 2) (pa_cons (pe_ix ix_U (pv 1) (pe_op op_sub (pv 3) pe_int) (fun _ _ => rfl)) pa_nil)))))))
      (pss_one (ps_set (i := 3) sc_in_order.nd rfl (Or.inl rfl) (pe_op op_sub (pv 3) pe_int))))
      (pss_one (ps_expr (pe_bm PySem.F.plainAttrs_list PySem.F.slot_list_insert PySem.F.type_list_insert mt_insert (pv 1) (pa_cons (pv 3) (pa_cons (pv 2) pa_nil))))))))
      (pss_one (ps_ret (pv 1))))), ?_⟩
  obtain ⟨hS, hA, hz, hl, k⟩ := h
  have sl : (1000 : Nat) ≤ sizeLine := by decide
  have la := hA.length
  show tSeq _ _ _ [some (.ref a), none, none, none] H
  try infer_instance
  refine ⟨len0, ?_⟩
  intro tl h_tl
  generalize q_tl : upd H tl _ = H1
  have S1 := newS h_tl q_tl
  have e1 := newE q_tl
  refine ⟨a, rfl, ForA.byL (xs := xs) (hS.same S1) (fun i σ H' => i ≤ xs.length ∧ ∃ (v2 v3 : Option V) (ys : List V), σ = [some (.ref a), some (.ref tl), v2, v3] ∧ Same H H' ∧ H' tl = some (.lst ys) ∧ All2 (FrL K H') (ordO (ns.take i)) ys) ⟨Nat.zero_le _, none, none, [], rfl, S1, e1, rfl⟩ (fun i σ H' z => by obtain ⟨_, _, _, _, _, z, _⟩ := z; exact hS.same z) ?_ ?_⟩
  · rintro i x σ H2 hx ⟨hi, v2, v3, ys, rfl, S2, e2, hY⟩
    have li : i < xs.length := (List.getElem?_eq_some_iff.mp hx).1
    obtain ⟨n, hn, fn⟩ := hA.at_ hx
    have ly := hY.length
    have lo : (ordO (ns.take i)).length = i := by rw [ordO_len, List.length_take]; omega
    have zn := hz n (List.mem_of_getElem? hn)
    have fn2 : FrV K H2 x n.1 n.2 := fn.same S2
    try infer_instance
    refine ⟨_, .inl (SqL.of e2), ?_⟩
    try try infer_instance
    generalize hL : ordO (ns.take i) = L at *
    have hmem : ∀ y ∈ L, FW 3000 3000 y := fun y hy => hz y (List.mem_of_mem_take (ordO_mem (by rw [hL]; exact hy)))
    have snoc : ordO (ns.take (i + 1)) = insO L n := by
      rw [List.take_succ, hn, ← hL]
      exact ordO_snoc _ _
    have fin : ∀ (p : Nat), p ≤ L.length → plcIn L n L.length = p → tyV K "list" (.ref tl) H2 ∧ rInsert (.ref tl) [.int (p : Int), x] H2 fun _ H' => i + 1 ≤ xs.length ∧ ∃ (v2 v3 : Option V) (ys : List V), [some (.ref a), some (.ref tl), some x, some (.int (p : Int))] = [some (.ref a), some (.ref tl), v2, v3] ∧ Same H H' ∧ H' tl = some (.lst ys) ∧ All2 (FrL K H') (ordO (ns.take (i + 1))) ys := fun p hp hpl => by
      refine ⟨.inl ⟨rfl, _, SqL.of e2⟩, ?_⟩
      refine ⟨tl, ys, x, p, rfl, rfl, e2, by omega, by omega, ?_⟩
      generalize u3 : upd H2 tl _ = H3
      have e3 := putE u3
      have T23 : SameT H2 H3 := SameT.put u3 e2 rfl
      refine ⟨li, _, _, _, rfl, fun b u h => by rw [← u3, upd_ne (ne_of_none h h_tl)]; exact S2 _ _ h, e3, ?_⟩
      rw [snoc]
      unfold insO
      rw [hpl]
      have hY3 := hY.mono (P' := FrL K H3) fun _ _ z => FrV.sameT T23 z
      exact (hY3.take p).append ⟨x, _, rfl, FrV.sameT T23 fn2, hY3.drop p⟩
    refine ⟨fun m σ H' => m ≤ L.length ∧ σ = [some (.ref a), some (.ref tl), some x, some (.int (m : Int))] ∧ H' = H2 ∧ plcIn L n m = plcIn L n L.length, ⟨ys.length, by omega, rfl, rfl, by rw [ly]⟩, ?_⟩
    rintro m σ H' ⟨hm, rfl, rfl, hpl⟩
    try infer_instance
    match m, hm, hpl with
    | 0, hm, hpl =>
      rw [if_neg (by simp)]
      try try infer_instance
      exact fin 0 (Nat.zero_le _) hpl.symm
    | p + 1, hm, hpl =>
      rw [if_pos (by simp)]
      have hp : p < L.length := by omega
      obtain ⟨yv, hyv, fy⟩ := hY.get (List.getElem?_eq_getElem hp)
      have ei : ((p + 1 : Nat) : Int) - 1 = (p : Int) := by omega
      rw [ei]
      refine ixL (i := p) (SqL.of e2) hyv ?_
      have zy := hmem _ (List.getElem_mem hp)
      refine ⟨x, yv, n.1, n.2, L[p].1, L[p].2, rfl, fn2, fy, zn.s1.mono (by decide), zn.s2.mono (by decide), zy.s1.mono (by decide), zy.s2.mono (by decide), ?_⟩
      try try infer_instance
      have eg : L.getD p (0, 1) = L[p] := by rw [List.getD_eq_getElem?_getD, List.getElem?_eq_getElem hp]; rfl
      rw [show plcIn L n (p + 1) = if lessF n (L.getD p (0, 1)) then plcIn L n p else p + 1 by rw [plcIn], eg] at hpl
      by_cases c : lessF n L[p] = true
      · rw [if_pos c] at hpl
        rw [if_pos (show decide (n.1 * L[p].2 < L[p].1 * n.2) = true from c)]
        try try infer_instance
        exact ⟨_, fun _ _ q => q, p, Nat.lt_succ_self p, by omega, rfl, rfl, hpl⟩
      · rw [if_neg c] at hpl
        rw [if_neg (show ¬ decide (n.1 * L[p].2 < L[p].1 * n.2) = true from c)]
        try try infer_instance
        exact fin (p + 1) hm hpl.symm
  · rintro σ H2 ⟨hi, v2, v3, ys, rfl, S2, e2, hY⟩
    rw [List.take_of_length_le (by omega)] at hY
    try infer_instance
    exact k tl ys H2 S2 h_tl e2 hY
abbrev s_for_weights : Stmt := top 27
theorem sc_for_weights : FnScope ["thing", "slacks"] ["thing", "slacks"] (defScope s_for_weights) := ⟨rfl, rfl, rfl, by decide +kernel, rfl, by decide +kernel, by decide +kernel⟩
def sp_for_weights (K : PySem.W.Frag) (Ad : Adr) : Sp := fun vs H Q E => ∃ (x a : Addr) (ls : List PD) (gs : List GD) (xs : List V) (ss : List Fr2), vs = [.ref x, .ref a] ∧ TK K Ad H x ls gs ∧ (∀ p ∈ ls, POk p) ∧ ls.length ≤ 20 ∧ SqL K H a xs ∧ All2 (FrL K H) ss xs ∧ (∀ s ∈ ss, FOk 300 s) ∧ ss.length = ls.length ∧ ∀ l ys H', Same H H' → H l = none → H' l = some (.lst ys) → All2 (FrL K H') (lvls ss (ls.map (·.wt))) ys → Q (.ref l) H'
theorem ok_for_weights {f : Addr} {fd : FuncData} {dV : Value} (F : FunD K "for_weights" "for_weights" s_for_weights dV f fd) (T : Txt K mg Ad) (m_parts : MCal P w K mg base 2 "parts" (IsThing Ad) ["self"] (sp_Thing_parts K Ad)) (c_over : Cal P w K mg base 3 "over" ["one", "other"] [] (sp_over K Ad)) : FnOk P w K mg base (CX1 P w) 4 f fd ["thing", "slacks"] (sp_for_weights K Ad) := by
  refine F.okn sc_for_weights (fun vs H Q E h => ?_) (fun cdv A outer s H vs Q E hr h => ?_)
  · obtain ⟨x, a, ls, gs, xs, ss, rfl, _⟩ := h; rfl
  obtain ⟨x, a, ls, gs, xs, ss, rfl, h⟩ := h
  have hu := hr.units
  refine ⟨_, (pss_one (ps_ret (pe_comp (own := ["part", "slack"]) (cs := []) (cl := []) rfl (pi_zip rfl T.n_zip bt_zip (pa_cons (m_parts.m0 hr (by decide) passF (pv 0)) (pa_cons (pv 1) pa_nil))) (fun _ _ _ _ => (pg_tupK (K := K) (n := 2) rfl rfl (pgs_cons (pg_name (i := 0) (show [("part" : Str), ("slack" : Str)].Nodup by decide) rfl (Or.inl rfl) (hf := Or.inr rfl)) (pgs_cons (pg_name (i := 1) (show [("part" : Str), ("slack" : Str)].Nodup by decide) rfl (Or.inl rfl) (hf := Or.inr rfl)) pgs_nil)))) (fun _ _ _ _ => (c_over.ev hr (by decide) rfl passF (pa_cons (pv 1) (pa_cons (pe_tup (pa_cons (pe_ix (ix_UK (K := K) rfl) (pv 0) pe_int (fun _ _ => rfl)) (pa_cons pe_int pa_nil))) pa_nil)))) rfl (by decide) rfl (by decide) hcl0 (hhas0 (by decide)) hcs0))), ?_⟩
  obtain ⟨ht, hp, hl, hS, hA, hz, hsl, k⟩ := h
  obtain ⟨dx, d1, d2, d3, k1, k2, k3, hx, _⟩ := id ht
  have sl : (1000 : Nat) ≤ sizeLine := by decide
  have la := hA.length
  show tRet _ _ [some (.ref x), some (.ref a)] H
  try infer_instance
  refine ⟨x, _, dx, _, rfl, hx, rfl, rfl, x, ls, gs, rfl, ht, hl, fun l ys H1 S1 h_l e1 hP => ?_⟩
  try try infer_instance
  have ly := hP.length
  refine ⟨l, a, rfl, ⟨ys, SqL.of e1⟩, ⟨xs, hS.same S1⟩, CompJ.zip (xs := ys) (zs := xs) (fun i zs' H' => Same H1 H' ∧ All2 (FrL K H') (lvls (ss.take i) ((ls.take i).map (·.wt))) zs') ⟨Same.refl _, rfl⟩ (by omega) (fun i zs' H' hi z => ⟨SqL.of (z.1 _ _ e1), (hS.same S1).same z.1, by have := z.2.length; unfold lvls at this; rw [List.length_zipWith, List.length_take] at this; omega⟩) ?_ ?_⟩
  · rintro i v u zs' H2 p hv hu ⟨S2, hZ⟩ hn
    simp only [List.length_cons, List.length_nil, List.replicate, capsAt, List.map_cons, List.map_nil, Option.join_some, y7dy, y4cy, y4dy, y4ey, y6cy, y2ay, y67y, y7ay, y7by, y44y, y2dy, y73y, y89y, y2fy, y39y, y6dy, y2ey, y82y, y23y, y28y, y74y, y6fy, y29y, y75y, y71y, y56y, y8by, y26y, y81y, y6by, y64y, y49y, y63y, y78y, y32y, y47y, y69y, y48y, y6ay, y46y, y68y, y84y, y5fy, y5by, y86y, y88y, y85y, y87y, y25y, y62y, y24y, true_and, if_true, if_false, Bool.not_true, Bool.not_false, Bool.false_eq_true, yby, ydy, yay, ycy, yey, y15y, y17y, y14y, y16y, y18y, y6y, y8y, y5y, y7y, y9y, y1y, y3y, y0y, y2y, y4y, y10y, y12y, yfy, y11y, y13y, y1ay, y1cy, y19y, y1by, y1dy, y1fy, y21y, y1ey, y20y, y22y, y7fy, y77y, y6ey, y30y, y31y, y50y, y5dy, y5ey, y4by, y80y, y83y, y8cy, y79y, y27y, V.int.injEq, V.str.injEq, List.set_cons_zero, List.set_cons_succ, List.getElem?_cons_zero, List.getElem?_cons_succ, Option.some.injEq, exists_eq_left, exists_eq_left', V.bl.injEq, Int.reduceToNat, Int.reducePow, List.append_nil, List.nil_append, List.cons_append, y52y, y54y, y2by, y2cy, y65y, y5ay, y70y, y60y, y61y, y3ay, y3by, y3cy, y43y, y45y, y3ey, y76y, y40y, y3fy, y4fy, y33y, y35y, y37y, y38y, y34y, y36y, y7cy, y58y, y8ay, y3dy, y41y, reduceCtorEq, decide_false, decide_true]
    generalize u3 : upd H2 p _ = H3
    have S3 := newS hn u3
    have e3 := newE u3
    obtain ⟨pd, hpd, b, vz, vm, rfl, hq, _, _⟩ := hP.at_ hv
    obtain ⟨s, hs, fs⟩ := hA.at_ hu
    have ok := hp pd (List.mem_of_getElem? hpd)
    have zs_ := hz s (List.mem_of_getElem? hs)
    refine ⟨p, _, rfl, SqT.of e3, rfl, ?_⟩
    try try infer_instance
    refine ixT (i := 5) ((hq.same S2).same S3) rfl ?_
    refine ⟨by show 2 ≤ sizeLine; omega, ?_⟩
    intro pt h_pt
    generalize q_pt : upd H3 pt _ = H4
    have S4 := newS h_pt q_pt
    have e4 := newE q_pt
    have S14 := S2.trans (S3.trans S4)
    have ow := ok.w
    refine ⟨u, .ref pt, s.1, s.2, pd.wt, 1, rfl, (fs.same S1).same S14, FrV.of e4, zs_.s1.mono (by decide), zs_.s2.mono (by decide), ok.ws.mono (by decide), .lit (by decide) (by decide), zs_.b1, by decide, zs_.g1, by unfold Mth.g; simp, fun z => absurd z (by omega), fun _ r H5 S5 e5 => ?_⟩
    refine ⟨S14.trans S5, ?_⟩
    have el : lvls (ss.take (i + 1)) ((ls.take (i + 1)).map (·.wt)) = lvls (ss.take i) ((ls.take i).map (·.wt)) ++ [lvl s pd.wt] := by
      rw [List.take_succ, List.take_succ, hs, hpd]
      unfold lvls
      rw [List.map_append, List.zipWith_append (by
        rw [List.length_map, List.length_take, List.length_take]
        omega)]
      rfl
    rw [el]
    rw [Int.mul_one] at e5
    exact (hZ.mono (P' := FrL K H5) fun _ _ z => FrV.sameT ((S3.trans S4).trans S5).t z).append (.one (FrV.of e5))
  · rintro zs' H2 ⟨S2, hZ⟩
    rw [List.take_of_length_le (by omega), List.take_of_length_le (by omega)] at hZ
    intro r h_r
    generalize q_r : upd H2 r _ = H3
    have S3 := newS h_r q_r
    have e3 := newE q_r
    have hn : H r = none := by
      cases e : H r with
      | none => rfl
      | some o => rw [S2 _ _ (S1 _ _ e)] at h_r; cases h_r
    exact k r zs' H3 (S1.trans (S2.trans S3)) hn e3 (hZ.mono fun _ _ z => FrV.sameT S3.t z)
abbrev s_fairer : Stmt := top 28
theorem sc_fairer : FnScope ["thing", "ones", "others", "first", "second", "one", "other"] ["thing", "ones", "others"] (defScope s_fairer) := ⟨rfl, rfl, rfl, by decide +kernel, rfl, by decide +kernel, by decide +kernel⟩
def sp_fairer (K : PySem.W.Frag) (Ad : Adr) : Sp := fun vs H Q E => ∃ (x a b : Addr) (ls : List PD) (gs : List GD) (xs zs : List V) (ss rs : List Fr2), vs = [.ref x, .ref a, .ref b] ∧ TK K Ad H x ls gs ∧ (∀ p ∈ ls, POk p) ∧ ls.length ≤ 20 ∧ SqL K H a xs ∧ All2 (FrL K H) ss xs ∧ (∀ s ∈ ss, FOk 300 s) ∧ ss.length = ls.length ∧ SqL K H b zs ∧ All2 (FrL K H) rs zs ∧ (∀ s ∈ rs, FOk 300 s) ∧ rs.length = ls.length ∧ ∀ H', Same H H' → Q (.bl (fairB (ordO (lvls ss (ls.map (·.wt)))) (ordO (lvls rs (ls.map (·.wt)))))) H'
theorem ok_fairer {f : Addr} {fd : FuncData} {dV : Value} (F : FunD K "fairer" "fairer" s_fairer dV f fd) (T : Txt K mg Ad) (c_in_order : Cal P w K mg base 2 "in_order" ["numbers"] [] (sp_in_order K)) (c_for_weights : Cal P w K mg base 4 "for_weights" ["thing", "slacks"] [] (sp_for_weights K Ad)) (c_under : Cal P w K mg base 1 "under" ["one", "other"] [] (sp_under K)) : FnOk P w K mg base (CX1 P w) 5 f fd ["thing", "ones", "others"] (sp_fairer K Ad) := by
  refine F.okn sc_fairer (fun vs H Q E h => ?_) (fun cdv A outer s H vs Q E hr h => ?_)
  · obtain ⟨x, a, b, ls, gs, xs, zs, ss, rs, rfl, _⟩ := h; rfl
  obtain ⟨x, a, b, ls, gs, xs, zs, ss, rs, rfl, h⟩ := h
  have hu := hr.units
  refine ⟨_, (pss_cons (ps_set (i := 3) sc_fairer.nd rfl (Or.inl rfl) (c_in_order.ev hr (by decide) rfl passF (pa_cons (c_for_weights.ev hr (by decide) rfl passF (pa_cons (pv 0) (pa_cons (pv 1) pa_nil))) pa_nil)))
      (pss_cons (ps_set (i := 4) sc_fairer.nd rfl (Or.inl rfl) (c_in_order.ev hr (by decide) rfl passF (pa_cons (c_for_weights.ev hr (by decide) rfl passF (pa_cons (pv 0) (pa_cons (pv 2) pa_nil))) pa_nil)))
      (pss_cons (ps_for PassesOwn.never rfl (pi_zip rfl T.n_zip bt_zip (pa_cons (pv 3) (pa_cons (pv 4) pa_nil))) (pg_tup rfl (pgs_cons (pg_name (i := 5) sc_fairer.nd rfl (Or.inl rfl)) (pgs_cons (pg_name (i := 6) sc_fairer.nd rfl (Or.inl rfl)) pgs_nil)))
      (pss_one (ps_if (pt_cmpR (op_neU hu) (pv 5) (pv 6) (nomark _))
      (pss_one (ps_ret (c_under.ev hr (by decide) rfl passF (pa_cons (pv 6) (pa_cons (pv 5) pa_nil)))))
      pss_nil)))
      (pss_one (ps_ret pe_bl))))), ?_⟩
  obtain ⟨ht, hp, hl, hS, hA, hz, hsl, hS', hA', hz', hrl, k⟩ := h
  have sl : (1000 : Nat) ≤ sizeLine := by decide
  have lvz : ∀ (ss : List Fr2), (∀ s ∈ ss, FOk 300 s) → ∀ y ∈ lvls ss (ls.map (·.wt)), FW 3000 3000 y := fun ss hz y hy => by
    obtain ⟨i, hi⟩ := List.getElem?_of_mem hy
    unfold lvls at hi
    rw [List.getElem?_zipWith] at hi
    obtain ⟨s, pd, hs, hpd', rfl⟩ : ∃ s pd, ss[i]? = some s ∧ ls[i]? = some pd ∧ lvl s pd.wt = y := by
      rw [List.getElem?_map] at hi
      cases h1 : ss[i]? with
      | none => rw [h1] at hi; cases hi
      | some s =>
        cases h2 : ls[i]? with
        | none => rw [h1, h2] at hi; cases hi
        | some pd =>
          rw [h1, h2] at hi
          exact ⟨s, pd, rfl, rfl, Option.some.inj hi⟩
    have h1 := hz s (List.mem_of_getElem? hs)
    have hpd := List.mem_of_getElem? hpd'
    have ok := hp pd hpd
    have b1 := h1.b1
    have ow := ok.w
    have b0 : s.2 * pd.wt ≠ 0 := Int.mul_ne_zero (by omega) (by omega)
    exact ⟨(Mth.Sz.top b0 h1.s1).mono (by decide), (Mth.Sz.bot b0 (h1.s2.mul ok.ws)).mono (by decide), Mth.bot_pos b0⟩
  have lvn : ∀ (ss : List Fr2), ss.length = ls.length → (lvls ss (ls.map (·.wt))).length = ls.length := fun ss h => by
    unfold lvls
    rw [List.length_zipWith, List.length_map]
    omega
  show tSeq _ _ _ [some (.ref x), some (.ref a), some (.ref b), none, none, none, none] H
  try infer_instance
  refine ⟨x, a, ls, gs, xs, ss, rfl, ht, hp, hl, hS, hA, hz, hsl, fun l1 y1 H1 S1 h_l1 e1 hY1 => ?_⟩
  try try infer_instance
  refine ⟨l1, y1, _, rfl, SqL.of e1, hY1, lvz ss hz, by rw [lvn ss hsl]; exact hl, fun l2 y2 H2 S2 h_l2 e2 hY2 => ?_⟩
  try try infer_instance
  have S02 := S1.trans S2
  refine ⟨x, b, ls, gs, zs, rs, rfl, ht.same S02, hp, hl, hS'.same S02, hA'.mono (P' := FrL K H2) (fun _ _ z => FrV.sameT S02.t z), hz', hrl, fun l3 y3 H3 S3 h_l3 e3 hY3 => ?_⟩
  try try infer_instance
  refine ⟨l3, y3, _, rfl, SqL.of e3, hY3, lvz rs hz', by rw [lvn rs hrl]; exact hl, fun l4 y4 H4 S4 h_l4 e4 hY4 => ?_⟩
  try try infer_instance
  have hY2' := hY2.mono (P' := FrL K H4) fun _ _ z => FrV.sameT (S3.trans S4).t z
  have w1 : ∀ y ∈ ordO (lvls ss (ls.map (·.wt))), FW 3000 3000 y := fun y hy => lvz ss hz y (ordO_mem hy)
  have w2 : ∀ y ∈ ordO (lvls rs (ls.map (·.wt))), FW 3000 3000 y := fun y hy => lvz rs hz' y (ordO_mem hy)
  have n1 : (ordO (lvls ss (ls.map (·.wt)))).length = ls.length := by rw [ordO_len, lvn ss hsl]
  have n2 : (ordO (lvls rs (ls.map (·.wt)))).length = ls.length := by rw [ordO_len, lvn rs hrl]
  have e2' := S4 _ _ (S3 _ _ e2)
  have S04 := S02.trans (S3.trans S4)
  generalize hA1 : ordO (lvls ss (ls.map (·.wt))) = L at *
  generalize hA2 : ordO (lvls rs (ls.map (·.wt))) = M at *
  have ly2 := hY2'.length
  have ly4 := hY4.length
  refine ⟨l2, l4, rfl, ⟨y2, SqL.of e2'⟩, ⟨y4, SqL.of e4⟩, ForJ.zip (xs := y2) (ys := y4) (fun i σ H' => ∃ (v5 v6 : Option V), σ = [some (.ref x), some (.ref a), some (.ref b), some (.ref l2), some (.ref l4), v5, v6] ∧ Same H4 H' ∧ fairB L M = fairB (L.drop i) (M.drop i)) ⟨none, none, rfl, Same.refl _, rfl⟩ (fun i σ H' z => by obtain ⟨_, _, _, z, _⟩ := z; exact ⟨SqL.of (z _ _ e2'), SqL.of (z _ _ e4)⟩) ?_ ?_⟩
  · rintro i u v σ H5 p H6 hu hv ⟨v5, v6, rfl, S5, hf⟩ hpn S6 e6
    obtain ⟨n, hn, fn⟩ := hY2'.at_ hu
    obtain ⟨m, hm, fm⟩ := hY4.at_ hv
    have S46 := S5.trans S6
    have fn6 : FrV K H6 u n.1 n.2 := FrV.sameT S46.t fn
    have fm6 : FrV K H6 v m.1 m.2 := FrV.sameT S46.t fm
    have zn := w1 n (List.mem_of_getElem? hn)
    have zm := w2 m (List.mem_of_getElem? hm)
    have dL : L.drop i = n :: L.drop (i + 1) := by
      have := (List.getElem?_eq_some_iff.mp hn)
      rw [List.drop_eq_getElem_cons this.1, this.2]
    have dM : M.drop i = m :: M.drop (i + 1) := by
      have := (List.getElem?_eq_some_iff.mp hm)
      rw [List.drop_eq_getElem_cons this.1, this.2]
    rw [dL, dM] at hf
    refine ⟨p, _, rfl, SqT.of e6, rfl, ?_⟩
    try try infer_instance
    obtain ⟨pu, rfl, _⟩ := id fn6
    obtain ⟨pv, rfl, _⟩ := id fm6
    refine ⟨.tup [.int n.1, .int n.2], .tup [.int m.1, .int m.2], FrV.rep fn6, FrV.rep fm6, by simp [depD, depL], rfl, ?_⟩
    have ee : eqD (.tup [.int n.1, .int n.2]) (.tup [.int m.1, .int m.2]) = decide (n = m) := by
      simp only [eqD, eqL, Bool.and_true]
      rw [Bool.eq_iff_iff]
      simp [Prod.ext_iff]
    rw [ee]
    by_cases c : n = m
    · rw [decide_eq_true c]
      try try infer_instance
      refine ⟨_, _, rfl, S46, ?_⟩
      rw [hf]
      show (if n = m then _ else _) = _
      rw [if_pos c]
    · rw [decide_eq_false c]
      try try infer_instance
      refine ⟨.ref pv, .ref pu, m.1, m.2, n.1, n.2, rfl, fm6, fn6, zm.s1.mono (by decide), zm.s2.mono (by decide), zn.s1.mono (by decide), zn.s2.mono (by decide), ?_⟩
      have := k H6 (S04.trans S46)
      rw [hf] at this
      rw [show fairB (n :: L.drop (i + 1)) (m :: M.drop (i + 1)) = lessF m n by rw [fairB, if_neg c]] at this
      exact this
  · rintro σ H5 ⟨v5, v6, rfl, S5, hf⟩
    rw [List.drop_eq_nil_of_le (by omega), List.drop_eq_nil_of_le (by omega)] at hf
    try infer_instance
    have := k H5 (S04.trans S5)
    rw [hf] at this
    exact this
abbrev s_law_cell_at : Stmt := top 39
theorem sc_law_cell_at : FnScope ["_law_script", "_law_k"] ["_law_script", "_law_k"] (defScope s_law_cell_at) := ⟨rfl, rfl, rfl, by decide +kernel, rfl, by decide +kernel, by decide +kernel⟩
def sp_law_cell_at (K : PySem.W.Frag) : Sp := fun vs H Q E => ∃ (a : Addr) (ns : List Int) (k : Int), vs = [.ref a, .int k] ∧ SqL K H a (ns.map V.int) ∧ ns.length ≤ 63 ∧ 0 ≤ k ∧ ∀ v : Int, Q (.int v) H
theorem ok_law_cell_at {f : Addr} {fd : FuncData} {dV : Value} (F : FunD K "_law_cell_at" "_law_cell_at" s_law_cell_at dV f fd) (T : Txt K mg Ad)  : FnOk P w K mg base (CX1 P w) 1 f fd ["_law_script", "_law_k"] (sp_law_cell_at K) := by
  refine F.okn sc_law_cell_at (fun vs H Q E h => ?_) (fun cdv A outer s H vs Q E hr h => ?_)
  · obtain ⟨a, ns, k, rfl, _⟩ := h; rfl
  obtain ⟨a, ns, k, rfl, h⟩ := h
  have hu := hr.units
  refine ⟨_, (pss_cons (ps_if (pt_cmpR op_ltU (pv 1) (pe_callB call_lenU rfl T.n_len bt_len (pa_cons (pv 0) pa_nil)) (nomark _))
      (pss_one (ps_ret (pe_ix ix_U (pv 0) (pv 1) (fun _ _ => rfl))))
      pss_nil)
      (pss_one (ps_ret pe_int))), ?_⟩
  obtain ⟨hS, hl, h0, q⟩ := h
  show tSeq _ _ _ [some (.ref a), some (.int k)] H
  try infer_instance
  refine ⟨_, .inl hS, ?_⟩
  simp only [y7dy, y4cy, y4dy, y4ey, y6cy, y2ay, y67y, y7ay, y7by, y44y, y2dy, y73y, y89y, y2fy, y39y, y6dy, y2ey, y82y, y23y, y28y, y74y, y6fy, y29y, y75y, y71y, y56y, y8by, y26y, y81y, y6by, y64y, y49y, y63y, y78y, y32y, y47y, y69y, y48y, y6ay, y46y, y68y, y84y, y5fy, y5by, y86y, y88y, y85y, y87y, y25y, y62y, y24y, true_and, if_true, if_false, Bool.not_true, Bool.not_false, Bool.false_eq_true, yby, ydy, yay, ycy, yey, y15y, y17y, y14y, y16y, y18y, y6y, y8y, y5y, y7y, y9y, y1y, y3y, y0y, y2y, y4y, y10y, y12y, yfy, y11y, y13y, y1ay, y1cy, y19y, y1by, y1dy, y1fy, y21y, y1ey, y20y, y22y, y7fy, y77y, y6ey, y30y, y31y, y50y, y5dy, y5ey, y4by, y80y, y83y, y8cy, y79y, y27y, V.int.injEq, V.str.injEq, List.set_cons_zero, List.set_cons_succ, List.getElem?_cons_zero, List.getElem?_cons_succ, Option.some.injEq, exists_eq_left, exists_eq_left', V.bl.injEq, Int.reduceToNat, Int.reducePow, List.append_nil, List.nil_append, List.cons_append, y52y, y54y, y2by, y2cy, y65y, y5ay, y70y, y60y, y61y, y3ay, y3by, y3cy, y43y, y45y, y3ey, y76y, y40y, y3fy, y4fy, y33y, y35y, y37y, y38y, y34y, y36y, y7cy, y58y, y8ay, y3dy, y41y, reduceCtorEq, decide_false, decide_true, List.length_map]
  obtain ⟨n, rfl⟩ := Int.eq_ofNat_of_zero_le h0
  by_cases c : n < ns.length
  · rw [if_pos (by simp; omega)]
    try infer_instance
    exact ixL hS (by rw [List.getElem?_map, List.getElem?_eq_getElem c]; rfl) (q _)
  · rw [if_neg (by simp; omega)]
    try infer_instance
    exact q 0
abbrev s_law_low : Stmt := top 40
theorem sc_law_low : FnScope ["_law_top", "_law_bottom", "_law_one", "_law_other", "_law_rest"] ["_law_top", "_law_bottom"] (defScope s_law_low) := ⟨rfl, rfl, rfl, by decide +kernel, rfl, by decide +kernel, by decide +kernel⟩
def sp_law_low  : Sp := fun vs H Q E => ∃ (t b : Int), vs = [.int t, .int b] ∧ 1 ≤ b ∧ Mth.Sz 8000 b ∧ ∀ p H', Same H H' → H' p = some (.tup [.int (Mth.top t b), .int (Mth.bot t b)]) → Q (.ref p) H'
theorem ok_law_low {f : Addr} {fd : FuncData} {dV : Value} (F : FunD K "_law_low" "_law_low" s_law_low dV f fd) (T : Txt K mg Ad)  : FnOk P w K mg base (CX1 P w) 1 f fd ["_law_top", "_law_bottom"] (sp_law_low) := by
  refine F.okn sc_law_low (fun vs H Q E h => ?_) (fun cdv A outer s H vs Q E hr h => ?_)
  · obtain ⟨t, b, rfl, _⟩ := h; rfl
  obtain ⟨t, b, rfl, h⟩ := h
  have hu := hr.units
  refine ⟨_, (pss_cons (ps_set (i := 2) sc_law_low.nd rfl (Or.inl rfl) (pv 0))
      (pss_cons (ps_set (i := 3) sc_law_low.nd rfl (Or.inl rfl) (pv 1))
      (pss_cons (ps_while PassesOwn.never (pt_cmpR (op_neU hu) (pv 3) pe_int (nomark _))
      (pss_cons (ps_set (i := 4) sc_law_low.nd rfl (Or.inl rfl) (pe_op op_modU (pv 2) (pv 3)))
      (pss_cons (ps_set (i := 2) sc_law_low.nd rfl (Or.inl rfl) (pv 3))
      (pss_one (ps_set (i := 3) sc_law_low.nd rfl (Or.inl rfl) (pv 4))))))
      (pss_one (ps_ret (pe_tup (pa_cons (pe_op op_fdivU (pv 0) (pe_callB call_absU rfl T.n_abs bt_abs (pa_cons (pv 2) pa_nil))) (pa_cons (pe_op op_fdivU (pv 1) (pe_callB call_absU rfl T.n_abs bt_abs (pa_cons (pv 2) pa_nil))) pa_nil)))))))), ?_⟩
  obtain ⟨hb, hs, k⟩ := h
  show tSeq _ _ _ [some (.int t), some (.int b), none, none, none] H
  try infer_instance
  refine ⟨fun m σ H' => ∃ (x y : Int) (z : Option V), σ = [some (.int t), some (.int b), some (.int x), some (.int y), z] ∧ H' = H ∧ 0 ≤ y ∧ Mth.g x y = Mth.g t b ∧ y.toNat = m, ⟨_, _, _, none, rfl, rfl, by omega, rfl, rfl⟩, ?_⟩
  rintro m σ H' ⟨x, y, z, rfl, rfl, hy, hg, rfl⟩
  try infer_instance
  by_cases c : y = 0
  · subst c
    rw [if_neg (by simp)]
    have gp := Mth.g_pos (a := t) (b := b) (by omega)
    have gl := Mth.g_le (a := t) (b := b) (by omega)
    have d1 : DivOk (Mth.g t b) := divOk (n := 8000) (by omega) (Nat.lt_of_le_of_lt (by omega : (Mth.g t b).natAbs ≤ b.natAbs) hs)
    have e : (if x < 0 then -x else x) = Mth.g t b := by
      rw [← hg, Mth.g_zero]
      split <;> omega
    try try infer_instance
    rw [e]
    refine ⟨d1, d1, len2, ?_⟩
    refine new_obj fun p H1 S hp => k p H1 S ?_
    rw [hp]
    unfold Mth.top Mth.bot Mth.by_
    rw [if_neg (by omega)]
  · rw [if_pos (by simp [c])]
    have f := Mth.fm (x := x) (y := y) (by omega)
    exact ⟨_, fun _ _ q => q, c, (x.fmod y).toNat, by omega, y, x.fmod y, _, rfl, rfl, f.1, by rw [Mth.g_fstep (by omega)]; exact hg, rfl⟩
abbrev s_law_less : Stmt := top 41
theorem sc_law_less : FnScope ["_law_one", "_law_other"] ["_law_one", "_law_other"] (defScope s_law_less) := ⟨rfl, rfl, rfl, by decide +kernel, rfl, by decide +kernel, by decide +kernel⟩
def sp_law_less (K : PySem.W.Frag) : Sp := fun vs H Q E => ∃ (x y : V) (a c : Fr2), vs = [x, y] ∧ FrV K H x a.1 a.2 ∧ FrV K H y c.1 c.2 ∧ FW 3000 3000 a ∧ FW 3000 3000 c ∧ Q (.bl (lessF a c)) H
theorem ok_law_less {f : Addr} {fd : FuncData} {dV : Value} (F : FunD K "_law_less" "_law_less" s_law_less dV f fd) (T : Txt K mg Ad)  : FnOk P w K mg base (CX1 P w) 1 f fd ["_law_one", "_law_other"] (sp_law_less K) := by
  refine F.okn sc_law_less (fun vs H Q E h => ?_) (fun cdv A outer s H vs Q E hr h => ?_)
  · obtain ⟨x, y, a, c, rfl, _⟩ := h; rfl
  obtain ⟨x, y, a, c, rfl, h⟩ := h
  have hu := hr.units
  refine ⟨_, (pss_one (ps_ret (pe_cmpR op_ltU (pe_op op_mul0 (pe_ix ix_U (pv 0) pe_int (fun _ _ => rfl)) (pe_ix ix_U (pv 1) pe_int (fun _ _ => rfl))) (pe_op op_mul0 (pe_ix ix_U (pv 1) pe_int (fun _ _ => rfl)) (pe_ix ix_U (pv 0) pe_int (fun _ _ => rfl))) (nomark _)))), ?_⟩
  obtain ⟨hx, hy, ha, hc, k⟩ := h
  show tRet _ _ [some x, some y] H
  try infer_instance
  refine ixF0 hx (ixF1 hy ?_)
  try infer_instance
  refine ⟨mulOk ha.s1 hc.s2, ixF0 hy (ixF1 hx ?_)⟩
  try infer_instance
  exact ⟨mulOk hc.s1 ha.s2, k⟩
abbrev s_law_sorted : Stmt := top 42
theorem sc_law_sorted : FnScope ["_law_slacks", "_law_weights", "_law_levels", "_law_k", "_law_level", "_law_at"] ["_law_slacks", "_law_weights"] (defScope s_law_sorted) := ⟨rfl, rfl, rfl, by decide +kernel, rfl, by decide +kernel, by decide +kernel⟩
def sp_law_sorted (K : PySem.W.Frag) : Sp := fun vs H Q E => ∃ (a b : Addr) (xs : List V) (ss : List Fr2) (wts : List Int), vs = [.ref a, .ref b] ∧ SqL K H a xs ∧ All2 (FrL K H) ss xs ∧ (∀ s ∈ ss, FOk 300 s) ∧ SqL K H b (wts.map V.int) ∧ (∀ w ∈ wts, 1 ≤ w ∧ Mth.Sz 200 w) ∧ wts.length = ss.length ∧ ss.length ≤ 20 ∧ ∀ l ys H', Same H H' → H l = none → H' l = some (.lst ys) → All2 (FrL K H') (ordO (lvls ss wts)) ys → Q (.ref l) H'
theorem ok_law_sorted {f : Addr} {fd : FuncData} {dV : Value} (F : FunD K "_law_sorted" "_law_sorted" s_law_sorted dV f fd) (T : Txt K mg Ad) (c_law_low : Cal P w K mg base 1 "_law_low" ["_law_top", "_law_bottom"] [] (sp_law_low)) (c_law_less : Cal P w K mg base 1 "_law_less" ["_law_one", "_law_other"] [] (sp_law_less K)) : FnOk P w K mg base (CX1 P w) 2 f fd ["_law_slacks", "_law_weights"] (sp_law_sorted K) := by
  refine F.okn sc_law_sorted (fun vs H Q E h => ?_) (fun cdv A outer s H vs Q E hr h => ?_)
  · obtain ⟨a, b, xs, ss, wts, rfl, _⟩ := h; rfl
  obtain ⟨a, b, xs, ss, wts, rfl, h⟩ := h
  have hu := hr.units
  refine ⟨_, (pss_cons (ps_set (i := 2) sc_law_sorted.nd rfl (Or.inl rfl) (pe_lst pa_nil))
      (pss_cons (ps_for PassesOwn.never rfl (pi_range1 rfl T.n_range (pa_cons (pe_callB call_lenU rfl T.n_len bt_len (pa_cons (pv 0) pa_nil)) pa_nil)) (pg_name (i := 3) sc_law_sorted.nd rfl (Or.inl rfl))
      (pss_cons (ps_set (i := 4) sc_law_sorted.nd rfl (Or.inl rfl) (c_law_low.ev hr (by decide) rfl passF (pa_cons (pe_ix ix_U (pe_ix ix_U (pv 0) (pv 3) (fun _ _ => rfl)) pe_int (fun _ _ => rfl)) (pa_cons (pe_op op_mul0 (pe_ix ix_U (pe_ix ix_U (pv 0) (pv 3) (fun _ _ => rfl)) pe_int (fun _ _ => rfl)) (pe_ix ix_U (pv 1) (pv 3) (fun _ _ => rfl))) pa_nil))))
      (pss_cons (ps_set (i := 5) sc_law_sorted.nd rfl (Or.inl rfl) (pe_callB call_lenU rfl T.n_len bt_len (pa_cons (pv 2) pa_nil)))
      (pss_cons (ps_while PassesOwn.never (PW.pt (pw_and (pt_cmpR op_gtU (pv 5) pe_int (nomark _)) (pw_and1 (pt_val (c_law_less.ev hr (by decide) rfl passF (pa_cons (pv 4) (pa_cons (pe_ix ix_U (pv 2) (pe_op op_sub (pv 5) pe_int) (fun _ _ => rfl)) pa_nil)))))))
      (pss_one (ps_set (i := 5) sc_law_sorted.nd rfl (Or.inl rfl) (pe_op op_sub (pv 5) pe_int))))
      (pss_one (ps_expr (pe_bm PySem.F.plainAttrs_list PySem.F.slot_list_insert PySem.F.type_list_insert mt_insert (pv 2) (pa_cons (pv 5) (pa_cons (pv 4) pa_nil)))))))))
      (pss_one (ps_ret (pv 2))))), ?_⟩
  obtain ⟨hS, hA, hz, hW, hw, hwl, hl, k⟩ := h
  have sl : (1000 : Nat) ≤ sizeLine := by decide
  have la := hA.length
  show tSeq _ _ _ [some (.ref a), some (.ref b), none, none, none, none] H
  try infer_instance
  refine ⟨len0, ?_⟩
  intro tl h_tl
  generalize q_tl : upd H tl _ = H1
  have S1 := newS h_tl q_tl
  have e1 := newE q_tl
  refine ⟨_, .inl (hS.same S1), ?_⟩
  try try infer_instance
  refine ⟨_, rfl, by omega, by omega, ?_⟩
  have lvz : ∀ y ∈ lvls ss wts, FW 3000 3000 y := fun y hy => by
    obtain ⟨i, hi⟩ := List.getElem?_of_mem hy
    unfold lvls at hi
    rw [List.getElem?_zipWith] at hi
    obtain ⟨s, w, hs, hw', rfl⟩ : ∃ s w, ss[i]? = some s ∧ wts[i]? = some w ∧ lvl s w = y := by
      cases h1 : ss[i]? with
      | none => rw [h1] at hi; cases hi
      | some s =>
        cases h2 : wts[i]? with
        | none => rw [h1, h2] at hi; cases hi
        | some w =>
          rw [h1, h2] at hi
          exact ⟨s, w, rfl, rfl, Option.some.inj hi⟩
    have h1 := hz s (List.mem_of_getElem? hs)
    have h2 := hw w (List.mem_of_getElem? hw')
    have b1 := h1.b1
    have b0 : s.2 * w ≠ 0 := Int.mul_ne_zero (by omega) (by omega)
    exact ⟨(Mth.Sz.top b0 h1.s1).mono (by decide), (Mth.Sz.bot b0 (h1.s2.mul h2.2)).mono (by decide), Mth.bot_pos b0⟩
  refine ForR.by (fun i σ H' => ∃ (v3 v4 v5 : Option V) (ys : List V), σ = [some (.ref a), some (.ref b), some (.ref tl), v3, v4, v5] ∧ Same H H' ∧ H' tl = some (.lst ys) ∧ All2 (FrL K H') (ordO ((lvls ss wts).take i)) ys) ⟨none, none, none, [], rfl, S1, e1, rfl⟩ ?_ ?_
  · rintro i σ H2 hi ⟨v3, v4, v5, ys, rfl, S2, e2, hY⟩
    have li : i < ss.length := by omega
    have liw : i < wts.length := by omega
    obtain ⟨xv, hxv, fx⟩ := hA.get (List.getElem?_eq_getElem li)
    have zs_ := hz _ (List.getElem_mem li)
    have zw := hw _ (List.getElem_mem liw)
    have hwv : (wts.map V.int)[i]? = some (.int wts[i]) := by rw [List.getElem?_map, List.getElem?_eq_getElem liw]; rfl
    try infer_instance
    rw [Int.zero_add]
    have hn : (lvls ss wts)[i]? = some (lvl ss[i] wts[i]) := by
      unfold lvls
      rw [List.getElem?_zipWith, List.getElem?_eq_getElem li, List.getElem?_eq_getElem liw]
    refine ixL (i := i) (hS.same S2) hxv ?_
    refine ixF0 (fx.same S2) ?_
    refine ixL (i := i) (hS.same S2) hxv ?_
    refine ixF1 (fx.same S2) ?_
    refine ixL (i := i) (hW.same S2) hwv ?_
    try try infer_instance
    have b1 := zs_.b1
    have bp := Int.mul_pos (show 0 < ss[i].2 by omega) (show 0 < wts[i] by omega)
    refine ⟨mulOk zs_.s2 zw.2, ?_⟩
    refine ⟨_, _, rfl, by omega, (zs_.s2.mul zw.2).mono (by decide), fun pl H3 S3 e3 => ?_⟩
    have e3t := S3 _ _ e2
    have hY3 := hY.mono (P' := FrL K H3) fun _ _ z => FrV.sameT S3.t z
    have fn3 : FrV K H3 (.ref pl) (lvl ss[i] wts[i]).1 (lvl ss[i] wts[i]).2 := FrV.of e3
    have ly := hY.length
    have lo : (ordO ((lvls ss wts).take i)).length ≤ 20 := by
      rw [ordO_len, List.length_take]
      omega
    refine ⟨_, .inl (SqL.of e3t), ?_⟩
    try try infer_instance
    have zn := lvz _ (List.mem_of_getElem? hn)
    generalize hn' : lvl ss[i] wts[i] = n at *
    generalize hL : ordO ((lvls ss wts).take i) = L at *
    have hmem : ∀ y ∈ L, FW 3000 3000 y := fun y hy => lvz y (List.mem_of_mem_take (ordO_mem (by rw [hL]; exact hy)))
    have snoc : ordO ((lvls ss wts).take (i + 1)) = insO L n := by
      rw [List.take_succ, hn, ← hL]
      exact ordO_snoc _ _
    have fin : ∀ (p : Nat), p ≤ L.length → plcIn L n L.length = p → tyV K "list" (.ref tl) H3 ∧ rInsert (.ref tl) [.int (p : Int), .ref pl] H3 fun _ H' => ∃ (v3 v4 v5 : Option V) (ys : List V), [some (.ref a), some (.ref b), some (.ref tl), some (.int (i : Int)), some (.ref pl), some (.int (p : Int))] = [some (.ref a), some (.ref b), some (.ref tl), v3, v4, v5] ∧ Same H H' ∧ H' tl = some (.lst ys) ∧ All2 (FrL K H') (ordO ((lvls ss wts).take (i + 1))) ys := fun p hp hpl => by
      refine ⟨.inl ⟨rfl, _, SqL.of e3t⟩, ?_⟩
      refine ⟨tl, ys, .ref pl, p, rfl, rfl, e3t, by omega, by omega, ?_⟩
      generalize u4 : upd H3 tl _ = H4
      have e4 := putE u4
      have T34 : SameT H3 H4 := SameT.put u4 e3t rfl
      refine ⟨_, _, _, _, rfl, fun b u h => by rw [← u4, upd_ne (ne_of_none h h_tl)]; exact S3 _ _ (S2 _ _ h), e4, ?_⟩
      rw [snoc]
      unfold insO
      rw [hpl]
      have hY4 := hY3.mono (P' := FrL K H4) fun _ _ z => FrV.sameT T34 z
      exact (hY4.take p).append ⟨.ref pl, _, rfl, FrV.sameT T34 fn3, hY4.drop p⟩
    refine ⟨fun m σ H' => m ≤ L.length ∧ σ = [some (.ref a), some (.ref b), some (.ref tl), some (.int (i : Int)), some (.ref pl), some (.int (m : Int))] ∧ H' = H3 ∧ plcIn L n m = plcIn L n L.length, ⟨ys.length, by omega, rfl, rfl, by rw [ly]⟩, ?_⟩
    rintro m σ H' ⟨hm, rfl, rfl, hpl⟩
    try infer_instance
    match m, hm, hpl with
    | 0, hm, hpl =>
      rw [if_neg (by simp)]
      try try infer_instance
      exact fin 0 (Nat.zero_le _) hpl.symm
    | p + 1, hm, hpl =>
      rw [if_pos (by simp)]
      have hp : p < L.length := by omega
      obtain ⟨yv, hyv, fy⟩ := hY3.get (List.getElem?_eq_getElem hp)
      have ei : ((p + 1 : Nat) : Int) - 1 = (p : Int) := by omega
      rw [ei]
      refine ixL (i := p) (SqL.of e3t) hyv ?_
      have zy := hmem _ (List.getElem_mem hp)
      refine ⟨.ref pl, yv, n, L[p], rfl, fn3, fy, zn, zy, ?_⟩
      try try infer_instance
      have eg : L.getD p (0, 1) = L[p] := by rw [List.getD_eq_getElem?_getD, List.getElem?_eq_getElem hp]; rfl
      rw [show plcIn L n (p + 1) = if lessF n (L.getD p (0, 1)) then plcIn L n p else p + 1 by rw [plcIn], eg] at hpl
      by_cases c : lessF n L[p] = true
      · rw [if_pos c] at hpl
        rw [if_pos c]
        try try infer_instance
        exact ⟨_, fun _ _ q => q, p, Nat.lt_succ_self p, by omega, rfl, rfl, hpl⟩
      · rw [if_neg c] at hpl
        rw [if_neg c]
        try try infer_instance
        exact fin (p + 1) hm hpl.symm
  · rintro σ H2 ⟨v3, v4, v5, ys, rfl, S2, e2, hY⟩
    rw [List.take_of_length_le (by unfold lvls; rw [List.length_zipWith]; omega)] at hY
    try infer_instance
    exact k tl ys H2 S2 h_tl e2 hY
abbrev s_law_fairer : Stmt := top 43
theorem sc_law_fairer : FnScope ["_law_ones", "_law_others_here", "_law_weights", "_law_here", "_law_there", "_law_k"] ["_law_ones", "_law_others_here", "_law_weights"] (defScope s_law_fairer) := ⟨rfl, rfl, rfl, by decide +kernel, rfl, by decide +kernel, by decide +kernel⟩
def sp_law_fairer (K : PySem.W.Frag) : Sp := fun vs H Q E => ∃ (a c b : Addr) (xs zs : List V) (ss rs : List Fr2) (wts : List Int), vs = [.ref a, .ref c, .ref b] ∧ SqL K H a xs ∧ All2 (FrL K H) ss xs ∧ (∀ s ∈ ss, FOk 300 s) ∧ SqL K H c zs ∧ All2 (FrL K H) rs zs ∧ (∀ s ∈ rs, FOk 300 s) ∧ SqL K H b (wts.map V.int) ∧ (∀ w ∈ wts, 1 ≤ w ∧ Mth.Sz 200 w) ∧ wts.length = ss.length ∧ wts.length = rs.length ∧ wts.length ≤ 20 ∧ ∀ H', Same H H' → Q (.bl (fairB (ordO (lvls ss wts)) (ordO (lvls rs wts)))) H'
theorem ok_law_fairer {f : Addr} {fd : FuncData} {dV : Value} (F : FunD K "_law_fairer" "_law_fairer" s_law_fairer dV f fd) (T : Txt K mg Ad) (c_law_sorted : Cal P w K mg base 2 "_law_sorted" ["_law_slacks", "_law_weights"] [] (sp_law_sorted K)) (c_law_less : Cal P w K mg base 1 "_law_less" ["_law_one", "_law_other"] [] (sp_law_less K)) : FnOk P w K mg base (CX1 P w) 3 f fd ["_law_ones", "_law_others_here", "_law_weights"] (sp_law_fairer K) := by
  refine F.okn sc_law_fairer (fun vs H Q E h => ?_) (fun cdv A outer s H vs Q E hr h => ?_)
  · obtain ⟨a, c, b, xs, zs, ss, rs, wts, rfl, _⟩ := h; rfl
  obtain ⟨a, c, b, xs, zs, ss, rs, wts, rfl, h⟩ := h
  have hu := hr.units
  refine ⟨_, (pss_cons (ps_set (i := 3) sc_law_fairer.nd rfl (Or.inl rfl) (c_law_sorted.ev hr (by decide) rfl passF (pa_cons (pv 0) (pa_cons (pv 2) pa_nil))))
      (pss_cons (ps_set (i := 4) sc_law_fairer.nd rfl (Or.inl rfl) (c_law_sorted.ev hr (by decide) rfl passF (pa_cons (pv 1) (pa_cons (pv 2) pa_nil))))
      (pss_cons (ps_for PassesOwn.never rfl (pi_range1 rfl T.n_range (pa_cons (pe_callB call_lenU rfl T.n_len bt_len (pa_cons (pv 3) pa_nil)) pa_nil)) (pg_name (i := 5) sc_law_fairer.nd rfl (Or.inl rfl))
      (pss_one (ps_if (pt_cmpR (op_neU hu) (pe_ix ix_U (pv 3) (pv 5) (fun _ _ => rfl)) (pe_ix ix_U (pv 4) (pv 5) (fun _ _ => rfl)) (nomark _))
      (pss_one (ps_ret (c_law_less.ev hr (by decide) rfl passF (pa_cons (pe_ix ix_U (pv 4) (pv 5) (fun _ _ => rfl)) (pa_cons (pe_ix ix_U (pv 3) (pv 5) (fun _ _ => rfl)) pa_nil)))))
      pss_nil)))
      (pss_one (ps_ret pe_bl))))), ?_⟩
  obtain ⟨hS, hA, hz, hC, hB, hz', hW, hw, hwl, hwr, hl, k⟩ := h
  have sl : (1000 : Nat) ≤ sizeLine := by decide
  show tSeq _ _ _ [some (.ref a), some (.ref c), some (.ref b), none, none, none] H
  try infer_instance
  refine ⟨a, b, xs, ss, wts, rfl, hS, hA, hz, hW, hw, hwl, by omega, fun l1 y1 H1 S1 h_l1 e1 hY1 => ?_⟩
  try try infer_instance
  refine ⟨c, b, zs, rs, wts, rfl, hC.same S1, hB.mono (P' := FrL K H1) (fun _ _ z => FrV.sameT S1.t z), hz', hW.same S1, hw, hwr, by omega, fun l2 y2 H2 S2 h_l2 e2 hY2 => ?_⟩
  try try infer_instance
  have e1' := S2 _ _ e1
  have hY1' := hY1.mono (P' := FrL K H2) fun _ _ z => FrV.sameT S2.t z
  have S02 := S1.trans S2
  have lvn : ∀ (ss : List Fr2), wts.length = ss.length → (ordO (lvls ss wts)).length = wts.length := fun ss h => by
    rw [ordO_len]
    unfold lvls
    rw [List.length_zipWith]
    omega
  have n1 := lvn ss hwl
  have n2 := lvn rs hwr
  have lvz : ∀ (ss : List Fr2), (∀ s ∈ ss, FOk 300 s) → ∀ y ∈ ordO (lvls ss wts), FW 3000 3000 y := fun ss hz y hy => by
    obtain ⟨i, hi⟩ := List.getElem?_of_mem (ordO_mem hy)
    unfold lvls at hi
    rw [List.getElem?_zipWith] at hi
    obtain ⟨s, w, hs, hw', rfl⟩ : ∃ s w, ss[i]? = some s ∧ wts[i]? = some w ∧ lvl s w = y := by
      cases h1 : ss[i]? with
      | none => rw [h1] at hi; cases hi
      | some s =>
        cases h2 : wts[i]? with
        | none => rw [h1, h2] at hi; cases hi
        | some w =>
          rw [h1, h2] at hi
          exact ⟨s, w, rfl, rfl, Option.some.inj hi⟩
    have h1 := hz s (List.mem_of_getElem? hs)
    have h2 := hw w (List.mem_of_getElem? hw')
    have b1 := h1.b1
    have b0 : s.2 * w ≠ 0 := Int.mul_ne_zero (by omega) (by omega)
    exact ⟨(Mth.Sz.top b0 h1.s1).mono (by decide), (Mth.Sz.bot b0 (h1.s2.mul h2.2)).mono (by decide), Mth.bot_pos b0⟩
  have w1 := lvz ss hz
  have w2 := lvz rs hz'
  generalize hA1 : ordO (lvls ss wts) = L at *
  generalize hA2 : ordO (lvls rs wts) = M at *
  have ly1 := hY1'.length
  have ly2 := hY2.length
  refine ⟨_, .inl (SqL.of e1'), ?_⟩
  try try infer_instance
  refine ⟨_, rfl, by omega, by omega, ?_⟩
  refine ForR.by (fun i σ H' => ∃ (v5 : Option V), σ = [some (.ref a), some (.ref c), some (.ref b), some (.ref l1), some (.ref l2), v5] ∧ H' = H2 ∧ fairB L M = fairB (L.drop i) (M.drop i)) ⟨none, rfl, rfl, rfl⟩ ?_ ?_
  · rintro i σ H' hi ⟨v5, rfl, rfl, hf⟩
    have l1' : i < L.length := by omega
    have l2' : i < M.length := by omega
    obtain ⟨u, hu, fn⟩ := hY1'.get (List.getElem?_eq_getElem l1')
    obtain ⟨v, hv, fm⟩ := hY2.get (List.getElem?_eq_getElem l2')
    have zn := w1 _ (List.getElem_mem l1')
    have zm := w2 _ (List.getElem_mem l2')
    rw [List.drop_eq_getElem_cons l1', List.drop_eq_getElem_cons l2'] at hf
    generalize L[i] = n at *
    generalize M[i] = m at *
    try infer_instance
    rw [Int.zero_add]
    refine ixL (i := i) (SqL.of e1') hu ?_
    refine ixL (i := i) (SqL.of e2) hv ?_
    refine neF fn fm ?_
    have ee : (decide (n.1 = m.1) && decide (n.2 = m.2)) = decide (n = m) := by
      rw [Bool.eq_iff_iff]
      simp [Prod.ext_iff]
    rw [ee]
    by_cases cc : n = m
    · rw [decide_eq_true cc]
      try try infer_instance
      refine ⟨_, rfl, ?_⟩
      rw [hf, fairB, if_pos cc]
    · rw [decide_eq_false cc]
      try try infer_instance
      refine ixL (i := i) (SqL.of e2) hv ?_
      refine ixL (i := i) (SqL.of e1') hu ?_
      refine ⟨v, u, m, n, rfl, fm, fn, zm, zn, ?_⟩
      have := k H' S02
      rw [hf, fairB, if_neg cc] at this
      exact this
  · rintro σ H' ⟨v5, rfl, rfl, hf⟩
    rw [List.drop_eq_nil_of_le (by omega), List.drop_eq_nil_of_le (by omega)] at hf
    try infer_instance
    have := k H' S02
    rw [hf] at this
    exact this
abbrev s_law_drawn : Stmt := top 44
theorem sc_law_drawn : FnScope ["_law_cell", "_law_mixed"] ["_law_cell"] (defScope s_law_drawn) := ⟨rfl, rfl, rfl, by decide +kernel, rfl, by decide +kernel, by decide +kernel⟩
def sp_law_drawn  : Sp := fun vs H Q E => ∃ (c : Int), vs = [.int c] ∧ ∀ p (s : Fr2) H', Same H H' → H' p = some (.tup [.int s.1, .int s.2]) → FB 170 4 s → Q (.ref p) H'
theorem ok_law_drawn {f : Addr} {fd : FuncData} {dV : Value} (F : FunD K "_law_drawn" "_law_drawn" s_law_drawn dV f fd) (T : Txt K mg Ad) (c_law_low : Cal P w K mg base 1 "_law_low" ["_law_top", "_law_bottom"] [] (sp_law_low)) : FnOk P w K mg base (CX1 P w) 2 f fd ["_law_cell"] (sp_law_drawn) := by
  refine F.okn sc_law_drawn (fun vs H Q E h => ?_) (fun cdv A outer s H vs Q E hr h => ?_)
  · obtain ⟨c, rfl, _⟩ := h; rfl
  obtain ⟨c, rfl, h⟩ := h
  have hu := hr.units
  refine ⟨_, (pss_cons (ps_set (i := 1) sc_law_drawn.nd rfl (Or.inl rfl) (pe_op op_fdivU (pe_op op_modU (pe_op op_mul0 (pv 0) pe_int) pe_int) pe_int))
      (pss_cons (ps_if (pt_cmpR (op_eqU hu) (pe_op op_modU (pe_op op_fdivU (pv 1) pe_int) pe_int) pe_int (nomark _))
      (pss_one (ps_ret (c_law_low.ev hr (by decide) rfl passF (pa_cons (pe_op op_modU (pv 0) (pe_op op_powU pe_int pe_int)) (pa_cons (pe_op op_addU pe_int (pe_op op_modU (pv 1) pe_int)) pa_nil)))))
      pss_nil)
      (pss_one (ps_ret (c_law_low.ev hr (by decide) rfl passF (pa_cons (pe_op op_sub (pe_op op_modU (pv 1) pe_int) pe_int) (pa_cons (pe_op op_addU pe_int (pe_op op_modU (pe_op op_fdivU (pv 1) pe_int) pe_int)) pa_nil))))))), ?_⟩
  have k := h
  show tSeq _ _ _ [some (.int c), none] H
  try infer_instance
  repeat (refine And.intro (by first | exact divOkL (by decide) | exact powOkL (by decide) | exact mulOkL (by decide) | exact mulOkL' (by decide) | exact Int.one_ne_zero | decide) ?_)
  generalize hmx : ((c * 48271).fmod 2147483647).fdiv 37 = mx
  have q1 := Mth.fm (x := mx) (y := 12) (by decide)
  have q2 := Mth.fm (x := mx) (y := 9) (by decide)
  have q3 := Mth.fm (x := mx.fdiv 16) (y := 4) (by decide)
  have q4 := Mth.fm (x := c) (y := 100000000000000000000000000000000000000000000000000) (by decide)
  by_cases c5 : (mx.fdiv 256).fmod 5 = 1
  · rw [if_pos (by simpa using c5)]
    repeat (refine And.intro (by first | exact divOkL (by decide) | exact powOkL (by decide) | exact mulOkL (by decide) | exact mulOkL' (by decide) | exact Int.one_ne_zero | decide) ?_)
    refine ⟨_, _, rfl, by omega, .lit (by omega) (by omega), fun p H1 S1 e1 => ?_⟩
    exact k p (_, _) H1 S1 e1 (FB.low (by omega) (.lit (by omega) (by omega)) (.lit (by omega) (by omega)))
  · rw [if_neg (by simpa using c5)]
    repeat (refine And.intro (by first | exact divOkL (by decide) | exact powOkL (by decide) | exact mulOkL (by decide) | exact mulOkL' (by decide) | exact Int.one_ne_zero | decide) ?_)
    refine ⟨_, _, rfl, by omega, .lit (by omega) (by omega), fun p H1 S1 e1 => ?_⟩
    exact k p (_, _) H1 S1 e1 (FB.low (by omega) (.lit (by omega) (by omega)) (.lit (by omega) (by omega)))
abbrev s_law_others : Stmt := top 45
theorem sc_law_others : FnScope ["_law_script", "_law_ones", "_law_weights", "_law_many", "_law_way", "_law_at", "_law_turned", "_law_others_here", "_law_bit"] ["_law_script", "_law_ones", "_law_weights", "_law_many"] (defScope s_law_others) := ⟨rfl, rfl, rfl, by decide +kernel, rfl, by decide +kernel, by decide +kernel⟩
def sp_law_others (K : PySem.W.Frag) : Sp := fun vs H Q E => ∃ (a c b : Addr) (ns : List Int) (xs : List V) (ss : List Fr2) (wts : List Int) (m : Nat), vs = [.ref a, .ref c, .ref b, .int (m : Int)] ∧ SqL K H a (ns.map V.int) ∧ ns.length ≤ 63 ∧ SqL K H c xs ∧ All2 (FrL K H) ss xs ∧ (∀ s ∈ ss, FB 170 4 s) ∧ SqL K H b (wts.map V.int) ∧ (∀ w ∈ wts, 1 ≤ w ∧ Mth.Sz 20 w) ∧ wts.length = m ∧ ss.length = m ∧ 1 ≤ m ∧ m ≤ 8 ∧ ∀ l ys rs H', Same H H' → H' l = some (.lst ys) → All2 (FrL K H') rs ys → (∀ s ∈ rs, FOk 300 s) → rs.length = m → Q (.ref l) H'
theorem ok_law_others {f : Addr} {fd : FuncData} {dV : Value} (F : FunD K "_law_others" "_law_others" s_law_others dV f fd) (T : Txt K mg Ad) (c_law_cell_at : Cal P w K mg base 1 "_law_cell_at" ["_law_script", "_law_k"] [] (sp_law_cell_at K)) (c_law_drawn : Cal P w K mg base 2 "_law_drawn" ["_law_cell"] [] (sp_law_drawn)) (c_law_low : Cal P w K mg base 1 "_law_low" ["_law_top", "_law_bottom"] [] (sp_law_low)) : FnOk P w K mg base (CX1 P w) 3 f fd ["_law_script", "_law_ones", "_law_weights", "_law_many"] (sp_law_others K) := by
  refine F.okn sc_law_others (fun vs H Q E h => ?_) (fun cdv A outer s H vs Q E hr h => ?_)
  · obtain ⟨a, c, b, ns, xs, ss, wts, m, rfl, _⟩ := h; rfl
  obtain ⟨a, c, b, ns, xs, ss, wts, m, rfl, h⟩ := h
  have hu := hr.units
  refine ⟨_, (pss_cons (ps_set (i := 4) sc_law_others.nd rfl (Or.inl rfl) (pe_op op_modU (c_law_cell_at.ev hr (by decide) rfl passF (pa_cons (pv 0) (pa_cons pe_int pa_nil))) pe_int))
      (pss_cons (ps_set (i := 5) sc_law_others.nd rfl (Or.inl rfl) (pe_op op_modU (pe_op op_fdivU (c_law_cell_at.ev hr (by decide) rfl passF (pa_cons (pv 0) (pa_cons pe_int pa_nil))) pe_int) (pv 3)))
      (pss_cons (ps_if (pt_cmpR (op_eqU hu) (pv 4) pe_int (nomark _))
      (pss_one (ps_ret (pe_compC (own := ["_law_k"]) (cs := [(0, "_law_script")]) rfl (pi_range1 rfl T.n_range (pa_cons (pv 3) pa_nil)) (fun _ _ _ _ => (pg_name (i := 0) (show [("_law_k" : Str), ("_law_script" : Str)].Nodup by decide) rfl (Or.inl rfl))) (fun _ _ _ _ => (c_law_drawn.ev hr (by decide) rfl passF (pa_cons (c_law_cell_at.ev hr (by decide) rfl passF (pa_cons (pv 1) (pa_cons (pe_op (op_addK (K := K) rfl) pe_int (pv 0)) pa_nil))) pa_nil))) (hfreeD rfl) (by decide) rfl (by decide)
      (hcs1 rfl rfl rfl))))
      pss_nil)
      (pss_cons (ps_if (pt_cmpR (op_eqU hu) (pv 4) pe_int (nomark _))
      (pss_cons (ps_set (i := 6) sc_law_others.nd rfl (Or.inl rfl) (pe_revr rfl rfl rfl rfl rfl T.n_list bt_list rfl T.n_reversed bt_reversed rfl T.n_range bt_range (pa_cons (pv 3) pa_nil)))
      (pss_one (ps_ret (pe_compC (own := ["_law_k", "_law_j"]) (cs := [(1, "_law_ones"), (2, "_law_weights")]) rfl (pi_enum rfl T.n_enumerate bt_enumerate (pa_cons (pv 6) pa_nil)) (fun _ _ _ _ => (pg_tupK (K := K) (n := 2) rfl rfl (pgs_cons (pg_name (i := 0) (show [("_law_k" : Str), ("_law_j" : Str), ("_law_ones" : Str), ("_law_weights" : Str)].Nodup by decide) rfl (Or.inl rfl) (hf := Or.inr rfl)) (pgs_cons (pg_name (i := 1) (show [("_law_k" : Str), ("_law_j" : Str), ("_law_ones" : Str), ("_law_weights" : Str)].Nodup by decide) rfl (Or.inl rfl) (hf := Or.inr rfl)) pgs_nil)))) (fun _ _ _ _ => (c_law_low.ev hr (by decide) rfl passF (pa_cons (pe_op op_mul0 (pe_ix (ix_UK (K := K) rfl) (pe_ix (ix_UK (K := K) rfl) (pv 2) (pv 1) (fun _ _ => rfl)) pe_int (fun _ _ => rfl)) (pe_ix (ix_UK (K := K) rfl) (pv 3) (pv 0) (fun _ _ => rfl))) (pa_cons (pe_op op_mul0 (pe_ix (ix_UK (K := K) rfl) (pe_ix (ix_UK (K := K) rfl) (pv 2) (pv 1) (fun _ _ => rfl)) pe_int (fun _ _ => rfl)) (pe_ix (ix_UK (K := K) rfl) (pv 3) (pv 1) (fun _ _ => rfl))) pa_nil)))) (hfreeD rfl) (by decide) rfl (by decide)
      (hcs2 rfl rfl rfl rfl rfl rfl)))))
      pss_nil)
      (pss_cons (ps_set (i := 7) sc_law_others.nd rfl (Or.inl rfl) (pe_callTy call_listU rfl T.n_list bt_list (pa_cons (pv 1) pa_nil)))
      (pss_cons (ps_set (i := 8) sc_law_others.nd rfl (Or.inl rfl) (pe_op op_addU pe_int (pe_op op_modU (c_law_cell_at.ev hr (by decide) rfl passF (pa_cons (pv 0) (pa_cons pe_int pa_nil))) (pe_op op_powU pe_int pe_int))))
      (pss_cons (ps_asg (c_law_low.ev hr (by decide) rfl passF (pa_cons (pe_op op_addU (pe_op op_mul0 (pe_ix ix_U (pe_ix ix_U (pv 1) (pv 5) (fun _ _ => rfl)) pe_int (fun _ _ => rfl)) (pv 8)) (pe_op op_mul0 (pe_op op_sub pe_int (pe_op op_mul0 pe_int (pv 4))) (pe_ix ix_U (pe_ix ix_U (pv 1) (pv 5) (fun _ _ => rfl)) pe_int (fun _ _ => rfl)))) (pa_cons (pe_op op_mul0 (pe_ix ix_U (pe_ix ix_U (pv 1) (pv 5) (fun _ _ => rfl)) pe_int (fun _ _ => rfl)) (pv 8)) pa_nil))) (pg_sub (pv 7) (pv 5) set_list))
      (pss_one (ps_ret (pv 7)))))))))), ?_⟩
  obtain ⟨hS, hl, hC, hA, hz, hW, hw, hwl, hsl, h1, h8, k⟩ := h
  have sl : (1000 : Nat) ≤ sizeLine := by decide
  have la := hA.length
  show tSeq _ _ _ [some (.ref a), some (.ref c), some (.ref b), some (.int (m : Int)), none, none, none, none, none] H
  try infer_instance
  refine ⟨a, ns, 1, rfl, hS, hl, by decide, fun c1 => ?_⟩
  try try infer_instance
  refine ⟨by decide, a, ns, 1, rfl, hS, hl, by decide, fun c2 => ?_⟩
  try try infer_instance
  repeat (refine And.intro (by first | exact divOkL (by decide) | exact powOkL (by decide) | exact mulOkL (by decide) | exact mulOkL' (by decide) | exact Int.one_ne_zero | decide) ?_)
  have m0 : (m : Int) ≠ 0 := by omega
  refine ⟨m0, ?_⟩
  have qw := Mth.fm (x := c1) (y := 4) (by decide)
  have qa := Mth.fm (x := c2.fdiv 4) (y := (m : Int)) (by omega)
  obtain ⟨j, hj⟩ := Int.eq_ofNat_of_zero_le qa.1
  rw [hj]
  have jl : j < m := by omega
  generalize c1.fmod 4 = wy at *
  by_cases w0 : wy = 0
  · rw [if_pos (decide_eq_true w0)]
    refine ⟨_, rfl, by omega, by omega, CompJ.range (fun i ys H' => Same H H' ∧ ∃ rs : List Fr2, All2 (FrL K H') rs ys ∧ (∀ s ∈ rs, FB 170 4 s) ∧ rs.length = i) ⟨.refl _, [], rfl, (fun s hs => by cases hs), rfl⟩ ?_ ?_ ?_⟩
    · rintro i ys H' hi ⟨_, rs, hY, _, hlr⟩
      have := hY.length
      omega
    · rintro i ys H2 hi ⟨S2, rs, hY, hb, hlr⟩
      simp only [List.length_singleton, List.replicate, capsAt, List.map_cons, List.map_nil, Option.join_some, y7dy, y4cy, y4dy, y4ey, y6cy, y2ay, y67y, y7ay, y7by, y44y, y2dy, y73y, y89y, y2fy, y39y, y6dy, y2ey, y82y, y23y, y28y, y74y, y6fy, y29y, y75y, y71y, y56y, y8by, y26y, y81y, y6by, y64y, y49y, y63y, y78y, y32y, y47y, y69y, y48y, y6ay, y46y, y68y, y84y, y5fy, y5by, y86y, y88y, y85y, y87y, y25y, y62y, y24y, true_and, if_true, if_false, Bool.not_true, Bool.not_false, Bool.false_eq_true, yby, ydy, yay, ycy, yey, y15y, y17y, y14y, y16y, y18y, y6y, y8y, y5y, y7y, y9y, y1y, y3y, y0y, y2y, y4y, y10y, y12y, yfy, y11y, y13y, y1ay, y1cy, y19y, y1by, y1dy, y1fy, y21y, y1ey, y20y, y22y, y7fy, y77y, y6ey, y30y, y31y, y50y, y5dy, y5ey, y4by, y80y, y83y, y8cy, y79y, y27y, V.int.injEq, V.str.injEq, List.set_cons_zero, List.set_cons_succ, List.getElem?_cons_zero, List.getElem?_cons_succ, Option.some.injEq, exists_eq_left, exists_eq_left', V.bl.injEq, Int.reduceToNat, Int.reducePow, List.append_nil, List.nil_append, List.cons_append, y52y, y54y, y2by, y2cy, y65y, y5ay, y70y, y60y, y61y, y3ay, y3by, y3cy, y43y, y45y, y3ey, y76y, y40y, y3fy, y4fy, y33y, y35y, y37y, y38y, y34y, y36y, y7cy, y58y, y8ay, y3dy, y41y, reduceCtorEq, decide_false, decide_true]
      refine ⟨a, ns, _, rfl, hS.same S2, hl, by omega, fun c3 => ?_⟩
      try try infer_instance
      refine ⟨c3, rfl, fun p s H3 S3 e3 fb => ?_⟩
      refine ⟨S2.trans S3, rs ++ [s], (hY.mono (P' := FrL K H3) fun _ _ z => FrV.sameT S3.t z).append ⟨.ref p, _, rfl, FrV.of e3, rfl⟩, fun s' hs' => ?_, by rw [List.length_append, hlr]; rfl⟩
      rcases List.mem_append.mp hs' with h | h
      · exact hb _ h
      · rw [List.mem_singleton.mp h]; exact fb
    · rintro ys H2 ⟨S2, rs, hY, hb, hlr⟩ p hp
      generalize u3 : upd H2 p _ = H3
      have e3 : H3 p = some (.lst ys) := putE u3
      have S3 : Same H2 H3 := fun q u h => by rw [← u3, upd_ne (ne_of_none h hp)]; exact h
      exact k p ys rs H3 (S2.trans S3) e3 (hY.mono (P' := FrL K H3) fun _ _ z => FrV.sameT S3.t z) (fun s hs => (hb s hs).ok (by decide) (by decide)) (by rw [hlr, Int.toNat_natCast])
  rw [if_neg (by rw [decide_eq_true_eq]; exact w0)]
  by_cases w1 : wy = 1
  · rw [if_pos (decide_eq_true w1)]
    refine ⟨m, rfl, by omega, ?_⟩
    intro tl h_tl
    generalize q_tl : upd H tl _ = H1
    have S1 := newS h_tl q_tl
    have e1 := newE q_tl
    refine ⟨tl, rfl, ⟨_, SqL.of e1⟩, ?_⟩
    have rl : (revL m).length = m := by unfold revL; simp
    refine CompJ.enum (xs := revL m) (fun i ys H' => Same H1 H' ∧ ∃ rs : List Fr2, All2 (FrL K H') rs ys ∧ (∀ s ∈ rs, FOk 300 s) ∧ rs.length = i) ⟨.refl _, [], rfl, (fun s hs => by cases hs), rfl⟩ ?_ ?_ ?_
    · rintro i ys H' hi ⟨S2, rs, hY, _, hlr⟩
      have := hY.length
      exact ⟨SqL.of (S2 _ _ e1), by omega⟩
    · rintro i x ys H2 p hx ⟨S2, rs, hY, hb, hlr⟩ hp
      have hi : i < m := by
        obtain ⟨h, _⟩ := List.getElem?_eq_some_iff.mp hx
        omega
      obtain ⟨q, hq⟩ : ∃ q : Nat, q + i + 1 = m := ⟨m - 1 - i, by omega⟩
      have ex : x = .int (q : Int) := by
        unfold revL at hx
        rw [List.getElem?_map, List.getElem?_range hi] at hx
        have z : V.int ((m : Int) - 1 - (i : Int)) = x := Option.some.inj hx
        rw [← z, show (m : Int) - 1 - (i : Int) = (q : Int) by omega]
      subst ex
      generalize u3 : upd H2 p _ = H3
      have e3 : H3 p = some (.tup [.int i, .int q]) := putE u3
      have S3 : Same H2 H3 := fun b u h => by rw [← u3, upd_ne (ne_of_none h hp)]; exact h
      have S03 : Same H H3 := S1.trans (S2.trans S3)
      have hq2 : q < ss.length := by omega
      have hq3 : q < wts.length := by omega
      have hi3 : i < wts.length := by omega
      obtain ⟨xv, hxv, fx⟩ := hA.get (List.getElem?_eq_getElem hq2)
      have zs_ := hz _ (List.getElem_mem hq2)
      have zq := hw _ (List.getElem_mem hq3)
      have zi := hw _ (List.getElem_mem hi3)
      have hwq : (wts.map V.int)[q]? = some (.int wts[q]) := by rw [List.getElem?_map, List.getElem?_eq_getElem hq3]; rfl
      have hwi : (wts.map V.int)[i]? = some (.int wts[i]) := by rw [List.getElem?_map, List.getElem?_eq_getElem hi3]; rfl
      generalize ss[q] = s at *
      generalize wts[q] = wq at *
      generalize wts[i] = wi at *
      simp only [List.length_cons, List.length_nil, List.replicate, capsAt, List.map_cons, List.map_nil, Option.join_some, y7dy, y4cy, y4dy, y4ey, y6cy, y2ay, y67y, y7ay, y7by, y44y, y2dy, y73y, y89y, y2fy, y39y, y6dy, y2ey, y82y, y23y, y28y, y74y, y6fy, y29y, y75y, y71y, y56y, y8by, y26y, y81y, y6by, y64y, y49y, y63y, y78y, y32y, y47y, y69y, y48y, y6ay, y46y, y68y, y84y, y5fy, y5by, y86y, y88y, y85y, y87y, y25y, y62y, y24y, true_and, if_true, if_false, Bool.not_true, Bool.not_false, Bool.false_eq_true, yby, ydy, yay, ycy, yey, y15y, y17y, y14y, y16y, y18y, y6y, y8y, y5y, y7y, y9y, y1y, y3y, y0y, y2y, y4y, y10y, y12y, yfy, y11y, y13y, y1ay, y1cy, y19y, y1by, y1dy, y1fy, y21y, y1ey, y20y, y22y, y7fy, y77y, y6ey, y30y, y31y, y50y, y5dy, y5ey, y4by, y80y, y83y, y8cy, y79y, y27y, V.int.injEq, V.str.injEq, List.set_cons_zero, List.set_cons_succ, List.getElem?_cons_zero, List.getElem?_cons_succ, Option.some.injEq, exists_eq_left, exists_eq_left', V.bl.injEq, Int.reduceToNat, Int.reducePow, List.append_nil, List.nil_append, List.cons_append, y52y, y54y, y2by, y2cy, y65y, y5ay, y70y, y60y, y61y, y3ay, y3by, y3cy, y43y, y45y, y3ey, y76y, y40y, y3fy, y4fy, y33y, y35y, y37y, y38y, y34y, y36y, y7cy, y58y, y8ay, y3dy, y41y, reduceCtorEq, decide_false, decide_true]
      refine ⟨p, _, rfl, SqT.of e3, rfl, ?_⟩
      try try infer_instance
      refine ixL (i := q) (hC.same S03) hxv (ixF0 (fx.same S03) (ixL (i := i) (hW.same S03) hwi ?_))
      try try infer_instance
      refine ⟨mulOk zs_.s1 zi.2, ?_⟩
      refine ixL (i := q) (hC.same S03) hxv (ixF1 (fx.same S03) (ixL (i := q) (hW.same S03) hwq ?_))
      try try infer_instance
      refine ⟨mulOk zs_.s2 zq.2, ?_⟩
      have b1 := zs_.b1
      have bp := Int.mul_pos (show 0 < s.2 by omega) (show 0 < wq by omega)
      refine ⟨_, _, rfl, by omega, (zs_.s2.mul zq.2).mono (by decide), fun r H4 S4 e4 => ?_⟩
      refine ⟨S2.trans (S3.trans S4), rs ++ [(Mth.top (s.1 * wi) (s.2 * wq), Mth.bot (s.1 * wi) (s.2 * wq))], (hY.mono (P' := FrL K H4) fun _ _ z => FrV.sameT (S3.trans S4).t z).append ⟨.ref r, _, rfl, FrV.of e4, rfl⟩, fun s' hs' => ?_, by rw [List.length_append, hlr]; rfl⟩
      rcases List.mem_append.mp hs' with h | h
      · exact hb _ h
      · rw [List.mem_singleton.mp h]
        exact (FB.low (by omega) (zs_.s1.mul zi.2) (zs_.s2.mul zq.2)).ok (by decide) (by decide)
    · rintro ys H2 ⟨S2, rs, hY, hb, hlr⟩ p hp
      generalize u3 : upd H2 p _ = H3
      have e3 : H3 p = some (.lst ys) := putE u3
      have S3 : Same H2 H3 := fun q u h => by rw [← u3, upd_ne (ne_of_none h hp)]; exact h
      exact k p ys rs H3 (S1.trans (S2.trans S3)) e3 (hY.mono (P' := FrL K H3) fun _ _ z => FrV.sameT S3.t z) hb (by rw [hlr, rl])
  rw [if_neg (by rw [decide_eq_true_eq]; exact w1)]
  refine ⟨c, xs, rfl, .inl hC, ?_⟩
  intro ol h_ol
  generalize q_ol : upd H ol _ = H1
  have S1 := newS h_ol q_ol
  have e1 := newE q_ol
  refine ⟨a, ns, 18, rfl, hS.same S1, hl, by decide, fun c3 => ?_⟩
  try try infer_instance
  repeat (refine And.intro (by first | exact divOkL (by decide) | exact powOkL (by decide) | exact mulOkL (by decide) | exact mulOkL' (by decide) | exact Int.one_ne_zero | decide) ?_)
  have q6 := Mth.fm (x := c3) (y := 1000000) (by decide)
  generalize hbt : 1 + c3.fmod 1000000 = bt
  have zb : Mth.Sz 20 bt := .lit (by omega) (by omega)
  have hj2 : j < ss.length := by omega
  obtain ⟨xv, hxv, fx⟩ := hA.get (List.getElem?_eq_getElem hj2)
  have zs_ := hz _ (List.getElem_mem hj2)
  generalize ss[j] = s at *
  have b1 := zs_.b1
  have bp := Int.mul_pos (show 0 < s.2 by omega) (show 0 < bt by omega)
  have z5 : Mth.Sz 3 (5 - 2 * wy) := .lit (by omega) (by omega)
  refine ixL (i := j) (hC.same S1) hxv (ixF0 (fx.same S1) ?_)
  try try infer_instance
  refine ⟨mulOk zs_.s1 zb, mulOk (n := 3) (m := 3) (.lit (by decide) (by decide)) (.lit (by omega) (by omega)), ?_⟩
  refine ixL (i := j) (hC.same S1) hxv (ixF1 (fx.same S1) ?_)
  try try infer_instance
  refine ⟨mulOk z5 zs_.s2, ?_⟩
  refine ixL (i := j) (hC.same S1) hxv (ixF1 (fx.same S1) ?_)
  try try infer_instance
  refine ⟨mulOk zs_.s2 zb, ?_⟩
  refine ⟨_, _, rfl, by omega, (zs_.s2.mul zb).mono (by decide), fun r H2 S2 e2 => ?_⟩
  try simp only [y7dy, y4cy, y4dy, y4ey, y6cy, y2ay, y67y, y7ay, y7by, y44y, y2dy, y73y, y89y, y2fy, y39y, y6dy, y2ey, y82y, y23y, y28y, y74y, y6fy, y29y, y75y, y71y, y56y, y8by, y26y, y81y, y6by, y64y, y49y, y63y, y78y, y32y, y47y, y69y, y48y, y6ay, y46y, y68y, y84y, y5fy, y5by, y86y, y88y, y85y, y87y, y25y, y62y, y24y, true_and, if_true, if_false, Bool.not_true, Bool.not_false, Bool.false_eq_true, yby, ydy, yay, ycy, yey, y15y, y17y, y14y, y16y, y18y, y6y, y8y, y5y, y7y, y9y, y1y, y3y, y0y, y2y, y4y, y10y, y12y, yfy, y11y, y13y, y1ay, y1cy, y19y, y1by, y1dy, y1fy, y21y, y1ey, y20y, y22y, y7fy, y77y, y6ey, y30y, y31y, y50y, y5dy, y5ey, y4by, y80y, y83y, y8cy, y79y, y27y, V.int.injEq, V.str.injEq, List.set_cons_zero, List.set_cons_succ, List.getElem?_cons_zero, List.getElem?_cons_succ, Option.some.injEq, exists_eq_left, exists_eq_left', V.bl.injEq, Int.reduceToNat, Int.reducePow, List.append_nil, List.nil_append, List.cons_append, y52y, y54y, y2by, y2cy, y65y, y5ay, y70y, y60y, y61y, y3ay, y3by, y3cy, y43y, y45y, y3ey, y76y, y40y, y3fy, y4fy, y33y, y35y, y37y, y38y, y34y, y36y, y7cy, y58y, y8ay, y3dy, y41y, reduceCtorEq, decide_false, decide_true, gSub]
  have e1' := S2 _ _ e1
  refine ⟨ol, xs, _, j, rfl, rfl, e1', (by show ixN xs.length (j : Int) = some j; unfold ixN; rw [if_pos (by omega), if_pos (by omega), Int.toNat_natCast]), ?_⟩
  generalize u3 : upd H2 ol _ = H3
  have e3 := putE u3
  have T3 : SameT H2 H3 := SameT.put u3 e1' rfl
  have S03 : Same H H3 := fun q u h => by rw [← u3, upd_ne (ne_of_none h h_ol)]; exact S2 _ _ (S1 _ _ h)
  refine k ol _ (ss.set j (Mth.top (s.1 * bt + (5 - 2 * wy) * s.2) (s.2 * bt), Mth.bot (s.1 * bt + (5 - 2 * wy) * s.2) (s.2 * bt))) H3 S03 e3 (((hA.mono (P' := FrL K H3) fun _ _ z => FrV.sameT S03.t z)).set (FrV.sameT T3 (FrV.of e2))) (fun s' hs' => ?_) (by rw [List.length_set]; exact hsl)
  rcases List.mem_or_eq_of_mem_set hs' with h | h
  · exact (hz _ h).ok (by decide) (by decide)
  · rw [h]
    exact (FB.low (by omega) ((zs_.s1.mul zb).add ((z5.mul zs_.s2).mono (by decide))) (zs_.s2.mul zb)).ok (by decide) (by decide)
abbrev s_law : Stmt := top 46
theorem sc_law : FnScope ["_law_script", "_law_many", "_law_parts", "_law_weights", "_law_ones", "_law_k", "_law_cell", "_law_mixed", "_law_name", "_law_gaps", "_law_far", "_law_thing", "_law_others_here", "_law_handed", "_law_found", "_law_back"] ["_law_script"] (defScope s_law) := ⟨rfl, rfl, rfl, by decide +kernel, rfl, by decide +kernel, by decide +kernel⟩
def sp_law (K : PySem.W.Frag) : Sp := fun vs H Q E => ∃ (a : Addr) (ns : List Int), vs = [.ref a] ∧ SqL K H a (ns.map V.int) ∧ ns.length ≤ 63 ∧ ∀ H', Q (.bl true) H'
theorem ok_law {f : Addr} {fd : FuncData} {dV : Value} (F : FunD K "law" "law" s_law dV f fd) (T : Txt K mg Ad) (c_law_cell_at : Cal P w K mg base 1 "_law_cell_at" ["_law_script", "_law_k"] [] (sp_law_cell_at K)) (c_law_drawn : Cal P w K mg base 2 "_law_drawn" ["_law_cell"] [] (sp_law_drawn)) (k_Thing : KCal P w K mg base 9 "Thing" Ad.Thing ["self", "parts", "gaps"] (sp_Thinguu_inituu K Ad)) (c_law_others : Cal P w K mg base 3 "_law_others" ["_law_script", "_law_ones", "_law_weights", "_law_many"] [] (sp_law_others K)) (c_fairer : Cal P w K mg base 5 "fairer" ["thing", "ones", "others"] [] (sp_fairer K Ad)) (c_law_fairer : Cal P w K mg base 3 "_law_fairer" ["_law_ones", "_law_others_here", "_law_weights"] [] (sp_law_fairer K)) : FnOk P w K mg base (CX1 P w) 11 f fd ["_law_script"] (sp_law K) := by
  refine F.okn sc_law (fun vs H Q E h => ?_) (fun cdv A outer s H vs Q E hr h => ?_)
  · obtain ⟨a, ns, rfl, _⟩ := h; rfl
  obtain ⟨a, ns, rfl, h⟩ := h
  have hu := hr.units
  refine ⟨_, (pss_cons (ps_set (i := 1) sc_law.nd rfl (Or.inl rfl) (pe_op op_addU pe_int (pe_op op_modU (c_law_cell_at.ev hr (by decide) rfl passF (pa_cons (pv 0) (pa_cons pe_int pa_nil))) pe_int)))
      (pss_cons (ps_set (i := 2) sc_law.nd rfl (Or.inl rfl) (pe_lst pa_nil))
      (pss_cons (ps_set (i := 3) sc_law.nd rfl (Or.inl rfl) (pe_lst pa_nil))
      (pss_cons (ps_set (i := 4) sc_law.nd rfl (Or.inl rfl) (pe_lst pa_nil))
      (pss_cons (ps_for PassesOwn.never rfl (pi_range1 rfl T.n_range (pa_cons (pv 1) pa_nil)) (pg_name (i := 5) sc_law.nd rfl (Or.inl rfl))
      (pss_cons (ps_set (i := 6) sc_law.nd rfl (Or.inl rfl) (c_law_cell_at.ev hr (by decide) rfl passF (pa_cons (pv 0) (pa_cons (pe_op op_addU pe_int (pv 5)) pa_nil))))
      (pss_cons (ps_set (i := 7) sc_law.nd rfl (Or.inl rfl) (pe_op op_fdivU (pe_op op_modU (pe_op op_mul0 (pv 6) pe_int) pe_int) pe_int))
      (pss_cons (ps_expr (pe_bm PySem.F.plainAttrs_list PySem.F.slot_list_append PySem.F.type_list_append mt_append (pv 3) (pa_cons (pe_ix ix_U (pe_lst (pa_cons (pe_op op_addU pe_int (pe_op op_modU (pv 7) pe_int)) (pa_cons (pe_op op_addU pe_int (pe_op op_modU (pv 6) (pe_op op_powU pe_int pe_int))) pa_nil))) (pe_callTy call_int1 rfl T.n_int bt_int (pa_cons (pe_cmpR (op_eqU hu) (pe_op op_modU (pe_op op_fdivU (pv 7) pe_int) pe_int) pe_int (nomark _)) pa_nil)) (fun _ _ => rfl)) pa_nil)))
      (pss_cons (ps_set (i := 8) sc_law.nd rfl (Or.inl rfl) (pe_op op_addU (pe_op op_addU (pe_op op_mul0 pe_str (pe_op op_modU (pe_op op_fdivU (pv 7) pe_int) pe_int)) (pe_ix ix_U pe_str (pv 5) (fun _ _ => rfl))) pe_str))
      (pss_cons (ps_expr (pe_bm PySem.F.plainAttrs_list PySem.F.slot_list_append PySem.F.type_list_append mt_append (pv 2) (pa_cons (pe_tup (pa_cons (pv 8) (pa_cons (pe_ix ix_U pe_str (pv 5) (fun _ _ => rfl)) (pa_cons (pe_ix ix_U pe_str (pe_op op_addU (pv 5) pe_int) (fun _ _ => rfl)) (pa_cons (pe_tup (pa_cons (pe_op op_modU (pv 6) pe_int) (pa_cons pe_int pa_nil))) (pa_cons (pe_tup (pa_cons pe_int (pa_cons pe_int pa_nil))) (pa_cons (pe_ix ix_U (pv 3) (pv 5) (fun _ _ => rfl)) pa_nil))))))) pa_nil)))
      (pss_one (ps_expr (pe_bm PySem.F.plainAttrs_list PySem.F.slot_list_append PySem.F.type_list_append mt_append (pv 4) (pa_cons (c_law_drawn.ev hr (by decide) rfl passF (pa_cons (c_law_cell_at.ev hr (by decide) rfl passF (pa_cons (pv 0) (pa_cons (pe_op op_addU pe_int (pv 5)) pa_nil))) pa_nil)) pa_nil))))))))))
      (pss_cons (ps_set (i := 9) sc_law.nd rfl (Or.inl rfl) (pe_lst pa_nil))
      (pss_cons (ps_for PassesOwn.never rfl (pi_range1 rfl T.n_range (pa_cons (pe_op op_modU (pe_op op_fdivU (c_law_cell_at.ev hr (by decide) rfl passF (pa_cons (pv 0) (pa_cons pe_int pa_nil))) pe_int) pe_int) pa_nil)) (pg_name (i := 5) sc_law.nd rfl (Or.inl rfl))
      (pss_cons (ps_set (i := 10) sc_law.nd rfl (Or.inl rfl) (pe_ix ix_U pe_str (pe_op op_sub (pv 1) (pe_op op_mul0 (pv 5) (pe_op op_sub (pv 1) pe_int))) (fun _ _ => rfl)))
      (pss_one (ps_expr (pe_bm PySem.F.plainAttrs_list PySem.F.slot_list_append PySem.F.type_list_append mt_append (pv 9) (pa_cons (pe_tup (pa_cons (pe_op op_addU (pe_ix ix_U pe_str (pv 5) (fun _ _ => rfl)) pe_str) (pa_cons pe_str (pa_cons (pv 10) (pa_cons (pe_tup (pa_cons (pe_op op_sub pe_int (pv 5)) (pa_cons pe_int pa_nil))) (pa_cons (pe_tup (pa_cons (pe_op op_modU (c_law_cell_at.ev hr (by decide) rfl passF (pa_cons (pv 0) (pa_cons pe_int pa_nil))) pe_int) (pa_cons pe_int pa_nil))) pa_nil)))))) pa_nil))))))
      (pss_cons (ps_set (i := 11) sc_law.nd rfl (Or.inl rfl) (k_Thing.ev hr (by decide) rfl passF (pa_cons (pv 2) (pa_cons (pv 9) pa_nil))))
      (pss_cons (ps_set (i := 12) sc_law.nd rfl (Or.inl rfl) (c_law_others.ev hr (by decide) rfl passF (pa_cons (pv 0) (pa_cons (pv 4) (pa_cons (pv 3) (pa_cons (pv 1) pa_nil))))))
      (pss_cons (ps_set (i := 13) sc_law.nd rfl (Or.inl rfl) (pe_lst (pa_cons (pe_callTy call_listU rfl T.n_list bt_list (pa_cons (pv 4) pa_nil)) (pa_cons (pe_callTy call_listU rfl T.n_list bt_list (pa_cons (pv 12) pa_nil)) pa_nil))))
      (pss_cons (ps_for PassesOwn.never rfl (pi_range1 rfl T.n_range (pa_cons pe_int pa_nil)) (pg_name (i := 5) sc_law.nd rfl (Or.inl rfl))
      (pss_cons (ps_set (i := 14) sc_law.nd rfl (Or.inl rfl) (c_fairer.ev hr (by decide) rfl passF (pa_cons (pv 11) (pa_cons (pe_ix ix_U (pv 13) pe_int (fun _ _ => rfl)) (pa_cons (pe_ix ix_U (pv 13) pe_int (fun _ _ => rfl)) pa_nil)))))
      (pss_cons (ps_set (i := 15) sc_law.nd rfl (Or.inl rfl) (c_fairer.ev hr (by decide) rfl passF (pa_cons (pv 11) (pa_cons (pe_ix ix_U (pv 13) pe_int (fun _ _ => rfl)) (pa_cons (pe_ix ix_U (pv 13) pe_int (fun _ _ => rfl)) pa_nil)))))
      (pss_cons (ps_if (PW.pt (pw_or (pt_not (pt_val (pe_callB call_isinstanceU rfl T.n_isinstance bt_isinstance (pa_cons (pv 14) (pa_cons (pe_bltn (v := .ty "bool") rfl T.n_bool bt_bool rfl) pa_nil))))) (pw_or1 (pt_cmpR (op_neU hu) (pv 14) (c_law_fairer.ev hr (by decide) rfl passF (pa_cons (pv 4) (pa_cons (pv 12) (pa_cons (pv 3) pa_nil)))) (nomark _)))))
      (pss_one (ps_ret pe_bl))
      pss_nil)
      (pss_one (ps_if (PW.pt (pw_or (pt_not (pt_val (pe_callB call_isinstanceU rfl T.n_isinstance bt_isinstance (pa_cons (pv 15) (pa_cons (pe_bltn (v := .ty "bool") rfl T.n_bool bt_bool rfl) pa_nil))))) (pw_or1 (pt_cmpR (op_neU hu) (pv 15) (c_law_fairer.ev hr (by decide) rfl passF (pa_cons (pv 12) (pa_cons (pv 4) (pa_cons (pv 3) pa_nil)))) (nomark _)))))
      (pss_one (ps_ret pe_bl))
      pss_nil))))))
      (pss_one (ps_ret (pe_and (pe_cmpR op_isB (c_fairer.ev hr (by decide) rfl passF (pa_cons (pv 11) (pa_cons (pe_ix ix_U (pv 13) pe_int (fun _ _ => rfl)) (pa_cons (pv 4) pa_nil)))) pe_bl (nomark _)) (pe_one (pe_cmpR (op_eqU hu) (pv 13) (pe_lst (pa_cons (pv 4) (pa_cons (pv 12) pa_nil))) (nomark _))))))))))))))))), ?_⟩
  obtain ⟨hS, hl, k⟩ := h
  have sl : (1000 : Nat) ≤ sizeLine := by decide
  show tSeq _ _ _ [some (.ref a), none, none, none, none, none, none, none, none, none, none, none, none, none, none, none] H
  try infer_instance
  refine ⟨a, ns, 0, rfl, hS, hl, by decide, fun c0 => ?_⟩
  try try infer_instance
  repeat (refine And.intro (by first | exact divOkL (by decide) | exact powOkL (by decide) | exact mulOkL (by decide) | exact mulOkL' (by decide) | exact Int.one_ne_zero | decide) ?_)
  have q8 := Mth.fm (x := c0) (y := 8) (by decide)
  obtain ⟨m, hm⟩ : ∃ m : Nat, 1 + c0.fmod 8 = (m : Int) := Int.eq_ofNat_of_zero_le (by omega)
  rw [hm]
  intro pl h_pl
  generalize q_pl : upd H pl _ = H1
  have S1 := newS h_pl q_pl
  have e1 := newE q_pl
  refine ⟨len0, ?_⟩
  intro wl h_wl
  generalize q_wl : upd H1 wl _ = H2
  have S2 := newS h_wl q_wl
  have e2 := newE q_wl
  refine ⟨len0, ?_⟩
  intro ol h_ol
  generalize q_ol : upd H2 ol _ = H3
  have S3 := newS h_ol q_ol
  have e3 := newE q_ol
  have npw : pl ≠ wl := fun z => by rw [← z, e1] at h_wl; cases h_wl
  have npo : pl ≠ ol := fun z => by rw [← z, S2 _ _ e1] at h_ol; cases h_ol
  have nwo : wl ≠ ol := fun z => by rw [← z, e2] at h_ol; cases h_ol
  have w0 : H wl = none := by
    cases e : H wl with
    | none => rfl
    | some o => rw [S1 _ _ e] at h_wl; cases h_wl
  have o0 : H ol = none := by
    cases e : H ol with
    | none => rfl
    | some o => rw [S2 _ _ (S1 _ _ e)] at h_ol; cases h_ol
  refine ⟨_, rfl, by omega, by omega, ?_⟩
  refine ForR.by (fun i σ H' => ∃ (v5 v6 v7 v8 : Option V) (px ox : List V) (ls : List PD) (ss : List Fr2), σ = [some (.ref a), some (.int (m : Int)), some (.ref pl), some (.ref wl), some (.ref ol), v5, v6, v7, v8, none, none, none, none, none, none, none] ∧ Same H H' ∧ H' pl = some (.lst px) ∧ All2 (PDV K H') ls px ∧ (∀ p ∈ ls, POk p ∧ Mth.Sz 20 p.wt) ∧ PathL ls ∧ NmL ls ∧ H' wl = some (.lst ((ls.map (·.wt)).map V.int)) ∧ H' ol = some (.lst ox) ∧ All2 (FrL K H') ss ox ∧ (∀ s ∈ ss, FB 170 4 s) ∧ ls.length = i ∧ ss.length = i) ⟨none, none, none, none, [], [], [], [], rfl, S1.trans (S2.trans S3), S3 _ _ (S2 _ _ e1), rfl, by simp, fun i p h => by simp at h, fun i p h => by simp at h, S3 _ _ e2, e3, rfl, by simp, rfl, rfl⟩ ?_ ?_
  · rintro i σ H4 hi ⟨v5, v6, v7, v8, px, ox, ls, ss, rfl, S4, ep, hP, hok, hpa, hnm, ew, eo, hO, hfb, hli, hsi⟩
    have lp := hP.length
    have lo := hO.length
    try infer_instance
    refine ⟨a, ns, _, rfl, hS.same S4, hl, by omega, fun c => ?_⟩
    try try infer_instance
    repeat (refine And.intro (by first | exact divOkL (by decide) | exact powOkL (by decide) | exact mulOkL (by decide) | exact mulOkL' (by decide) | exact Int.one_ne_zero | decide) ?_)
    generalize hmx : ((c * 39373).fmod 2147483629).fdiv 37 = mx
    have q5 := Mth.fm (x := mx) (y := 5) (by decide)
    have q6 := Mth.fm (x := c) (y := 1000000) (by decide)
    have q3 := Mth.fm (x := mx.fdiv 1024) (y := 3) (by decide)
    have q7 := Mth.fm (x := c) (y := 7) (by decide)
    refine ⟨.inl ⟨rfl, _, SqL.of ew⟩, ?_⟩
    try try infer_instance
    repeat (refine And.intro (by first | exact divOkL (by decide) | exact powOkL (by decide) | exact mulOkL (by decide) | exact mulOkL' (by decide) | exact Int.one_ne_zero | decide) ?_)
    refine ⟨len2, ?_⟩
    intro lw h_lw
    generalize q_lw : upd H4 lw _ = H5
    have S5 := newS h_lw q_lw
    have e5 := newE q_lw
    repeat (refine And.intro (by first | exact divOkL (by decide) | exact powOkL (by decide) | exact mulOkL (by decide) | exact mulOkL' (by decide) | exact Int.one_ne_zero | decide) ?_)
    obtain ⟨wt, hw1, hw2, hix⟩ : ∃ wt : Int, 1 ≤ wt ∧ Mth.Sz 20 wt ∧ ∀ Q : VK, Q (.int wt) H5 → rIxU K (.ref lw) (.int (if decide ((mx.fdiv 64).fmod 4 = 1) = true then 1 else 0)) H5 Q := by
      by_cases c4 : (mx.fdiv 64).fmod 4 = 1
      · exact ⟨1 + c.fmod 1000000, by omega, .lit (by omega) (by omega), fun Q q => by rw [if_pos (by simpa using c4)]; exact ixL (i := 1) (SqL.of e5) rfl q⟩
      · exact ⟨1 + mx.fmod 5, by omega, .lit (by omega) (by omega), fun Q q => by rw [if_neg (by simpa using c4)]; exact ixL (i := 0) (SqL.of e5) rfl q⟩
    refine .inr ⟨_, rfl, hix _ ?_⟩
    have ew5 := S5 _ _ ew
    have lwt : ((ls.map (·.wt)).map V.int).length = i := by simp [hli]
    refine ⟨wl, _, _, rfl, rfl, ew5, by omega, ?_⟩
    generalize u6 : upd H5 wl _ = H6
    have e6w : H6 wl = some (.lst ((ls.map (·.wt)).map V.int ++ [.int wt])) := putE u6
    have T56 : SameT H5 H6 := SameT.put u6 ew5 rfl
    have fr6 : ∀ b u, b ≠ wl → H5 b = some u → H6 b = some u := fun b u hb h => by rw [← u6, upd_ne hb]; exact h
    repeat (refine And.intro (by first | exact divOkL (by decide) | exact powOkL (by decide) | exact mulOkL (by decide) | exact mulOkL' (by decide) | exact Int.one_ne_zero | decide) ?_)
    obtain ⟨n, hn⟩ := Int.eq_ofNat_of_zero_le q3.1
    have hn2 : n ≤ 2 := by omega
    rw [hn]
    refine ⟨by omega, by omega, by decide, fun z1 hz1 => ?_⟩
    have ez1 : z1.cps.toList = List.replicate n 112 := by
      rw [hz1, Int.toNat_natCast]
      have : (Str.ofString "p").cps.toList = [112] := by decide
      rw [this]
      simp
    have eab : (Str.ofString "abcdefgh").cps.toList = List.range' 97 8 := by decide
    have efg : (Str.ofString "fghijklmn").cps.toList = List.range' 102 9 := by decide
    have eqq : (Str.ofString "q").cps.toList = [113] := by decide
    have m8 : m ≤ 8 := by omega
    have i8 : i < 8 := by omega
    rw [Int.zero_add]
    refine ⟨97 + i, by decide, by rw [eab]; exact atI_nat (by rw [List.getElem?_range' i8, Nat.one_mul]), ?_⟩
    try try infer_instance
    have l1 : z1.length = n := by rw [len_cps', ez1, List.length_replicate]
    have e2s : (z1 ++ (⟨#[97 + i]⟩ : Str)).cps.toList = List.replicate n 112 ++ [97 + i] := by rw [app_cps', ez1]
    have l2s : (z1 ++ (⟨#[97 + i]⟩ : Str)).length = n + 1 := by rw [len_cps', e2s]; simp
    have e3s : (z1 ++ (⟨#[97 + i]⟩ : Str) ++ Str.ofString "q").cps.toList = List.replicate n 112 ++ [97 + i, 113] := by rw [app_cps', e2s, eqq]; simp
    have l3s : (z1 ++ (⟨#[97 + i]⟩ : Str) ++ Str.ofString "q").length = n + 2 := by rw [len_cps', e3s]; simp
    have lq : (Str.ofString "q").length = 1 := by decide
    have lc : (⟨#[97 + i]⟩ : Str).length = 1 := rfl
    refine ⟨by omega, ?_⟩
    try try infer_instance
    refine ⟨by omega, ?_⟩
    generalize hnmz : z1 ++ (⟨#[97 + i]⟩ : Str) ++ Str.ofString "q" = nm at *
    have ep6 : H6 pl = some (.lst px) := fr6 _ _ npw (S5 _ _ ep)
    try try infer_instance
    refine ⟨.inl ⟨rfl, _, SqL.of ep6⟩, ?_⟩
    refine ⟨102 + i, by decide, by rw [efg]; exact atI_nat (by rw [List.getElem?_range' (by omega), Nat.one_mul]), ?_⟩
    refine ⟨102 + (i + 1), by decide, by rw [efg]; exact atI_nat (j := i + 1) (by rw [List.getElem?_range' (by omega), Nat.one_mul]), ?_⟩
    repeat (refine And.intro (by first | exact divOkL (by decide) | exact powOkL (by decide) | exact mulOkL (by decide) | exact mulOkL' (by decide) | exact Int.one_ne_zero | decide) ?_)
    refine ⟨len2, ?_⟩
    intro fz h_fz
    generalize q_fz : upd H6 fz _ = H7
    have S7 := newS h_fz q_fz
    have e7 := newE q_fz
    refine ⟨len2, ?_⟩
    intro fm h_fm
    generalize q_fm : upd H7 fm _ = H8
    have S8 := newS h_fm q_fm
    have e8 := newE q_fm
    have e8w := S8 _ _ (S7 _ _ e6w)
    refine ixL (i := i) (v := .int wt) (SqL.of e8w) (by rw [List.getElem?_append_right (by omega), lwt]; simp) ?_
    refine ⟨by show 6 ≤ sizeLine; omega, ?_⟩
    intro pt h_pt
    generalize q_pt : upd H8 pt _ = H9
    have S9 := newS h_pt q_pt
    have e9 := newE q_pt
    have S69 := S7.trans (S8.trans S9)
    refine ⟨pl, px, _, rfl, rfl, S69 _ _ ep6, by omega, ?_⟩
    generalize u10 : upd H9 pl _ = H10
    have e10 : H10 pl = some (.lst (px ++ [.ref pt])) := putE u10
    have T910 : SameT H9 H10 := SameT.put u10 (S69 _ _ ep6) rfl
    have fr10 : ∀ b u, b ≠ pl → H9 b = some u → H10 b = some u := fun b u hb h => by rw [← u10, upd_ne hb]; exact h
    have eo10 : H10 ol = some (.lst ox) := fr10 _ _ (Ne.symm npo) (S69 _ _ (fr6 _ _ (Ne.symm nwo) (S5 _ _ eo)))
    have S010 : Same H H10 := fun b u h => fr10 _ _ (ne_of_none h h_pl) (S69 _ _ (fr6 _ _ (ne_of_none h w0) (S5 _ _ (S4 _ _ h))))
    try try infer_instance
    refine ⟨.inl ⟨rfl, _, SqL.of eo10⟩, ?_⟩
    refine ⟨a, ns, _, rfl, hS.same S010, hl, by omega, fun c2 => ?_⟩
    try try infer_instance
    refine ⟨c2, rfl, fun pd s H11 S11 e11 fbs => ?_⟩
    try try infer_instance
    refine ⟨ol, ox, _, rfl, rfl, S11 _ _ eo10, by omega, ?_⟩
    generalize u12 : upd H11 ol _ = H12
    have e12 : H12 ol = some (.lst (ox ++ [.ref pd])) := putE u12
    have T12 : SameT H11 H12 := SameT.put u12 (S11 _ _ eo10) rfl
    have fr12 : ∀ b u, b ≠ ol → H11 b = some u → H12 b = some u := fun b u hb h => by rw [← u12, upd_ne hb]; exact h
    have T412 : SameT H4 H12 := S5.t.trans (T56.trans (S69.t.trans (T910.trans (S11.t.trans T12))))
    have T912 : SameT H9 H12 := T910.trans (S11.t.trans T12)
    have hname : nameS nm = true := by
      unfold nameS
      rw [l3s, e3s]
      simp [lowB]
      omega
    refine ⟨_, _, _, _, px ++ [.ref pt], ox ++ [.ref pd], ls ++ [⟨nm, fc i, fc (i + 1), (c.fmod 7, 1), (1, 1), wt⟩], ss ++ [s], rfl, fun b u h => fr12 _ _ (ne_of_none h o0) (S11 _ _ (S010 _ _ h)), fr12 _ _ npo (S11 _ _ e10), ?_, ?_, ?_, ?_, ?_, e12, ?_, ?_, by simp [hli], by simp [hsi]⟩
    · exact (hP.mono (P' := PDV K H12) fun _ _ z => z.sameT T412).append (.one ⟨pt, _, _, rfl, SqT.of (T912 _ _ rfl e9), FrV.of (T912 _ _ rfl (S9 _ _ (S8 _ _ e7))), FrV.of (T912 _ _ rfl (S9 _ _ e8))⟩)
    · intro p hp
      rcases List.mem_append.mp hp with h' | h'
      · exact hok p h'
      · rw [List.mem_singleton.mp h']
        exact ⟨⟨hname, fc_name (by omega), fc_name (by omega), fun z => by have := fc_inj z; omega, one_ok (.lit (by omega) (by omega)), one_ok (.lit (by decide) (by decide)), by show (0 : Int) ≤ 1; decide, hw1, hw2.mono (by decide)⟩, hw2⟩
    · intro j p hj
      by_cases cj : j < ls.length
      · rw [List.getElem?_append_left cj] at hj
        exact hpa j p hj
      · have lj := (List.getElem?_eq_some_iff.mp hj).1
        rw [List.length_append, List.length_singleton] at lj
        have ej : j = ls.length := by omega
        subst ej
        rw [List.getElem?_append_right (Nat.le_refl _), Nat.sub_self] at hj
        cases hj
        rw [hli]
        exact ⟨rfl, rfl⟩
    · intro j p hj
      by_cases cj : j < ls.length
      · rw [List.getElem?_append_left cj] at hj
        exact hnm j p hj
      · have lj := (List.getElem?_eq_some_iff.mp hj).1
        rw [List.length_append, List.length_singleton] at lj
        have ej : j = ls.length := by omega
        subst ej
        rw [List.getElem?_append_right (Nat.le_refl _), Nat.sub_self] at hj
        cases hj
        rw [hli]
        exact ⟨n, e3s⟩
    · rw [List.map_append, List.map_append]
      exact fr12 _ _ nwo (S11 _ _ (fr10 _ _ (Ne.symm npw) (S9 _ _ e8w)))
    · exact (hO.mono (P' := FrL K H12) fun _ _ z => FrV.sameT T412 z).append (.one (FrV.sameT T12 (FrV.of e11)))
    · intro s' hs'
      rcases List.mem_append.mp hs' with h' | h'
      · exact hfb s' h'
      · rw [List.mem_singleton.mp h']
        exact fbs
  · rintro σ H4 ⟨v5, v6, v7, v8, px, ox, ls, ss, rfl, S4, ep, hP, hok, hpa, hnm, ew, eo, hO, hfb, hli, hsi⟩
    have lp := hP.length
    have lo := hO.length
    have m8 : m ≤ 8 := by omega
    have hlm : ls.length = m := by rw [hli]; simp
    have hsm : ss.length = m := by rw [hsi]; simp
    try infer_instance
    refine ⟨len0, ?_⟩
    intro gl h_gl
    generalize q_gl : upd H4 gl _ = H5
    have S5 := newS h_gl q_gl
    have e5 := newE q_gl
    refine ⟨a, ns, 0, rfl, (hS.same S4).same S5, hl, by decide, fun c3 => ?_⟩
    try try infer_instance
    repeat (refine And.intro (by first | exact divOkL (by decide) | exact powOkL (by decide) | exact mulOkL (by decide) | exact mulOkL' (by decide) | exact Int.one_ne_zero | decide) ?_)
    have q3 := Mth.fm (x := c3.fdiv 8) (y := 3) (by decide)
    refine ⟨_, rfl, by omega, by omega, ?_⟩
    refine ForR.by (fun i σ H' => ∃ (v5 v10 : Option V) (gx : List V) (gs : List GD), σ = [some (.ref a), some (.int (m : Int)), some (.ref pl), some (.ref wl), some (.ref ol), v5, v6, v7, v8, some (.ref gl), v10, none, none, none, none, none] ∧ Same H4 H' ∧ H' gl = some (.lst gx) ∧ All2 (fun (g : GD) x => TV K H' g.td x) gs gx ∧ (∀ g ∈ gs, TOk g.td) ∧ (∀ (j : Nat) (g : GD), gs[j]? = some g → g.nm.cps.toList = [103 + j, 97, 112]) ∧ (∀ g ∈ gs, g.st = fc 0 ∧ ∃ j, j ≤ m ∧ g.en = fc j) ∧ gs.length = i) ⟨v5, none, [], [], rfl, S5, e5, rfl, by simp, by simp, by simp, rfl⟩ ?_ ?_
    · rintro i σ H6 hi ⟨v5, v10, gx, gs, rfl, S6, e6, hG, hT, hN, hC, hgi⟩
      have lg := hG.length
      have efg : (Str.ofString "fghijklmn").cps.toList = List.range' 102 9 := by decide
      have egh : (Str.ofString "gh").cps.toList = List.range' 103 2 := by decide
      have eap : (Str.ofString "ap").cps.toList = [97, 112] := by decide
      have i2 : i < 2 := by omega
      obtain ⟨j, hj, hj1, hjm⟩ : ∃ j : Nat, (m : Int) - (0 + (i : Int)) * ((m : Int) - 1) = (j : Int) ∧ 1 ≤ j ∧ j ≤ m := by
        match i, i2 with
        | 0, _ => exact ⟨m, by omega, by omega, Nat.le_refl _⟩
        | 1, _ => exact ⟨1, by omega, Nat.le_refl _, by omega⟩
      try infer_instance
      refine ⟨mulOk (m := 8) (n := 8) (.lit (by omega) (by omega)) (.lit (by omega) (by omega)), ?_⟩
      rw [hj]
      refine ⟨102 + j, by decide, by rw [efg]; exact atI_nat (by rw [List.getElem?_range' (by omega), Nat.one_mul]), ?_⟩
      try try infer_instance
      refine ⟨.inl ⟨rfl, _, SqL.of e6⟩, ?_⟩
      rw [Int.zero_add]
      refine ⟨103 + i, by decide, by rw [egh]; exact atI_nat (by rw [List.getElem?_range' i2, Nat.one_mul]), ?_⟩
      try try infer_instance
      have lap : (Str.ofString "ap").length = 2 := by decide
      have lc : (⟨#[103 + i]⟩ : Str).length = 1 := rfl
      refine ⟨by omega, ?_⟩
      have en : ((⟨#[103 + i]⟩ : Str) ++ Str.ofString "ap").cps.toList = [103 + i, 97, 112] := by rw [app_cps', eap]; rfl
      have ln : ((⟨#[103 + i]⟩ : Str) ++ Str.ofString "ap").length = 3 := by rw [len_cps', en]; rfl
      generalize hnm : (⟨#[103 + i]⟩ : Str) ++ Str.ofString "ap" = nm at *
      try try infer_instance
      refine ⟨len2, ?_⟩
      intro f1 h_f1
      generalize q_f1 : upd H6 f1 _ = H7
      have S7 := newS h_f1 q_f1
      have g7 := newE q_f1
      refine ⟨a, ns, 2, rfl, ((hS.same S4).same S6).same S7, hl, by decide, fun c4 => ?_⟩
      try try infer_instance
      repeat (refine And.intro (by first | exact divOkL (by decide) | exact powOkL (by decide) | exact mulOkL (by decide) | exact mulOkL' (by decide) | exact Int.one_ne_zero | decide) ?_)
      have q9 := Mth.fm (x := c4) (y := 9) (by decide)
      refine ⟨len2, ?_⟩
      intro f2 h_f2
      generalize q_f2 : upd H7 f2 _ = H8
      have S8 := newS h_f2 q_f2
      have g8 := newE q_f2
      refine ⟨len5, ?_⟩
      intro gt h_gt
      generalize q_gt : upd H8 gt _ = H9
      have S9 := newS h_gt q_gt
      have g9 := newE q_gt
      have S69 := S7.trans (S8.trans S9)
      refine ⟨gl, gx, _, rfl, rfl, S69 _ _ e6, by omega, ?_⟩
      generalize u10 : upd H9 gl _ = H10
      have e10 : H10 gl = some (.lst (gx ++ [.ref gt])) := putE u10
      have T10 : SameT H9 H10 := SameT.put u10 (S69 _ _ e6) rfl
      have ef : Str.ofString "f" = fc 0 := by decide
      have hname : nameS nm = true := by
        unfold nameS
        rw [ln, en]
        simp [lowB]
        omega
      refine ⟨_, _, gx ++ [.ref gt], gs ++ [⟨nm, fc 0, fc j, (0 - (i : Int), 1), (c4.fmod 9, 1)⟩], rfl, fun b u h => by rw [← u10, upd_ne (ne_of_none h h_gl)]; exact S69 _ _ (S6 _ _ h), e10, ?_, ?_, ?_, ?_, by simp [hgi]⟩
      · exact (hG.mono (P' := fun (g : GD) x => TV K H10 g.td x) fun _ _ z => (z.sameT S69.t).sameT T10).append (.one ⟨gt, _, _, rfl, SqT.of (T10 _ _ rfl (by rw [g9, ef]; rfl)), FrV.of (T10 _ _ rfl (S9 _ _ (S8 _ _ g7))), FrV.of (T10 _ _ rfl (S9 _ _ g8))⟩)
      · intro g hg
        rcases List.mem_append.mp hg with h' | h'
        · exact hT g h'
        · rw [List.mem_singleton.mp h']
          refine ⟨hname, fc_name (by omega), fc_name (by omega), fun z => by have := fc_inj z; omega, fun u hu => ?_, fun u hu => ?_, ?_⟩
          · cases hu
            exact one_ok (.lit (by omega) (by omega))
          · cases hu
            exact one_ok (.lit (by omega) (by omega))
          · simp [GD.td, bD, frD, lessD]
            omega
      · intro j' g hj'
        by_cases cj : j' < gs.length
        · rw [List.getElem?_append_left cj] at hj'
          exact hN j' g hj'
        · have lj := (List.getElem?_eq_some_iff.mp hj').1
          rw [List.length_append, List.length_singleton] at lj
          have ej : j' = gs.length := by omega
          subst ej
          rw [List.getElem?_append_right (Nat.le_refl _), Nat.sub_self] at hj'
          cases hj'
          rw [hgi]
          exact en
      · intro g hg
        rcases List.mem_append.mp hg with h' | h'
        · exact hC g h'
        · rw [List.mem_singleton.mp h']
          exact ⟨rfl, j, hjm, rfl⟩
    · rintro σ H6 ⟨v5, v10, gx, gs, rfl, S6, e6, hG, hT, hN, hC, hgi⟩
      have lg := hG.length
      have hg2 : gs.length ≤ 2 := by omega
      have ndg := gaps_nd hg2 hN
      have cong : ∀ g ∈ gs, Conn ls g.st g.en := fun g hg => by
        obtain ⟨h1, j, hj, h2⟩ := hC g hg
        rw [h1, h2]
        exact path_conn hpa j (by omega)
      have hP6 := hP.mono (P' := PDV K H6) fun _ _ z => z.sameT S6.t
      have hO6 := hO.mono (P' := FrL K H6) fun _ _ z => FrV.sameT S6.t z
      try infer_instance
      intro x dx hx hdx hne
      have Sm : Same H6 (upd (upd H6 dx (.own x)) x (.ins Ad.Thing dx [])) := fun b u q => by rw [upd_ne (ne_of_none q hx), upd_ne (ne_of_none q hdx)]; exact q
      refine ⟨x, dx, pl, gl, px, gx, ls.map Sum.inl, gs.map Sum.inl, H6, rfl, upd_same, hx, Sm, SqL.of (S6 _ _ ep), hP6.map fun p hp x z => ⟨z, (hok p hp).1⟩, SqL.of e6, hG.map fun g hg x z => ⟨z, hT g hg⟩, by rw [List.length_map]; omega, by rw [List.length_map]; omega, ?_⟩
      rw [parts_path ls [] (by rw [List.nil_append]; exact hpa) (by rw [List.nil_append]; exact hnm), List.nil_append]
      dsimp only
      rw [gaps_ok gs [] (by rw [List.nil_append]; exact ndg) cong, List.nil_append]
      dsimp only
      intro H7 S7 tk7
      refine ⟨rfl, ?_⟩
      try try infer_instance
      have S47 := S6.trans S7
      have ew7 := S47 _ _ ew
      have eo7 := S47 _ _ eo
      have hO7 := hO6.mono (P' := FrL K H7) fun _ _ z => FrV.sameT S7.t z
      have hw : ∀ w ∈ ls.map (·.wt), 1 ≤ w ∧ Mth.Sz 20 w := fun w hw => by
        obtain ⟨p, hp, rfl⟩ := List.mem_map.mp hw
        exact ⟨(hok p hp).1.w, (hok p hp).2⟩
      have hwn : (ls.map (·.wt)).length = m := by rw [List.length_map, hlm]
      refine ⟨a, ol, wl, ns, ox, ss, ls.map (·.wt), m, rfl, (hS.same S4).same S47, hl, SqL.of eo7, hO7, hfb, SqL.of ew7, hw, hwn, hsm, by omega, m8, fun l2 ys rs H8 S8 e8 hR hro hrl => ?_⟩
      try try infer_instance
      have eo8 := S8 _ _ eo7
      have hO8 := hO7.mono (P' := FrL K H8) fun _ _ z => FrV.sameT S8.t z
      refine ⟨ol, ox, rfl, .inl (SqL.of eo8), ?_⟩
      intro h1 h_h1
      generalize q_h1 : upd H8 h1 _ = H9
      have S9 := newS h_h1 q_h1
      have e9 := newE q_h1
      refine ⟨l2, ys, rfl, .inl (SqL.of (S9 _ _ e8)), ?_⟩
      intro h2 h_h2
      generalize q_h2 : upd H9 h2 _ = H10
      have S10 := newS h_h2 q_h2
      have e10 := newE q_h2
      refine ⟨len2, ?_⟩
      intro hd h_hd
      generalize q_hd : upd H10 hd _ = H11
      have S11 := newS h_hd q_hd
      have e11 := newE q_hd
      have S811 := S9.trans (S10.trans S11)
      have tk11 := tk7.same (S8.trans S811)
      have hs3 : ∀ s ∈ ss, FOk 300 s := fun s hs => (hfb s hs).ok (by decide) (by decide)
      have hok' : ∀ p ∈ ls, POk p := fun p hp => (hok p hp).1
      have hw' : ∀ w ∈ ls.map (·.wt), 1 ≤ w ∧ Mth.Sz 200 w := fun w h => ⟨(hw w h).1, (hw w h).2.mono (by decide)⟩
      have e9' := S11 _ _ (S10 _ _ e9)
      have e10' := S11 _ _ e10
      have hO11 := hO8.mono (P' := FrL K H11) fun _ _ z => FrV.sameT S811.t z
      have hR11 := hR.mono (P' := FrL K H11) fun _ _ z => FrV.sameT S811.t z
      have eo11 := S811 _ _ eo8
      have e811 := S811 _ _ e8
      have ew11 := S811 _ _ (S8 _ _ ew7)
      try try infer_instance
      refine ⟨_, rfl, by omega, by omega, ?_⟩
      refine ForR.by (fun i σ H' => ∃ (v5 v14 v15 : Option V), σ = [some (.ref a), some (.int (m : Int)), some (.ref pl), some (.ref wl), some (.ref ol), v5, v6, v7, v8, some (.ref gl), v10, some (.ref x), some (.ref l2), some (.ref hd), v14, v15] ∧ Same H11 H') ⟨v5, none, none, rfl, Same.refl _⟩ ?_ ?_
      · rintro i σ H12 hi ⟨v5, v14, v15, rfl, S12⟩
        try infer_instance
        refine ixL (i := 0) (SqL.of (S12 _ _ e11)) rfl ?_
        refine ixL (i := 1) (SqL.of (S12 _ _ e11)) rfl ?_
        refine ⟨x, h1, h2, ls, gs, ox, ys, ss, rs, rfl, tk11.same S12, hok', by omega, SqL.of (S12 _ _ e9'), hO11.mono (P' := FrL K H12) (fun _ _ z => FrV.sameT S12.t z), hs3, by omega, SqL.of (S12 _ _ e10'), hR11.mono (P' := FrL K H12) (fun _ _ z => FrV.sameT S12.t z), hro, by omega, fun H13 S13 => ?_⟩
        try try infer_instance
        have S1113 := S12.trans S13
        refine ixL (i := 1) (SqL.of (S1113 _ _ e11)) rfl ?_
        refine ixL (i := 0) (SqL.of (S1113 _ _ e11)) rfl ?_
        refine ⟨x, h2, h1, ls, gs, ys, ox, rs, ss, rfl, tk11.same S1113, hok', by omega, SqL.of (S1113 _ _ e10'), hR11.mono (P' := FrL K H13) (fun _ _ z => FrV.sameT S1113.t z), hro, by omega, SqL.of (S1113 _ _ e9'), hO11.mono (P' := FrL K H13) (fun _ _ z => FrV.sameT S1113.t z), hs3, by omega, fun H14 S14 => ?_⟩
        try try infer_instance
        have S1114 := S1113.trans S14
        refine ⟨ol, l2, wl, ox, ys, ss, rs, ls.map (·.wt), rfl, SqL.of (S1114 _ _ eo11), hO11.mono (P' := FrL K H14) (fun _ _ z => FrV.sameT S1114.t z), hs3, SqL.of (S1114 _ _ e811), hR11.mono (P' := FrL K H14) (fun _ _ z => FrV.sameT S1114.t z), hro, SqL.of (S1114 _ _ ew11), hw', by omega, by omega, by omega, fun H15 S15 => ?_⟩
        try try infer_instance
        have S1115 := S1114.trans S15
        refine ⟨l2, ol, wl, ys, ox, rs, ss, ls.map (·.wt), rfl, SqL.of (S1115 _ _ e811), hR11.mono (P' := FrL K H15) (fun _ _ z => FrV.sameT S1115.t z), hro, SqL.of (S1115 _ _ eo11), hO11.mono (P' := FrL K H15) (fun _ _ z => FrV.sameT S1115.t z), hs3, SqL.of (S1115 _ _ ew11), hw', by omega, by omega, by omega, fun H16 S16 => ?_⟩
        try try infer_instance
        exact ⟨_, _, _, rfl, S1115.trans S16⟩
      · rintro σ H12 ⟨v5, v14, v15, rfl, S12⟩
        try infer_instance
        refine ixL (i := 0) (SqL.of (S12 _ _ e11)) rfl ?_
        refine ⟨x, h1, ol, ls, gs, ox, ox, ss, ss, rfl, tk11.same S12, hok', by omega, SqL.of (S12 _ _ e9'), hO11.mono (P' := FrL K H12) (fun _ _ z => FrV.sameT S12.t z), hs3, by omega, SqL.of (S12 _ _ eo11), hO11.mono (P' := FrL K H12) (fun _ _ z => FrV.sameT S12.t z), hs3, by omega, fun H13 S13 => ?_⟩
        rw [fairB_self]
        try try infer_instance
        refine ⟨len2, ?_⟩
        intro nl h_nl
        generalize q_nl : upd H13 nl _ = H14
        have S14 := newS h_nl q_nl
        have e14 := newE q_nl
        have S1114 := S12.trans (S13.trans S14)
        have hO14 := hO11.mono (P' := FrL K H14) fun _ _ z => FrV.sameT S1114.t z
        have hR14 := hR11.mono (P' := FrL K H14) fun _ _ z => FrV.sameT S1114.t z
        have rO : RepL K H14 (ss.map frD) ox := hO14.repL fun _ _ z => FrV.rep z
        have rR : RepL K H14 (rs.map frD) ys := hR14.repL fun _ _ z => FrV.rep z
        have dO : depL (ss.map frD) ≤ 10 := depL_map (n := 10) (fun a => by simp [frD, depD, depL]) ss
        have dR : depL (rs.map frD) ≤ 10 := depL_map (n := 10) (fun a => by simp [frD, depD, depL]) rs
        refine ⟨.lst [.lst (ss.map frD), .lst (rs.map frD)], .lst [.lst (ss.map frD), .lst (rs.map frD)], ?_, ?_, ?_, rfl, ?_⟩
        · simp only [Rep, RepL]
          exact ⟨hd, _, rfl, SqL.of (S1114 _ _ e11), _, _, rfl, ⟨h1, ox, rfl, SqL.of (S1114 _ _ e9'), rO⟩, _, _, rfl, ⟨h2, ys, rfl, SqL.of (S1114 _ _ e10'), rR⟩, rfl⟩
        · simp only [Rep, RepL]
          exact ⟨nl, _, rfl, SqL.of e14, _, _, rfl, ⟨ol, ox, rfl, SqL.of (S1114 _ _ eo11), rO⟩, _, _, rfl, ⟨l2, ys, rfl, SqL.of (S1114 _ _ e811), rR⟩, rfl⟩
        · simp only [depD, depL]
          omega
        · rw [eqD_refl]
          exact k _
end
theorem all_mk {l : PySem.W.OpenLaw} {w : World} {K : PySem.W.Frag} {h : Heap} {mg : Str → Option Value} {fa : Addr} {NoNumber Twice NoPart NoGap InRing Apart Part Gap Joints Thing : Addr} (X : K.In h) (G : h.Ns mainGlobals mg) (hfa : mg "law" = some (.ref fa))
    {f1 : Addr} {od1 an1 : Option Addr} {sl1 : Array (Option Value)} {oc1 kV1 dc1 pm1 cd1 ct1 : Value}
    {f2 : Addr} {od2 an2 : Option Addr} {sl2 : Array (Option Value)} {oc2 kV2 dc2 pm2 cd2 ct2 : Value}
    {f3 : Addr} {od3 an3 : Option Addr} {sl3 : Array (Option Value)} {oc3 kV3 dc3 pm3 cd3 ct3 : Value}
    {f4 : Addr} {od4 an4 : Option Addr} {sl4 : Array (Option Value)} {oc4 kV4 dc4 pm4 cd4 ct4 : Value}
    {f5 : Addr} {od5 an5 : Option Addr} {sl5 : Array (Option Value)} {oc5 kV5 dc5 pm5 cd5 ct5 : Value}
    {f6 : Addr} {od6 an6 : Option Addr} {sl6 : Array (Option Value)} {oc6 kV6 dc6 pm6 cd6 ct6 : Value}
    {f7 : Addr} {od7 an7 : Option Addr} {sl7 : Array (Option Value)} {oc7 kV7 dc7 pm7 cd7 ct7 : Value}
    {f8 : Addr} {od8 an8 : Option Addr} {sl8 : Array (Option Value)} {oc8 kV8 dc8 pm8 cd8 ct8 : Value}
    {f9 : Addr} {od9 an9 : Option Addr} {sl9 : Array (Option Value)} {oc9 kV9 dc9 pm9 cd9 ct9 : Value}
    {f10 : Addr} {od10 an10 : Option Addr} {sl10 : Array (Option Value)} {oc10 kV10 dc10 pm10 cd10 ct10 : Value}
    {f11 : Addr} {od11 an11 : Option Addr} {sl11 : Array (Option Value)} {oc11 kV11 dc11 pm11 cd11 ct11 : Value}
    {f12 : Addr} {od12 an12 : Option Addr} {sl12 : Array (Option Value)} {oc12 kV12 dc12 pm12 cd12 ct12 : Value}
    {f13 : Addr} {od13 an13 : Option Addr} {sl13 : Array (Option Value)} {oc13 kV13 dc13 pm13 cd13 ct13 : Value}
    {f14 : Addr} {od14 an14 : Option Addr} {sl14 : Array (Option Value)} {oc14 kV14 dc14 pm14 cd14 ct14 : Value}
    {f15 : Addr} {od15 an15 : Option Addr} {sl15 : Array (Option Value)} {oc15 kV15 dc15 pm15 cd15 ct15 : Value}
    {f16 : Addr} {od16 an16 : Option Addr} {sl16 : Array (Option Value)} {oc16 kV16 dc16 pm16 cd16 ct16 : Value}
    {f17 : Addr} {od17 an17 : Option Addr} {sl17 : Array (Option Value)} {oc17 kV17 dc17 pm17 cd17 ct17 : Value}
    {f18 : Addr} {od18 an18 : Option Addr} {sl18 : Array (Option Value)} {oc18 kV18 dc18 pm18 cd18 ct18 : Value}
    {f19 : Addr} {od19 an19 : Option Addr} {sl19 : Array (Option Value)} {oc19 kV19 dc19 pm19 cd19 ct19 : Value}
    {f20 : Addr} {od20 an20 : Option Addr} {sl20 : Array (Option Value)} {oc20 kV20 dc20 pm20 cd20 ct20 : Value}
    {f21 : Addr} {od21 an21 : Option Addr} {sl21 : Array (Option Value)} {oc21 kV21 dc21 pm21 cd21 ct21 : Value}
    {f22 : Addr} {od22 an22 : Option Addr} {sl22 : Array (Option Value)} {oc22 kV22 dc22 pm22 cd22 ct22 : Value}
    {f23 : Addr} {od23 an23 : Option Addr} {sl23 : Array (Option Value)} {oc23 kV23 dc23 pm23 cd23 ct23 : Value}
    {f24 : Addr} {od24 an24 : Option Addr} {sl24 : Array (Option Value)} {oc24 kV24 dc24 pm24 cd24 ct24 : Value}
    {f25 : Addr} {od25 an25 : Option Addr} {sl25 : Array (Option Value)} {oc25 kV25 dc25 pm25 cd25 ct25 : Value}
    {f26 : Addr} {od26 an26 : Option Addr} {sl26 : Array (Option Value)} {oc26 kV26 dc26 pm26 cd26 ct26 : Value}
    {f27 : Addr} {od27 an27 : Option Addr} {sl27 : Array (Option Value)} {oc27 kV27 dc27 pm27 cd27 ct27 : Value}
    {f28 : Addr} {od28 an28 : Option Addr} {sl28 : Array (Option Value)} {oc28 kV28 dc28 pm28 cd28 ct28 : Value}
    {f29 : Addr} {od29 an29 : Option Addr} {sl29 : Array (Option Value)} {oc29 kV29 dc29 pm29 cd29 ct29 : Value}
    {f30 : Addr} {od30 an30 : Option Addr} {sl30 : Array (Option Value)} {oc30 kV30 dc30 pm30 cd30 ct30 : Value}
    {f31 : Addr} {od31 an31 : Option Addr} {sl31 : Array (Option Value)} {oc31 kV31 dc31 pm31 cd31 ct31 : Value}
    {f32 : Addr} {od32 an32 : Option Addr} {sl32 : Array (Option Value)} {oc32 kV32 dc32 pm32 cd32 ct32 : Value}
    {f33 : Addr} {od33 an33 : Option Addr} {sl33 : Array (Option Value)} {oc33 kV33 dc33 pm33 cd33 ct33 : Value}
    {f34 : Addr} {od34 an34 : Option Addr} {sl34 : Array (Option Value)} {oc34 kV34 dc34 pm34 cd34 ct34 : Value}
    {ct_SMALL_LETTERS : Tok}
    {ct_LONGEST_NAME : Tok}
    {ZERO : Addr} {cd_ZERO : Option Addr} {cn_ZERO : Nat} {cs_ZERO : Array (Option Value)} {ct0_ZERO ct1_ZERO : Tok}
    (g_NoNumber : PySem.W.nsIn K mainGlobals "NoNumber" = some (some (.ref NoNumber)))
    (g_Twice : PySem.W.nsIn K mainGlobals "Twice" = some (some (.ref Twice)))
    (g_NoPart : PySem.W.nsIn K mainGlobals "NoPart" = some (some (.ref NoPart)))
    (g_NoGap : PySem.W.nsIn K mainGlobals "NoGap" = some (some (.ref NoGap)))
    (g_InRing : PySem.W.nsIn K mainGlobals "InRing" = some (some (.ref InRing)))
    (g_Apart : PySem.W.nsIn K mainGlobals "Apart" = some (some (.ref Apart)))
    (g_Part : PySem.W.nsIn K mainGlobals "Part" = some (some (.ref Part)))
    (g_Gap : PySem.W.nsIn K mainGlobals "Gap" = some (some (.ref Gap)))
    (g_Joints : PySem.W.nsIn K mainGlobals "Joints" = some (some (.ref Joints)))
    (g_Thing : PySem.W.nsIn K mainGlobals "Thing" = some (some (.ref Thing)))
    (a1 : PySem.W.nsIn K mainGlobals "common_divisor" = some (some (.ref f1))) (l1 : K.lookup f1 = some ⟨oc1, od1, .func (PySem.W.fnOf "common_divisor" "common_divisor" (defArgs s_common_divisor) (defBody s_common_divisor) (defScope s_common_divisor) .none kV1 dc1 pm1 an1 cd1 ct1), sl1⟩) (c1 : PySem.W.codeIn K cd1 "common_divisor" = true) (k1 : PySem.W.keepIn K (.ref f1) = true)
    (a2 : PySem.W.nsIn K mainGlobals "times" = some (some (.ref f2))) (l2 : K.lookup f2 = some ⟨oc2, od2, .func (PySem.W.fnOf "times" "times" (defArgs s_times) (defBody s_times) (defScope s_times) .none kV2 dc2 pm2 an2 cd2 ct2), sl2⟩) (c2 : PySem.W.codeIn K cd2 "times" = true) (k2 : PySem.W.keepIn K (.ref f2) = true)
    (a3 : PySem.W.nsIn K mainGlobals "over" = some (some (.ref f3))) (l3 : K.lookup f3 = some ⟨oc3, od3, .func (PySem.W.fnOf "over" "over" (defArgs s_over) (defBody s_over) (defScope s_over) .none kV3 dc3 pm3 an3 cd3 ct3), sl3⟩) (c3 : PySem.W.codeIn K cd3 "over" = true) (k3 : PySem.W.keepIn K (.ref f3) = true)
    (a4 : PySem.W.nsIn K mainGlobals "under" = some (some (.ref f4))) (l4 : K.lookup f4 = some ⟨oc4, od4, .func (PySem.W.fnOf "under" "under" (defArgs s_under) (defBody s_under) (defScope s_under) .none kV4 dc4 pm4 an4 cd4 ct4), sl4⟩) (c4 : PySem.W.codeIn K cd4 "under" = true) (k4 : PySem.W.keepIn K (.ref f4) = true)
    (a5 : PySem.W.nsIn K mainGlobals "is_name" = some (some (.ref f5))) (l5 : K.lookup f5 = some ⟨oc5, od5, .func (PySem.W.fnOf "is_name" "is_name" (defArgs s_is_name) (defBody s_is_name) (defScope s_is_name) .none kV5 dc5 pm5 an5 cd5 ct5), sl5⟩) (c5 : PySem.W.codeIn K cd5 "is_name" = true) (k5 : PySem.W.keepIn K (.ref f5) = true)
    (a6 : PySem.W.nsIn K mainGlobals "is_whole" = some (some (.ref f6))) (l6 : K.lookup f6 = some ⟨oc6, od6, .func (PySem.W.fnOf "is_whole" "is_whole" (defArgs s_is_whole) (defBody s_is_whole) (defScope s_is_whole) .none kV6 dc6 pm6 an6 cd6 ct6), sl6⟩) (c6 : PySem.W.codeIn K cd6 "is_whole" = true) (k6 : PySem.W.keepIn K (.ref f6) = true)
    (a7 : PySem.W.nsIn K mainGlobals "is_fraction" = some (some (.ref f7))) (l7 : K.lookup f7 = some ⟨oc7, od7, .func (PySem.W.fnOf "is_fraction" "is_fraction" (defArgs s_is_fraction) (defBody s_is_fraction) (defScope s_is_fraction) .none kV7 dc7 pm7 an7 cd7 ct7), sl7⟩) (c7 : PySem.W.codeIn K cd7 "is_fraction" = true) (k7 : PySem.W.keepIn K (.ref f7) = true)
    (a8 : PySem.W.nsIn K mainGlobals "is_bound" = some (some (.ref f8))) (l8 : K.lookup f8 = some ⟨oc8, od8, .func (PySem.W.fnOf "is_bound" "is_bound" (defArgs s_is_bound) (defBody s_is_bound) (defScope s_is_bound) .none kV8 dc8 pm8 an8 cd8 ct8), sl8⟩) (c8 : PySem.W.codeIn K cd8 "is_bound" = true) (k8 : PySem.W.keepIn K (.ref f8) = true)
    (a9 : PySem.W.nsIn K mainGlobals "are_faces" = some (some (.ref f9))) (l9 : K.lookup f9 = some ⟨oc9, od9, .func (PySem.W.fnOf "are_faces" "are_faces" (defArgs s_are_faces) (defBody s_are_faces) (defScope s_are_faces) .none kV9 dc9 pm9 an9 cd9 ct9), sl9⟩) (c9 : PySem.W.codeIn K cd9 "are_faces" = true) (k9 : PySem.W.keepIn K (.ref f9) = true)
    (a10 : PySem.W.nsIn K mainGlobals "are_bounds" = some (some (.ref f10))) (l10 : K.lookup f10 = some ⟨oc10, od10, .func (PySem.W.fnOf "are_bounds" "are_bounds" (defArgs s_are_bounds) (defBody s_are_bounds) (defScope s_are_bounds) .none kV10 dc10 pm10 an10 cd10 ct10), sl10⟩) (c10 : PySem.W.codeIn K cd10 "are_bounds" = true) (k10 : PySem.W.keepIn K (.ref f10) = true)
    (a11 : PySem.W.nsIn K mainGlobals "is_tie" = some (some (.ref f11))) (l11 : K.lookup f11 = some ⟨oc11, od11, .func (PySem.W.fnOf "is_tie" "is_tie" (defArgs s_is_tie) (defBody s_is_tie) (defScope s_is_tie) .none kV11 dc11 pm11 an11 cd11 ct11), sl11⟩) (c11 : PySem.W.codeIn K cd11 "is_tie" = true) (k11 : PySem.W.keepIn K (.ref f11) = true)
    (a12 : PySem.W.findIn K (.ref Part) "__init__" = some (some (.ref f12))) (l12 : K.lookup f12 = some ⟨oc12, od12, .func (PySem.W.fnOf "__init__" "Part.__init__" (defArgs s_Partuu_inituu) (defBody s_Partuu_inituu) (defScope s_Partuu_inituu) .none kV12 dc12 pm12 an12 cd12 ct12), sl12⟩) (c12 : PySem.W.codeIn K cd12 "Part.__init__" = true) (k12 : PySem.W.keepIn K (.ref f12) = true)
    (a13 : PySem.W.findIn K (.ref Part) "plain" = some (some (.ref f13))) (l13 : K.lookup f13 = some ⟨oc13, od13, .func (PySem.W.fnOf "plain" "Part.plain" (defArgs s_Part_plain) (defBody s_Part_plain) (defScope s_Part_plain) .none kV13 dc13 pm13 an13 cd13 ct13), sl13⟩) (c13 : PySem.W.codeIn K cd13 "Part.plain" = true) (k13 : PySem.W.keepIn K (.ref f13) = true)
    (a14 : PySem.W.findIn K (.ref Gap) "__init__" = some (some (.ref f14))) (l14 : K.lookup f14 = some ⟨oc14, od14, .func (PySem.W.fnOf "__init__" "Gap.__init__" (defArgs s_Gapuu_inituu) (defBody s_Gapuu_inituu) (defScope s_Gapuu_inituu) .none kV14 dc14 pm14 an14 cd14 ct14), sl14⟩) (c14 : PySem.W.codeIn K cd14 "Gap.__init__" = true) (k14 : PySem.W.keepIn K (.ref f14) = true)
    (a15 : PySem.W.nsIn K mainGlobals "is_part" = some (some (.ref f15))) (l15 : K.lookup f15 = some ⟨oc15, od15, .func (PySem.W.fnOf "is_part" "is_part" (defArgs s_is_part) (defBody s_is_part) (defScope s_is_part) .none kV15 dc15 pm15 an15 cd15 ct15), sl15⟩) (c15 : PySem.W.codeIn K cd15 "is_part" = true) (k15 : PySem.W.keepIn K (.ref f15) = true)
    (a16 : PySem.W.nsIn K mainGlobals "is_gap" = some (some (.ref f16))) (l16 : K.lookup f16 = some ⟨oc16, od16, .func (PySem.W.fnOf "is_gap" "is_gap" (defArgs s_is_gap) (defBody s_is_gap) (defScope s_is_gap) .none kV16 dc16 pm16 an16 cd16 ct16), sl16⟩) (c16 : PySem.W.codeIn K cd16 "is_gap" = true) (k16 : PySem.W.keepIn K (.ref f16) = true)
    (a17 : PySem.W.nsIn K mainGlobals "part_of" = some (some (.ref f17))) (l17 : K.lookup f17 = some ⟨oc17, od17, .func (PySem.W.fnOf "part_of" "part_of" (defArgs s_part_of) (defBody s_part_of) (defScope s_part_of) .none kV17 dc17 pm17 an17 cd17 ct17), sl17⟩) (c17 : PySem.W.codeIn K cd17 "part_of" = true) (k17 : PySem.W.keepIn K (.ref f17) = true)
    (a18 : PySem.W.nsIn K mainGlobals "gap_of" = some (some (.ref f18))) (l18 : K.lookup f18 = some ⟨oc18, od18, .func (PySem.W.fnOf "gap_of" "gap_of" (defArgs s_gap_of) (defBody s_gap_of) (defScope s_gap_of) .none kV18 dc18 pm18 an18 cd18 ct18), sl18⟩) (c18 : PySem.W.codeIn K cd18 "gap_of" = true) (k18 : PySem.W.keepIn K (.ref f18) = true)
    (a19 : PySem.W.findIn K (.ref Joints) "__init__" = some (some (.ref f19))) (l19 : K.lookup f19 = some ⟨oc19, od19, .func (PySem.W.fnOf "__init__" "Joints.__init__" (defArgs s_Jointsuu_inituu) (defBody s_Jointsuu_inituu) (defScope s_Jointsuu_inituu) .none kV19 dc19 pm19 an19 cd19 ct19), sl19⟩) (c19 : PySem.W.codeIn K cd19 "Joints.__init__" = true) (k19 : PySem.W.keepIn K (.ref f19) = true)
    (a20 : PySem.W.findIn K (.ref Joints) "link" = some (some (.ref f20))) (l20 : K.lookup f20 = some ⟨oc20, od20, .func (PySem.W.fnOf "link" "Joints.link" (defArgs s_Joints_link) (defBody s_Joints_link) (defScope s_Joints_link) .none kV20 dc20 pm20 an20 cd20 ct20), sl20⟩) (c20 : PySem.W.codeIn K cd20 "Joints.link" = true) (k20 : PySem.W.keepIn K (.ref f20) = true)
    (a21 : PySem.W.findIn K (.ref Joints) "way_between" = some (some (.ref f21))) (l21 : K.lookup f21 = some ⟨oc21, od21, .func (PySem.W.fnOf "way_between" "Joints.way_between" (defArgs s_Joints_way_between) (defBody s_Joints_way_between) (defScope s_Joints_way_between) .none kV21 dc21 pm21 an21 cd21 ct21), sl21⟩) (c21 : PySem.W.codeIn K cd21 "Joints.way_between" = true) (k21 : PySem.W.keepIn K (.ref f21) = true)
    (a22 : PySem.W.findIn K (.ref Thing) "__init__" = some (some (.ref f22))) (l22 : K.lookup f22 = some ⟨oc22, od22, .func (PySem.W.fnOf "__init__" "Thing.__init__" (defArgs s_Thinguu_inituu) (defBody s_Thinguu_inituu) (defScope s_Thinguu_inituu) .none kV22 dc22 pm22 an22 cd22 ct22), sl22⟩) (c22 : PySem.W.codeIn K cd22 "Thing.__init__" = true) (k22 : PySem.W.keepIn K (.ref f22) = true)
    (a23 : PySem.W.findIn K (.ref Thing) "parts" = some (some (.ref f23))) (l23 : K.lookup f23 = some ⟨oc23, od23, .func (PySem.W.fnOf "parts" "Thing.parts" (defArgs s_Thing_parts) (defBody s_Thing_parts) (defScope s_Thing_parts) .none kV23 dc23 pm23 an23 cd23 ct23), sl23⟩) (c23 : PySem.W.codeIn K cd23 "Thing.parts" = true) (k23 : PySem.W.keepIn K (.ref f23) = true)
    (a24 : PySem.W.nsIn K mainGlobals "in_order" = some (some (.ref f24))) (l24 : K.lookup f24 = some ⟨oc24, od24, .func (PySem.W.fnOf "in_order" "in_order" (defArgs s_in_order) (defBody s_in_order) (defScope s_in_order) .none kV24 dc24 pm24 an24 cd24 ct24), sl24⟩) (c24 : PySem.W.codeIn K cd24 "in_order" = true) (k24 : PySem.W.keepIn K (.ref f24) = true)
    (a25 : PySem.W.nsIn K mainGlobals "for_weights" = some (some (.ref f25))) (l25 : K.lookup f25 = some ⟨oc25, od25, .func (PySem.W.fnOf "for_weights" "for_weights" (defArgs s_for_weights) (defBody s_for_weights) (defScope s_for_weights) .none kV25 dc25 pm25 an25 cd25 ct25), sl25⟩) (c25 : PySem.W.codeIn K cd25 "for_weights" = true) (k25 : PySem.W.keepIn K (.ref f25) = true)
    (a26 : PySem.W.nsIn K mainGlobals "fairer" = some (some (.ref f26))) (l26 : K.lookup f26 = some ⟨oc26, od26, .func (PySem.W.fnOf "fairer" "fairer" (defArgs s_fairer) (defBody s_fairer) (defScope s_fairer) .none kV26 dc26 pm26 an26 cd26 ct26), sl26⟩) (c26 : PySem.W.codeIn K cd26 "fairer" = true) (k26 : PySem.W.keepIn K (.ref f26) = true)
    (a27 : PySem.W.nsIn K mainGlobals "_law_cell_at" = some (some (.ref f27))) (l27 : K.lookup f27 = some ⟨oc27, od27, .func (PySem.W.fnOf "_law_cell_at" "_law_cell_at" (defArgs s_law_cell_at) (defBody s_law_cell_at) (defScope s_law_cell_at) .none kV27 dc27 pm27 an27 cd27 ct27), sl27⟩) (c27 : PySem.W.codeIn K cd27 "_law_cell_at" = true) (k27 : PySem.W.keepIn K (.ref f27) = true)
    (a28 : PySem.W.nsIn K mainGlobals "_law_low" = some (some (.ref f28))) (l28 : K.lookup f28 = some ⟨oc28, od28, .func (PySem.W.fnOf "_law_low" "_law_low" (defArgs s_law_low) (defBody s_law_low) (defScope s_law_low) .none kV28 dc28 pm28 an28 cd28 ct28), sl28⟩) (c28 : PySem.W.codeIn K cd28 "_law_low" = true) (k28 : PySem.W.keepIn K (.ref f28) = true)
    (a29 : PySem.W.nsIn K mainGlobals "_law_less" = some (some (.ref f29))) (l29 : K.lookup f29 = some ⟨oc29, od29, .func (PySem.W.fnOf "_law_less" "_law_less" (defArgs s_law_less) (defBody s_law_less) (defScope s_law_less) .none kV29 dc29 pm29 an29 cd29 ct29), sl29⟩) (c29 : PySem.W.codeIn K cd29 "_law_less" = true) (k29 : PySem.W.keepIn K (.ref f29) = true)
    (a30 : PySem.W.nsIn K mainGlobals "_law_sorted" = some (some (.ref f30))) (l30 : K.lookup f30 = some ⟨oc30, od30, .func (PySem.W.fnOf "_law_sorted" "_law_sorted" (defArgs s_law_sorted) (defBody s_law_sorted) (defScope s_law_sorted) .none kV30 dc30 pm30 an30 cd30 ct30), sl30⟩) (c30 : PySem.W.codeIn K cd30 "_law_sorted" = true) (k30 : PySem.W.keepIn K (.ref f30) = true)
    (a31 : PySem.W.nsIn K mainGlobals "_law_fairer" = some (some (.ref f31))) (l31 : K.lookup f31 = some ⟨oc31, od31, .func (PySem.W.fnOf "_law_fairer" "_law_fairer" (defArgs s_law_fairer) (defBody s_law_fairer) (defScope s_law_fairer) .none kV31 dc31 pm31 an31 cd31 ct31), sl31⟩) (c31 : PySem.W.codeIn K cd31 "_law_fairer" = true) (k31 : PySem.W.keepIn K (.ref f31) = true)
    (a32 : PySem.W.nsIn K mainGlobals "_law_drawn" = some (some (.ref f32))) (l32 : K.lookup f32 = some ⟨oc32, od32, .func (PySem.W.fnOf "_law_drawn" "_law_drawn" (defArgs s_law_drawn) (defBody s_law_drawn) (defScope s_law_drawn) .none kV32 dc32 pm32 an32 cd32 ct32), sl32⟩) (c32 : PySem.W.codeIn K cd32 "_law_drawn" = true) (k32 : PySem.W.keepIn K (.ref f32) = true)
    (a33 : PySem.W.nsIn K mainGlobals "_law_others" = some (some (.ref f33))) (l33 : K.lookup f33 = some ⟨oc33, od33, .func (PySem.W.fnOf "_law_others" "_law_others" (defArgs s_law_others) (defBody s_law_others) (defScope s_law_others) .none kV33 dc33 pm33 an33 cd33 ct33), sl33⟩) (c33 : PySem.W.codeIn K cd33 "_law_others" = true) (k33 : PySem.W.keepIn K (.ref f33) = true)
    (a34 : PySem.W.nsIn K mainGlobals "law" = some (some (.ref f34))) (l34 : K.lookup f34 = some ⟨oc34, od34, .func (PySem.W.fnOf "law" "law" (defArgs s_law) (defBody s_law) (defScope s_law) .none kV34 dc34 pm34 an34 cd34 ct34), sl34⟩) (c34 : PySem.W.codeIn K cd34 "law" = true) (k34 : PySem.W.keepIn K (.ref f34) = true)
    (z_abs : PySem.W.nsIn K mainGlobals "abs" = some none)
    (z_isinstance : PySem.W.nsIn K mainGlobals "isinstance" = some none)
    (z_len : PySem.W.nsIn K mainGlobals "len" = some none)
    (z_all : PySem.W.nsIn K mainGlobals "all" = some none)
    (z_int : PySem.W.nsIn K mainGlobals "int" = some none)
    (z_bool : PySem.W.nsIn K mainGlobals "bool" = some none)
    (z_tuple : PySem.W.nsIn K mainGlobals "tuple" = some none)
    (z_str : PySem.W.nsIn K mainGlobals "str" = some none)
    (z_range : PySem.W.nsIn K mainGlobals "range" = some none)
    (z_list : PySem.W.nsIn K mainGlobals "list" = some none)
    (z_zip : PySem.W.nsIn K mainGlobals "zip" = some none)
    (z_enumerate : PySem.W.nsIn K mainGlobals "enumerate" = some none)
    (z_reversed : PySem.W.nsIn K mainGlobals "reversed" = some none)
    (g_SMALL_LETTERS : PySem.W.nsIn K mainGlobals "SMALL_LETTERS" = some (some (.str "abcdefghijklmnopqrstuvwxyz" ct_SMALL_LETTERS)))
    (g_LONGEST_NAME : PySem.W.nsIn K mainGlobals "LONGEST_NAME" = some (some (.int 8 ct_LONGEST_NAME)))
    (g_ZERO : PySem.W.nsIn K mainGlobals "ZERO" = some (some (.ref ZERO)))
    (h_ZERO : K.lookup ZERO = some ⟨.type "tuple", cd_ZERO, .seq #[.int 0 ct0_ZERO, .int 1 ct1_ZERO] cn_ZERO, cs_ZERO⟩)
    (x_NoNumber : PySem.W.excIn K NoNumber [.type "ValueError", .type "Exception", .type "BaseException", .type "object"] "ValueError.__new__" = true)
    (x_Twice : PySem.W.excIn K Twice [.type "ValueError", .type "Exception", .type "BaseException", .type "object"] "ValueError.__new__" = true)
    (x_NoPart : PySem.W.excIn K NoPart [.type "ValueError", .type "Exception", .type "BaseException", .type "object"] "ValueError.__new__" = true)
    (x_NoGap : PySem.W.excIn K NoGap [.type "ValueError", .type "Exception", .type "BaseException", .type "object"] "ValueError.__new__" = true)
    (x_InRing : PySem.W.excIn K InRing [.type "ValueError", .type "Exception", .type "BaseException", .type "object"] "ValueError.__new__" = true)
    (x_Apart : PySem.W.excIn K Apart [.type "ValueError", .type "Exception", .type "BaseException", .type "object"] "ValueError.__new__" = true)
    (mk_Part : PySem.W.makesIn K Part = true)
    (mi_Part : PySem.W.findIn K (.ref Part) "__init__" = some (some (.ref f12)))
    (mf_Part : PySem.W.isFn K (.ref f12) = true)
    (mp_Part : PySem.W.keepIn K (.ref Part) = true)
    (mk_Gap : PySem.W.makesIn K Gap = true)
    (mi_Gap : PySem.W.findIn K (.ref Gap) "__init__" = some (some (.ref f14)))
    (mf_Gap : PySem.W.isFn K (.ref f14) = true)
    (mp_Gap : PySem.W.keepIn K (.ref Gap) = true)
    (mk_Joints : PySem.W.makesIn K Joints = true)
    (mi_Joints : PySem.W.findIn K (.ref Joints) "__init__" = some (some (.ref f19)))
    (mf_Joints : PySem.W.isFn K (.ref f19) = true)
    (mp_Joints : PySem.W.keepIn K (.ref Joints) = true)
    (mk_Thing : PySem.W.makesIn K Thing = true)
    (mi_Thing : PySem.W.findIn K (.ref Thing) "__init__" = some (some (.ref f22)))
    (mf_Thing : PySem.W.isFn K (.ref f22) = true)
    (mp_Thing : PySem.W.keepIn K (.ref Thing) = true)
    (me_plain_Part : PySem.W.findIn K (.ref Part) "plain" = some (some (.ref f13)))
    (mm_plain_Part : PySem.W.isFn K (.ref f13) = true)
    (me_link_Joints : PySem.W.findIn K (.ref Joints) "link" = some (some (.ref f20)))
    (mm_link_Joints : PySem.W.isFn K (.ref f20) = true)
    (me_way_between_Joints : PySem.W.findIn K (.ref Joints) "way_between" = some (some (.ref f21)))
    (mm_way_between_Joints : PySem.W.isFn K (.ref f21) = true)
    (me_parts_Thing : PySem.W.findIn K (.ref Thing) "parts" = some (some (.ref f23)))
    (mm_parts_Thing : PySem.W.isFn K (.ref f23) = true)
    (cl1_Part : PySem.W.plainGet K Part Str.empty = true)
    (cl2_Part : PySem.W.hasDictIn K Part = true)
    (cl3_Part : PySem.W.plainOver K Part = true)
    (cl4_Part : PySem.W.findIn K (.ref Part) "__setattr__" = some (some (.builtin "object.__setattr__")))
    (na1_Part : PySem.W.findIn K (.ref Part) "name" = some none)
    (na2_Part : PySem.W.findIn K (.ref Part) "start" = some none)
    (na3_Part : PySem.W.findIn K (.ref Part) "end" = some none)
    (na4_Part : PySem.W.findIn K (.ref Part) "size" = some none)
    (na5_Part : PySem.W.findIn K (.ref Part) "most" = some none)
    (na6_Part : PySem.W.findIn K (.ref Part) "weight" = some none)
    (cl1_Gap : PySem.W.plainGet K Gap Str.empty = true)
    (cl2_Gap : PySem.W.hasDictIn K Gap = true)
    (cl3_Gap : PySem.W.plainOver K Gap = true)
    (cl4_Gap : PySem.W.findIn K (.ref Gap) "__setattr__" = some (some (.builtin "object.__setattr__")))
    (na1_Gap : PySem.W.findIn K (.ref Gap) "name" = some none)
    (na2_Gap : PySem.W.findIn K (.ref Gap) "one" = some none)
    (na3_Gap : PySem.W.findIn K (.ref Gap) "other" = some none)
    (na4_Gap : PySem.W.findIn K (.ref Gap) "low" = some none)
    (na5_Gap : PySem.W.findIn K (.ref Gap) "high" = some none)
    (cl1_Joints : PySem.W.plainGet K Joints Str.empty = true)
    (cl2_Joints : PySem.W.hasDictIn K Joints = true)
    (cl3_Joints : PySem.W.plainOver K Joints = true)
    (cl4_Joints : PySem.W.findIn K (.ref Joints) "__setattr__" = some (some (.builtin "object.__setattr__")))
    (na1_Joints : PySem.W.findIn K (.ref Joints) "leads" = some none)
    (cl1_Thing : PySem.W.plainGet K Thing Str.empty = true)
    (cl2_Thing : PySem.W.hasDictIn K Thing = true)
    (cl3_Thing : PySem.W.plainOver K Thing = true)
    (cl4_Thing : PySem.W.findIn K (.ref Thing) "__setattr__" = some (some (.builtin "object.__setattr__")))
    (na1_Thing : PySem.W.findIn K (.ref Thing) "parts_by_name" = some none)
    (na2_Thing : PySem.W.findIn K (.ref Thing) "gaps_by_name" = some none)
    (na3_Thing : PySem.W.findIn K (.ref Thing) "ways" = some none)
    : ∃ fd : FuncData, (∀ (s : Shared) (v : Value), BindsTo s fd ⟨[v], []⟩ [("_law_script", v)]) ∧ ∀ base : Heap, K.In base → base.Ns mainGlobals mg → FnOk l.prog w K mg base (CX1 l.prog w) 11 fa fd ["_law_script"] (sp_law K) := by
  have e := hfa.symm.trans (PySem.W.mg_of X G a34)
  cases e
  have T : Txt K mg ⟨NoNumber, Twice, NoPart, NoGap, InRing, Apart, Part, Gap, Joints, Thing, (.str "abcdefghijklmnopqrstuvwxyz" ct_SMALL_LETTERS), (.int 8 ct_LONGEST_NAME), ZERO⟩ := ⟨PySem.W.mg_none_of X G z_abs, PySem.W.mg_none_of X G z_isinstance, PySem.W.mg_none_of X G z_len, PySem.W.mg_none_of X G z_all, PySem.W.mg_none_of X G z_int, PySem.W.mg_none_of X G z_bool, PySem.W.mg_none_of X G z_tuple, PySem.W.mg_none_of X G z_str, PySem.W.mg_none_of X G z_range, PySem.W.mg_none_of X G z_list, PySem.W.mg_none_of X G z_zip, PySem.W.mg_none_of X G z_enumerate, PySem.W.mg_none_of X G z_reversed, PySem.W.mg_of X G g_NoNumber, PySem.W.mg_of X G g_Twice, PySem.W.mg_of X G g_NoPart, PySem.W.mg_of X G g_NoGap, PySem.W.mg_of X G g_InRing, PySem.W.mg_of X G g_Apart, PySem.W.mg_of X G g_Part, PySem.W.mg_of X G g_Gap, PySem.W.mg_of X G g_Joints, PySem.W.mg_of X G g_Thing, PySem.W.mg_of X G g_SMALL_LETTERS, ⟨_, rfl⟩, PySem.W.mg_of X G g_LONGEST_NAME, ⟨_, rfl⟩, PySem.W.mg_of X G g_ZERO, rfl, fun H => .inr ⟨_, _, _, h_ZERO, rfl, rfl, by show 2 ≤ sizeLine; decide, .cons ⟨_, rfl⟩ (.cons ⟨_, rfl⟩ (.nil))⟩, x_NoNumber, x_Twice, x_NoPart, x_NoGap, x_InRing, x_Apart, cl1_Part, cl2_Part, cl3_Part, cl4_Part, na1_Part, na2_Part, na3_Part, na4_Part, na5_Part, na6_Part, cl1_Gap, cl2_Gap, cl3_Gap, cl4_Gap, na1_Gap, na2_Gap, na3_Gap, na4_Gap, na5_Gap, cl1_Joints, cl2_Joints, cl3_Joints, cl4_Joints, na1_Joints, cl1_Thing, cl2_Thing, cl3_Thing, cl4_Thing, na1_Thing, na2_Thing, na3_Thing, (fun C hC => by cases hC; exact ⟨⟨cl1_Part, cl2_Part, cl3_Part, cl4_Part⟩, na1_Part, na2_Part, na3_Part, na4_Part, na5_Part, na6_Part⟩), (fun C hC => by cases hC; exact ⟨⟨cl1_Gap, cl2_Gap, cl3_Gap, cl4_Gap⟩, na1_Gap, na2_Gap, na3_Gap, na4_Gap, na5_Gap⟩), (fun C hC => by cases hC; exact ⟨⟨cl1_Joints, cl2_Joints, cl3_Joints, cl4_Joints⟩, na1_Joints⟩), (fun C hC => by cases hC; exact ⟨⟨cl1_Thing, cl2_Thing, cl3_Thing, cl4_Thing⟩, na1_Thing, na2_Thing, na3_Thing⟩)⟩
  have F1 := funD_mk (st := s_common_divisor) l1 c1 k1
  have b1 := F1.binds (ps := ["one", "other"]) fun _ _ _ _ _ _ us hl => match us, hl with | [_, _], _ => rfl
  have F2 := funD_mk (st := s_times) l2 c2 k2
  have b2 := F2.binds (ps := ["one", "other"]) fun _ _ _ _ _ _ us hl => match us, hl with | [_, _], _ => rfl
  have F3 := funD_mk (st := s_over) l3 c3 k3
  have b3 := F3.binds (ps := ["one", "other"]) fun _ _ _ _ _ _ us hl => match us, hl with | [_, _], _ => rfl
  have F4 := funD_mk (st := s_under) l4 c4 k4
  have b4 := F4.binds (ps := ["one", "other"]) fun _ _ _ _ _ _ us hl => match us, hl with | [_, _], _ => rfl
  have F5 := funD_mk (st := s_is_name) l5 c5 k5
  have b5 := F5.binds (ps := ["thing"]) fun _ _ _ _ _ _ us hl => match us, hl with | [_], _ => rfl
  have F6 := funD_mk (st := s_is_whole) l6 c6 k6
  have b6 := F6.binds (ps := ["thing"]) fun _ _ _ _ _ _ us hl => match us, hl with | [_], _ => rfl
  have F7 := funD_mk (st := s_is_fraction) l7 c7 k7
  have b7 := F7.binds (ps := ["thing"]) fun _ _ _ _ _ _ us hl => match us, hl with | [_], _ => rfl
  have F8 := funD_mk (st := s_is_bound) l8 c8 k8
  have b8 := F8.binds (ps := ["thing"]) fun _ _ _ _ _ _ us hl => match us, hl with | [_], _ => rfl
  have F9 := funD_mk (st := s_are_faces) l9 c9 k9
  have b9 := F9.binds (ps := ["one", "other"]) fun _ _ _ _ _ _ us hl => match us, hl with | [_, _], _ => rfl
  have F10 := funD_mk (st := s_are_bounds) l10 c10 k10
  have b10 := F10.binds (ps := ["least", "greatest"]) fun _ _ _ _ _ _ us hl => match us, hl with | [_, _], _ => rfl
  have F11 := funD_mk (st := s_is_tie) l11 c11 k11
  have b11 := F11.binds (ps := ["thing"]) fun _ _ _ _ _ _ us hl => match us, hl with | [_], _ => rfl
  have F12 := funD_mk (st := s_Partuu_inituu) l12 c12 k12
  have b12 := F12.binds (ps := ["self", "row"]) fun _ _ _ _ _ _ us hl => match us, hl with | [_, _], _ => rfl
  have F13 := funD_mk (st := s_Part_plain) l13 c13 k13
  have b13 := F13.binds (ps := ["self"]) fun _ _ _ _ _ _ us hl => match us, hl with | [_], _ => rfl
  have F14 := funD_mk (st := s_Gapuu_inituu) l14 c14 k14
  have b14 := F14.binds (ps := ["self", "row"]) fun _ _ _ _ _ _ us hl => match us, hl with | [_, _], _ => rfl
  have F15 := funD_mk (st := s_is_part) l15 c15 k15
  have b15 := F15.binds (ps := ["thing"]) fun _ _ _ _ _ _ us hl => match us, hl with | [_], _ => rfl
  have F16 := funD_mk (st := s_is_gap) l16 c16 k16
  have b16 := F16.binds (ps := ["thing"]) fun _ _ _ _ _ _ us hl => match us, hl with | [_], _ => rfl
  have F17 := funD_mk (st := s_part_of) l17 c17 k17
  have b17 := F17.binds (ps := ["thing"]) fun _ _ _ _ _ _ us hl => match us, hl with | [_], _ => rfl
  have F18 := funD_mk (st := s_gap_of) l18 c18 k18
  have b18 := F18.binds (ps := ["thing"]) fun _ _ _ _ _ _ us hl => match us, hl with | [_], _ => rfl
  have F19 := funD_mk (st := s_Jointsuu_inituu) l19 c19 k19
  have b19 := F19.binds (ps := ["self"]) fun _ _ _ _ _ _ us hl => match us, hl with | [_], _ => rfl
  have F20 := funD_mk (st := s_Joints_link) l20 c20 k20
  have b20 := F20.binds (ps := ["self", "part"]) fun _ _ _ _ _ _ us hl => match us, hl with | [_, _], _ => rfl
  have F21 := funD_mk (st := s_Joints_way_between) l21 c21 k21
  have b21 := F21.binds (ps := ["self", "one", "other"]) fun _ _ _ _ _ _ us hl => match us, hl with | [_, _, _], _ => rfl
  have F22 := funD_mk (st := s_Thinguu_inituu) l22 c22 k22
  have b22 := F22.binds (ps := ["self", "parts", "gaps"]) fun _ _ _ _ _ _ us hl => match us, hl with | [_, _, _], _ => rfl
  have F23 := funD_mk (st := s_Thing_parts) l23 c23 k23
  have b23 := F23.binds (ps := ["self"]) fun _ _ _ _ _ _ us hl => match us, hl with | [_], _ => rfl
  have F24 := funD_mk (st := s_in_order) l24 c24 k24
  have b24 := F24.binds (ps := ["numbers"]) fun _ _ _ _ _ _ us hl => match us, hl with | [_], _ => rfl
  have F25 := funD_mk (st := s_for_weights) l25 c25 k25
  have b25 := F25.binds (ps := ["thing", "slacks"]) fun _ _ _ _ _ _ us hl => match us, hl with | [_, _], _ => rfl
  have F26 := funD_mk (st := s_fairer) l26 c26 k26
  have b26 := F26.binds (ps := ["thing", "ones", "others"]) fun _ _ _ _ _ _ us hl => match us, hl with | [_, _, _], _ => rfl
  have F27 := funD_mk (st := s_law_cell_at) l27 c27 k27
  have b27 := F27.binds (ps := ["_law_script", "_law_k"]) fun _ _ _ _ _ _ us hl => match us, hl with | [_, _], _ => rfl
  have F28 := funD_mk (st := s_law_low) l28 c28 k28
  have b28 := F28.binds (ps := ["_law_top", "_law_bottom"]) fun _ _ _ _ _ _ us hl => match us, hl with | [_, _], _ => rfl
  have F29 := funD_mk (st := s_law_less) l29 c29 k29
  have b29 := F29.binds (ps := ["_law_one", "_law_other"]) fun _ _ _ _ _ _ us hl => match us, hl with | [_, _], _ => rfl
  have F30 := funD_mk (st := s_law_sorted) l30 c30 k30
  have b30 := F30.binds (ps := ["_law_slacks", "_law_weights"]) fun _ _ _ _ _ _ us hl => match us, hl with | [_, _], _ => rfl
  have F31 := funD_mk (st := s_law_fairer) l31 c31 k31
  have b31 := F31.binds (ps := ["_law_ones", "_law_others_here", "_law_weights"]) fun _ _ _ _ _ _ us hl => match us, hl with | [_, _, _], _ => rfl
  have F32 := funD_mk (st := s_law_drawn) l32 c32 k32
  have b32 := F32.binds (ps := ["_law_cell"]) fun _ _ _ _ _ _ us hl => match us, hl with | [_], _ => rfl
  have F33 := funD_mk (st := s_law_others) l33 c33 k33
  have b33 := F33.binds (ps := ["_law_script", "_law_ones", "_law_weights", "_law_many"]) fun _ _ _ _ _ _ us hl => match us, hl with | [_, _, _, _], _ => rfl
  have F34 := funD_mk (st := s_law) l34 c34 k34
  have b34 := F34.binds (ps := ["_law_script"]) fun _ _ _ _ _ _ us hl => match us, hl with | [_], _ => rfl
  refine ⟨PySem.W.fnOf "law" "law" (defArgs s_law) (defBody s_law) (defScope s_law) .none kV34 dc34 pm34 an34 cd34 ct34, fun s v => .of_eq rfl, fun base _ _ => ?_⟩
  have K1 := ok_common_divisor (P := l.prog) (w := w) (base := base) F1 T 
  have c_common_divisor : Cal l.prog w K mg base 1 "common_divisor" ["one", "other"] [] (sp_common_divisor) := ⟨f1, _, [], K1, PySem.W.mg_of X G a1, k1, b1, .nil⟩
  have K2 := ok_times (P := l.prog) (w := w) (base := base) F2 T c_common_divisor
  have c_times : Cal l.prog w K mg base 2 "times" ["one", "other"] [] (sp_times K) := ⟨f2, _, [], K2, PySem.W.mg_of X G a2, k2, b2, .nil⟩
  have K3 := ok_over (P := l.prog) (w := w) (base := base) F3 T c_times
  have c_over : Cal l.prog w K mg base 3 "over" ["one", "other"] [] (sp_over K ⟨NoNumber, Twice, NoPart, NoGap, InRing, Apart, Part, Gap, Joints, Thing, (.str "abcdefghijklmnopqrstuvwxyz" ct_SMALL_LETTERS), (.int 8 ct_LONGEST_NAME), ZERO⟩) := ⟨f3, _, [], K3, PySem.W.mg_of X G a3, k3, b3, .nil⟩
  have K4 := ok_under (P := l.prog) (w := w) (base := base) F4 T 
  have c_under : Cal l.prog w K mg base 1 "under" ["one", "other"] [] (sp_under K) := ⟨f4, _, [], K4, PySem.W.mg_of X G a4, k4, b4, .nil⟩
  have K5 := ok_is_name (P := l.prog) (w := w) (base := base) F5 T 
  have c_is_name : Cal l.prog w K mg base 1 "is_name" ["thing"] [] (sp_is_name K) := ⟨f5, _, [], K5, PySem.W.mg_of X G a5, k5, b5, .nil⟩
  have K6 := ok_is_whole (P := l.prog) (w := w) (base := base) F6 T 
  have c_is_whole : Cal l.prog w K mg base 1 "is_whole" ["thing"] [] (sp_is_whole K) := ⟨f6, _, [], K6, PySem.W.mg_of X G a6, k6, b6, .nil⟩
  have K7 := ok_is_fraction (P := l.prog) (w := w) (base := base) F7 T c_is_whole c_common_divisor
  have c_is_fraction : Cal l.prog w K mg base 2 "is_fraction" ["thing"] [] (sp_is_fraction K) := ⟨f7, _, [], K7, PySem.W.mg_of X G a7, k7, b7, .nil⟩
  have K8 := ok_is_bound (P := l.prog) (w := w) (base := base) F8 T c_is_fraction
  have c_is_bound : Cal l.prog w K mg base 3 "is_bound" ["thing"] [] (sp_is_bound K) := ⟨f8, _, [], K8, PySem.W.mg_of X G a8, k8, b8, .nil⟩
  have K9 := ok_are_faces (P := l.prog) (w := w) (base := base) F9 T c_is_name
  have c_are_faces : Cal l.prog w K mg base 2 "are_faces" ["one", "other"] [] (sp_are_faces K) := ⟨f9, _, [], K9, PySem.W.mg_of X G a9, k9, b9, .nil⟩
  have K10 := ok_are_bounds (P := l.prog) (w := w) (base := base) F10 T c_is_bound c_under
  have c_are_bounds : Cal l.prog w K mg base 4 "are_bounds" ["least", "greatest"] [] (sp_are_bounds K) := ⟨f10, _, [], K10, PySem.W.mg_of X G a10, k10, b10, .nil⟩
  have K11 := ok_is_tie (P := l.prog) (w := w) (base := base) F11 T c_is_name c_are_faces c_are_bounds
  have c_is_tie : Cal l.prog w K mg base 5 "is_tie" ["thing"] [] (sp_is_tie K) := ⟨f11, _, [], K11, PySem.W.mg_of X G a11, k11, b11, .nil⟩
  have K12 := ok_Partuu_inituu (P := l.prog) (w := w) (base := base) F12 T 
  have k_Part : KCal l.prog w K mg base 1 "Part" Part ["self", "row"] (sp_Partuu_inituu K) := ⟨f12, _, K12, PySem.W.mg_of X G g_Part, ⟨mk_Part, mi_Part, mf_Part, mp_Part⟩, b12⟩
  have K13 := ok_Part_plain (P := l.prog) (w := w) (base := base) F13 T 
  have m_plain : MCal l.prog w K mg base 1 "plain" (IsPart ⟨NoNumber, Twice, NoPart, NoGap, InRing, Apart, Part, Gap, Joints, Thing, (.str "abcdefghijklmnopqrstuvwxyz" ct_SMALL_LETTERS), (.int 8 ct_LONGEST_NAME), ZERO⟩) ["self"] (sp_Part_plain K ⟨NoNumber, Twice, NoPart, NoGap, InRing, Apart, Part, Gap, Joints, Thing, (.str "abcdefghijklmnopqrstuvwxyz" ct_SMALL_LETTERS), (.int 8 ct_LONGEST_NAME), ZERO⟩) := ⟨f13, _, K13, fun C hC => ⟨(T.c_Part C hC).cls, (by cases hC; exact ⟨me_plain_Part, mm_plain_Part, k13⟩)⟩, k13, b13⟩
  have K14 := ok_Gapuu_inituu (P := l.prog) (w := w) (base := base) F14 T 
  have k_Gap : KCal l.prog w K mg base 1 "Gap" Gap ["self", "row"] (sp_Gapuu_inituu K) := ⟨f14, _, K14, PySem.W.mg_of X G g_Gap, ⟨mk_Gap, mi_Gap, mf_Gap, mp_Gap⟩, b14⟩
  have K15 := ok_is_part (P := l.prog) (w := w) (base := base) F15 T c_is_name c_are_faces c_is_fraction c_is_whole c_under
  have c_is_part : Cal l.prog w K mg base 5 "is_part" ["thing"] [] (sp_is_part K) := ⟨f15, _, [], K15, PySem.W.mg_of X G a15, k15, b15, .nil⟩
  have K16 := ok_is_gap (P := l.prog) (w := w) (base := base) F16 T c_is_tie
  have c_is_gap : Cal l.prog w K mg base 6 "is_gap" ["thing"] [] (sp_is_gap K) := ⟨f16, _, [], K16, PySem.W.mg_of X G a16, k16, b16, .nil⟩
  have K17 := ok_part_of (P := l.prog) (w := w) (base := base) F17 T c_is_part k_Part
  have c_part_of : Cal l.prog w K mg base 6 "part_of" ["thing"] [] (sp_part_of K ⟨NoNumber, Twice, NoPart, NoGap, InRing, Apart, Part, Gap, Joints, Thing, (.str "abcdefghijklmnopqrstuvwxyz" ct_SMALL_LETTERS), (.int 8 ct_LONGEST_NAME), ZERO⟩) := ⟨f17, _, [], K17, PySem.W.mg_of X G a17, k17, b17, .nil⟩
  have K18 := ok_gap_of (P := l.prog) (w := w) (base := base) F18 T c_is_gap k_Gap
  have c_gap_of : Cal l.prog w K mg base 7 "gap_of" ["thing"] [] (sp_gap_of K ⟨NoNumber, Twice, NoPart, NoGap, InRing, Apart, Part, Gap, Joints, Thing, (.str "abcdefghijklmnopqrstuvwxyz" ct_SMALL_LETTERS), (.int 8 ct_LONGEST_NAME), ZERO⟩) := ⟨f18, _, [], K18, PySem.W.mg_of X G a18, k18, b18, .nil⟩
  have K19 := ok_Jointsuu_inituu (P := l.prog) (w := w) (base := base) F19 T 
  have k_Joints : KCal l.prog w K mg base 1 "Joints" Joints ["self"] (sp_Jointsuu_inituu K ⟨NoNumber, Twice, NoPart, NoGap, InRing, Apart, Part, Gap, Joints, Thing, (.str "abcdefghijklmnopqrstuvwxyz" ct_SMALL_LETTERS), (.int 8 ct_LONGEST_NAME), ZERO⟩) := ⟨f19, _, K19, PySem.W.mg_of X G g_Joints, ⟨mk_Joints, mi_Joints, mf_Joints, mp_Joints⟩, b19⟩
  have K20 := ok_Joints_link (P := l.prog) (w := w) (base := base) F20 T 
  have m_link : MCal l.prog w K mg base 1 "link" (IsJoints ⟨NoNumber, Twice, NoPart, NoGap, InRing, Apart, Part, Gap, Joints, Thing, (.str "abcdefghijklmnopqrstuvwxyz" ct_SMALL_LETTERS), (.int 8 ct_LONGEST_NAME), ZERO⟩) ["self", "part"] (sp_Joints_link K ⟨NoNumber, Twice, NoPart, NoGap, InRing, Apart, Part, Gap, Joints, Thing, (.str "abcdefghijklmnopqrstuvwxyz" ct_SMALL_LETTERS), (.int 8 ct_LONGEST_NAME), ZERO⟩) := ⟨f20, _, K20, fun C hC => ⟨(T.c_Joints C hC).cls, (by cases hC; exact ⟨me_link_Joints, mm_link_Joints, k20⟩)⟩, k20, b20⟩
  have K21 := ok_Joints_way_between (P := l.prog) (w := w) (base := base) F21 T 
  have m_way_between : MCal l.prog w K mg base 1 "way_between" (IsJoints ⟨NoNumber, Twice, NoPart, NoGap, InRing, Apart, Part, Gap, Joints, Thing, (.str "abcdefghijklmnopqrstuvwxyz" ct_SMALL_LETTERS), (.int 8 ct_LONGEST_NAME), ZERO⟩) ["self", "one", "other"] (sp_Joints_way_between K ⟨NoNumber, Twice, NoPart, NoGap, InRing, Apart, Part, Gap, Joints, Thing, (.str "abcdefghijklmnopqrstuvwxyz" ct_SMALL_LETTERS), (.int 8 ct_LONGEST_NAME), ZERO⟩) := ⟨f21, _, K21, fun C hC => ⟨(T.c_Joints C hC).cls, (by cases hC; exact ⟨me_way_between_Joints, mm_way_between_Joints, k21⟩)⟩, k21, b21⟩
  have K22 := ok_Thinguu_inituu (P := l.prog) (w := w) (base := base) F22 T k_Joints c_part_of c_gap_of m_way_between m_link
  have k_Thing : KCal l.prog w K mg base 9 "Thing" Thing ["self", "parts", "gaps"] (sp_Thinguu_inituu K ⟨NoNumber, Twice, NoPart, NoGap, InRing, Apart, Part, Gap, Joints, Thing, (.str "abcdefghijklmnopqrstuvwxyz" ct_SMALL_LETTERS), (.int 8 ct_LONGEST_NAME), ZERO⟩) := ⟨f22, _, K22, PySem.W.mg_of X G g_Thing, ⟨mk_Thing, mi_Thing, mf_Thing, mp_Thing⟩, b22⟩
  have K23 := ok_Thing_parts (P := l.prog) (w := w) (base := base) F23 T m_plain
  have m_parts : MCal l.prog w K mg base 2 "parts" (IsThing ⟨NoNumber, Twice, NoPart, NoGap, InRing, Apart, Part, Gap, Joints, Thing, (.str "abcdefghijklmnopqrstuvwxyz" ct_SMALL_LETTERS), (.int 8 ct_LONGEST_NAME), ZERO⟩) ["self"] (sp_Thing_parts K ⟨NoNumber, Twice, NoPart, NoGap, InRing, Apart, Part, Gap, Joints, Thing, (.str "abcdefghijklmnopqrstuvwxyz" ct_SMALL_LETTERS), (.int 8 ct_LONGEST_NAME), ZERO⟩) := ⟨f23, _, K23, fun C hC => ⟨(T.c_Thing C hC).cls, (by cases hC; exact ⟨me_parts_Thing, mm_parts_Thing, k23⟩)⟩, k23, b23⟩
  have K24 := ok_in_order (P := l.prog) (w := w) (base := base) F24 T c_under
  have c_in_order : Cal l.prog w K mg base 2 "in_order" ["numbers"] [] (sp_in_order K) := ⟨f24, _, [], K24, PySem.W.mg_of X G a24, k24, b24, .nil⟩
  have K25 := ok_for_weights (P := l.prog) (w := w) (base := base) F25 T m_parts c_over
  have c_for_weights : Cal l.prog w K mg base 4 "for_weights" ["thing", "slacks"] [] (sp_for_weights K ⟨NoNumber, Twice, NoPart, NoGap, InRing, Apart, Part, Gap, Joints, Thing, (.str "abcdefghijklmnopqrstuvwxyz" ct_SMALL_LETTERS), (.int 8 ct_LONGEST_NAME), ZERO⟩) := ⟨f25, _, [], K25, PySem.W.mg_of X G a25, k25, b25, .nil⟩
  have K26 := ok_fairer (P := l.prog) (w := w) (base := base) F26 T c_in_order c_for_weights c_under
  have c_fairer : Cal l.prog w K mg base 5 "fairer" ["thing", "ones", "others"] [] (sp_fairer K ⟨NoNumber, Twice, NoPart, NoGap, InRing, Apart, Part, Gap, Joints, Thing, (.str "abcdefghijklmnopqrstuvwxyz" ct_SMALL_LETTERS), (.int 8 ct_LONGEST_NAME), ZERO⟩) := ⟨f26, _, [], K26, PySem.W.mg_of X G a26, k26, b26, .nil⟩
  have K27 := ok_law_cell_at (P := l.prog) (w := w) (base := base) F27 T 
  have c_law_cell_at : Cal l.prog w K mg base 1 "_law_cell_at" ["_law_script", "_law_k"] [] (sp_law_cell_at K) := ⟨f27, _, [], K27, PySem.W.mg_of X G a27, k27, b27, .nil⟩
  have K28 := ok_law_low (P := l.prog) (w := w) (base := base) F28 T 
  have c_law_low : Cal l.prog w K mg base 1 "_law_low" ["_law_top", "_law_bottom"] [] (sp_law_low) := ⟨f28, _, [], K28, PySem.W.mg_of X G a28, k28, b28, .nil⟩
  have K29 := ok_law_less (P := l.prog) (w := w) (base := base) F29 T 
  have c_law_less : Cal l.prog w K mg base 1 "_law_less" ["_law_one", "_law_other"] [] (sp_law_less K) := ⟨f29, _, [], K29, PySem.W.mg_of X G a29, k29, b29, .nil⟩
  have K30 := ok_law_sorted (P := l.prog) (w := w) (base := base) F30 T c_law_low c_law_less
  have c_law_sorted : Cal l.prog w K mg base 2 "_law_sorted" ["_law_slacks", "_law_weights"] [] (sp_law_sorted K) := ⟨f30, _, [], K30, PySem.W.mg_of X G a30, k30, b30, .nil⟩
  have K31 := ok_law_fairer (P := l.prog) (w := w) (base := base) F31 T c_law_sorted c_law_less
  have c_law_fairer : Cal l.prog w K mg base 3 "_law_fairer" ["_law_ones", "_law_others_here", "_law_weights"] [] (sp_law_fairer K) := ⟨f31, _, [], K31, PySem.W.mg_of X G a31, k31, b31, .nil⟩
  have K32 := ok_law_drawn (P := l.prog) (w := w) (base := base) F32 T c_law_low
  have c_law_drawn : Cal l.prog w K mg base 2 "_law_drawn" ["_law_cell"] [] (sp_law_drawn) := ⟨f32, _, [], K32, PySem.W.mg_of X G a32, k32, b32, .nil⟩
  have K33 := ok_law_others (P := l.prog) (w := w) (base := base) F33 T c_law_cell_at c_law_drawn c_law_low
  have c_law_others : Cal l.prog w K mg base 3 "_law_others" ["_law_script", "_law_ones", "_law_weights", "_law_many"] [] (sp_law_others K) := ⟨f33, _, [], K33, PySem.W.mg_of X G a33, k33, b33, .nil⟩
  exact ok_law F34 T c_law_cell_at c_law_drawn k_Thing c_law_others c_fairer c_law_fairer
theorem walk {l : PySem.W.OpenLaw} {q : Program} {loose : List Str} {XP : (Str → Option Value) → Heap → Prop} {YP : World → Heap → Prop} {d : DefRec} {K : Params → PySem.W.Frag} (hn : l.most = some 63) (hdf : d.params.defaults = [])
    (hY : ∀ (w : World) (h : Heap), YP w h → (K w.params).In h)
    (F : ∀ (w : World) (mg : Str → Option Value) (fa : Addr) (h : Heap), (K w.params).In h → h.Ns mainGlobals mg → mg d.name = some (.ref fa) →
      ∃ fd : FuncData, (∀ (s : Shared) (u : Value), BindsTo s fd ⟨[u], []⟩ [("_law_script", u)]) ∧ ∀ base : Heap, (K w.params).In base → base.Ns mainGlobals mg → FnOk l.prog w (K w.params) mg base (CX1 l.prog w) 11 fa fd ["_law_script"] (sp_law (K w.params))) :
    PySem.W.WalkO q loose XP YP l.row.toRowW d [] (fun f vs => PySem.call f vs) :=
  L2.walk_of (n := 63) (k := 11) (x := "_law_script") (CX := fun w => CX1 l.prog w) (sp := fun w => sp_law (K w.params)) hn (by decide) hdf ⟨rfl, by decide, by decide⟩ hY F (fun _ _ a ns hl _ hS => ⟨a, ns, rfl, hS, hl, fun _ => rfl⟩) fun _ _ _ _ _ z => by
    obtain ⟨_, _, _, _, _, _, _, _, _, _, _, z⟩ := z
    exact z
end Prg
open PySem PySem.W PyProof.Rows
def PySem.W.Fast.tw17605915015568408763 : Nat := 0
def PySem.W.Fast.tw16169087980479596970 : Nat := 0
def PySem.W.Fast.tw3134633588930176438 : Nat := 0
def PySem.W.Fast.tw10525063920704415649 : Nat := 0
def PySem.W.Fast.tw9029624088354280176 : Nat := 0
def PySem.W.Fast.tw11940547165151397968 : Nat := 0
def PySem.W.Fast.tw15304635979013342947 : Nat := 0
def PySem.W.Fast.tw3453025107776213074 : Nat := 0
def PySem.W.Fast.tw5521232475198639954 : Nat := 0
def PySem.W.Fast.tw3441956419160490098 : Nat := 0
def PySem.W.Fast.tw16025697549081933311 : Nat := 0
def PySem.W.Fast.tw13576162528243803962 : Nat := 0
def PySem.W.Fast.tw10920740780770841220 : Nat := 0
def PySem.W.Fast.tw15372447364597054055 : Nat := 0
def PySem.W.Fast.tw18403700620138411904 : Nat := 0
def PySem.W.Fast.tw4218474495027587471 : Nat := 0
def PySem.W.Fast.tw9451607788591931182 : Nat := 0
set_option maxRecDepth 100000 in
set_option maxHeartbeats 0 in
theorem PySem.Challenge.cw_slackchain_k52_which_is_fairer_holds : PySem.Challenge.rw_slackchain_k52_which_is_fairer.Holds := by
  w_on; o_law; k_head; (case hw => w_witness2)
  k_fill
  refine Prg.walk (l := PySem.Challenge.rw_slackchain_k52_which_is_fairer) rfl rfl (fun w h Y => PySem.W.kIn_of Y) ?F
  case F =>
    intro w mg fa h KX G hmg
    refine' Prg.all_mk KX G hmg ?g_NoNumber ?g_Twice ?g_NoPart ?g_NoGap ?g_InRing ?g_Apart ?g_Part ?g_Gap ?g_Joints ?g_Thing ?a1 ?l1 ?c1 ?k1 ?a2 ?l2 ?c2 ?k2 ?a3 ?l3 ?c3 ?k3 ?a4 ?l4 ?c4 ?k4 ?a5 ?l5 ?c5 ?k5 ?a6 ?l6 ?c6 ?k6 ?a7 ?l7 ?c7 ?k7 ?a8 ?l8 ?c8 ?k8 ?a9 ?l9 ?c9 ?k9 ?a10 ?l10 ?c10 ?k10 ?a11 ?l11 ?c11 ?k11 ?a12 ?l12 ?c12 ?k12 ?a13 ?l13 ?c13 ?k13 ?a14 ?l14 ?c14 ?k14 ?a15 ?l15 ?c15 ?k15 ?a16 ?l16 ?c16 ?k16 ?a17 ?l17 ?c17 ?k17 ?a18 ?l18 ?c18 ?k18 ?a19 ?l19 ?c19 ?k19 ?a20 ?l20 ?c20 ?k20 ?a21 ?l21 ?c21 ?k21 ?a22 ?l22 ?c22 ?k22 ?a23 ?l23 ?c23 ?k23 ?a24 ?l24 ?c24 ?k24 ?a25 ?l25 ?c25 ?k25 ?a26 ?l26 ?c26 ?k26 ?a27 ?l27 ?c27 ?k27 ?a28 ?l28 ?c28 ?k28 ?a29 ?l29 ?c29 ?k29 ?a30 ?l30 ?c30 ?k30 ?a31 ?l31 ?c31 ?k31 ?a32 ?l32 ?c32 ?k32 ?a33 ?l33 ?c33 ?k33 ?a34 ?l34 ?c34 ?k34 ?z_abs ?z_isinstance ?z_len ?z_all ?z_int ?z_bool ?z_tuple ?z_str ?z_range ?z_list ?z_zip ?z_enumerate ?z_reversed ?g_SMALL_LETTERS ?g_LONGEST_NAME ?g_ZERO ?h_ZERO ?x_NoNumber ?x_Twice ?x_NoPart ?x_NoGap ?x_InRing ?x_Apart ?mk_Part ?mi_Part ?mf_Part ?mp_Part ?mk_Gap ?mi_Gap ?mf_Gap ?mp_Gap ?mk_Joints ?mi_Joints ?mf_Joints ?mp_Joints ?mk_Thing ?mi_Thing ?mf_Thing ?mp_Thing ?me_plain_Part ?mm_plain_Part ?me_link_Joints ?mm_link_Joints ?me_way_between_Joints ?mm_way_between_Joints ?me_parts_Thing ?mm_parts_Thing ?cl1_Part ?cl2_Part ?cl3_Part ?cl4_Part ?na1_Part ?na2_Part ?na3_Part ?na4_Part ?na5_Part ?na6_Part ?cl1_Gap ?cl2_Gap ?cl3_Gap ?cl4_Gap ?na1_Gap ?na2_Gap ?na3_Gap ?na4_Gap ?na5_Gap ?cl1_Joints ?cl2_Joints ?cl3_Joints ?cl4_Joints ?na1_Joints ?cl1_Thing ?cl2_Thing ?cl3_Thing ?cl4_Thing ?na1_Thing ?na2_Thing ?na3_Thing
    (case g_NoNumber => k_is)
    (case g_Twice => k_is)
    (case g_NoPart => k_is)
    (case g_NoGap => k_is)
    (case g_InRing => k_is)
    (case g_Apart => k_is)
    (case g_Part => k_is)
    (case g_Gap => k_is)
    (case g_Joints => k_is)
    (case g_Thing => k_is)
    (case a1 => k_is)
    (case l1 => k_is)
    (case c1 => k_is)
    (case k1 => k_is)
    (case a2 => k_is)
    (case l2 => k_is)
    (case c2 => k_is)
    (case k2 => k_is)
    (case a3 => k_is)
    (case l3 => k_is)
    (case c3 => k_is)
    (case k3 => k_is)
    (case a4 => k_is)
    (case l4 => k_is)
    (case c4 => k_is)
    (case k4 => k_is)
    (case a5 => k_is)
    (case l5 => k_is)
    (case c5 => k_is)
    (case k5 => k_is)
    (case a6 => k_is)
    (case l6 => k_is)
    (case c6 => k_is)
    (case k6 => k_is)
    (case a7 => k_is)
    (case l7 => k_is)
    (case c7 => k_is)
    (case k7 => k_is)
    (case a8 => k_is)
    (case l8 => k_is)
    (case c8 => k_is)
    (case k8 => k_is)
    (case a9 => k_is)
    (case l9 => k_is)
    (case c9 => k_is)
    (case k9 => k_is)
    (case a10 => k_is)
    (case l10 => k_is)
    (case c10 => k_is)
    (case k10 => k_is)
    (case a11 => k_is)
    (case l11 => k_is)
    (case c11 => k_is)
    (case k11 => k_is)
    (case a12 => k_is)
    (case l12 => k_is)
    (case c12 => k_is)
    (case k12 => k_is)
    (case a13 => k_is)
    (case l13 => k_is)
    (case c13 => k_is)
    (case k13 => k_is)
    (case a14 => k_is)
    (case l14 => k_is)
    (case c14 => k_is)
    (case k14 => k_is)
    (case a15 => k_is)
    (case l15 => k_is)
    (case c15 => k_is)
    (case k15 => k_is)
    (case a16 => k_is)
    (case l16 => k_is)
    (case c16 => k_is)
    (case k16 => k_is)
    (case a17 => k_is)
    (case l17 => k_is)
    (case c17 => k_is)
    (case k17 => k_is)
    (case a18 => k_is)
    (case l18 => k_is)
    (case c18 => k_is)
    (case k18 => k_is)
    (case a19 => k_is)
    (case l19 => k_is)
    (case c19 => k_is)
    (case k19 => k_is)
    (case a20 => k_is)
    (case l20 => k_is)
    (case c20 => k_is)
    (case k20 => k_is)
    (case a21 => k_is)
    (case l21 => k_is)
    (case c21 => k_is)
    (case k21 => k_is)
    (case a22 => k_is)
    (case l22 => k_is)
    (case c22 => k_is)
    (case k22 => k_is)
    (case a23 => k_is)
    (case l23 => k_is)
    (case c23 => k_is)
    (case k23 => k_is)
    (case a24 => k_is)
    (case l24 => k_is)
    (case c24 => k_is)
    (case k24 => k_is)
    (case a25 => k_is)
    (case l25 => k_is)
    (case c25 => k_is)
    (case k25 => k_is)
    (case a26 => k_is)
    (case l26 => k_is)
    (case c26 => k_is)
    (case k26 => k_is)
    (case a27 => k_is)
    (case l27 => k_is)
    (case c27 => k_is)
    (case k27 => k_is)
    (case a28 => k_is)
    (case l28 => k_is)
    (case c28 => k_is)
    (case k28 => k_is)
    (case a29 => k_is)
    (case l29 => k_is)
    (case c29 => k_is)
    (case k29 => k_is)
    (case a30 => k_is)
    (case l30 => k_is)
    (case c30 => k_is)
    (case k30 => k_is)
    (case a31 => k_is)
    (case l31 => k_is)
    (case c31 => k_is)
    (case k31 => k_is)
    (case a32 => k_is)
    (case l32 => k_is)
    (case c32 => k_is)
    (case k32 => k_is)
    (case a33 => k_is)
    (case l33 => k_is)
    (case c33 => k_is)
    (case k33 => k_is)
    (case a34 => k_is)
    (case l34 => k_is)
    (case c34 => k_is)
    (case k34 => k_is)
    (case z_abs => k_is)
    (case z_isinstance => k_is)
    (case z_len => k_is)
    (case z_all => k_is)
    (case z_int => k_is)
    (case z_bool => k_is)
    (case z_tuple => k_is)
    (case z_str => k_is)
    (case z_range => k_is)
    (case z_list => k_is)
    (case z_zip => k_is)
    (case z_enumerate => k_is)
    (case z_reversed => k_is)
    (case g_SMALL_LETTERS => k_is)
    (case g_LONGEST_NAME => k_is)
    (case g_ZERO => k_is)
    (case h_ZERO => k_is)
    (case x_NoNumber => k_exc)
    (case x_Twice => k_exc)
    (case x_NoPart => k_exc)
    (case x_NoGap => k_exc)
    (case x_InRing => k_exc)
    (case x_Apart => k_exc)
    (case mk_Part => k_is)
    (case mi_Part => k_is)
    (case mf_Part => k_is)
    (case mp_Part => k_is)
    (case mk_Gap => k_is)
    (case mi_Gap => k_is)
    (case mf_Gap => k_is)
    (case mp_Gap => k_is)
    (case mk_Joints => k_is)
    (case mi_Joints => k_is)
    (case mf_Joints => k_is)
    (case mp_Joints => k_is)
    (case mk_Thing => k_is)
    (case mi_Thing => k_is)
    (case mf_Thing => k_is)
    (case mp_Thing => k_is)
    (case me_plain_Part => k_is)
    (case mm_plain_Part => k_is)
    (case me_link_Joints => k_is)
    (case mm_link_Joints => k_is)
    (case me_way_between_Joints => k_is)
    (case mm_way_between_Joints => k_is)
    (case me_parts_Thing => k_is)
    (case mm_parts_Thing => k_is)
    (case cl1_Part => k_is)
    (case cl2_Part => k_is)
    (case cl3_Part => k_is)
    (case cl4_Part => k_is)
    (case na1_Part => k_is)
    (case na2_Part => k_is)
    (case na3_Part => k_is)
    (case na4_Part => k_is)
    (case na5_Part => k_is)
    (case na6_Part => k_is)
    (case cl1_Gap => k_is)
    (case cl2_Gap => k_is)
    (case cl3_Gap => k_is)
    (case cl4_Gap => k_is)
    (case na1_Gap => k_is)
    (case na2_Gap => k_is)
    (case na3_Gap => k_is)
    (case na4_Gap => k_is)
    (case na5_Gap => k_is)
    (case cl1_Joints => k_is)
    (case cl2_Joints => k_is)
    (case cl3_Joints => k_is)
    (case cl4_Joints => k_is)
    (case na1_Joints => k_is)
    (case cl1_Thing => k_is)
    (case cl2_Thing => k_is)
    (case cl3_Thing => k_is)
    (case cl4_Thing => k_is)
    (case na1_Thing => k_is)
    (case na2_Thing => k_is)
    (case na3_Thing => k_is)
