import PyProof.Rows.All
import Wide.All
import OpenK.AllK
import Wide.FinOn
import Lean
import PyProof.EqAt
import PyProof.EqKinds
import PyProof.TupleCall
import PyProof.ZipIter
import PyProof.Rows.SetFrom
import PyProof.Rows.SortStr
import KE.KDictList
import PyProof.AttrMissHeap
import KE.KDictOf
import PySem.Challenge.RW_slackchain_k31_books_changed
-- CHANGE: your row's module here, as the last of these rows
set_option Elab.async false
set_option linter.all false
set_option maxRecDepth 100000
namespace L2
open PySem PySem.Spec PyProof.Rows

/-- a key: a truth or a str -/
abbrev Key := Sum Bool Str
def isBoolOf : Bool → Value → Bool
  | b, .bool c => b == c
  | _, _ => false
theorem isBoolOf_shape {b : Bool} {v : Value} (h : isBoolOf b v = true) : v = .bool b := by
  cases v <;> simp_all [isBoolOf]
def keyIs : Key → Value → Bool
  | .inl k, v => isBoolOf k v
  | .inr x, v => Value.isStrOf x v
def keyH (w : World) : Key → Int
  | .inl k => hashInt (if k then 1 else 0)
  | .inr x => hashStr w x
theorem keyIs_shape : ∀ {k : Key} {v : Value}, keyIs k v = true → (∃ i, k = Sum.inl i ∧ v = Value.bool i) ∨ (∃ x t, k = Sum.inr x ∧ v = Value.str x t)
  | .inl i, v, h => .inl ⟨i, rfl, isBoolOf_shape h⟩
  | .inr x, v, h => by
    obtain ⟨t, e⟩ := Value.isStrOf_shape (x := x) (v := v) h
    exact .inr ⟨x, t, rfl, e⟩
theorem keyIs_bool (i : Bool) : keyIs (.inl i) (.bool i) = true := by simp [keyIs, isBoolOf]
theorem keyIs_str (x : Str) (t : Tok) : keyIs (.inr x) (.str x t) = true := by simp [keyIs, Value.isStrOf]
theorem key_ll (a b : Bool) : decide ((Sum.inl a : Key) = Sum.inl b) = (a == b) := by cases a <;> cases b <;> rfl
theorem key_rr (a b : Str) : decide ((Sum.inr a : Key) = Sum.inr b) = decide (a = b) := by
  by_cases e : a = b
  · subst e; simp
  · have h : ¬ (Sum.inr a : Key) = Sum.inr b := fun q => e (Sum.inr.inj q)
    rw [decide_eq_false h, decide_eq_false e]
theorem key_lr (a : Bool) (b : Str) : decide ((Sum.inl a : Key) = Sum.inr b) = false := decide_eq_false (fun q => nomatch q)
theorem key_rl (a : Str) (b : Bool) : decide ((Sum.inr a : Key) = Sum.inl b) = false := decide_eq_false (fun q => nomatch q)
theorem pyHash_bool {prog : Program} {w : World} {A : Around} {E : Value → Shared → Prop} {s : Shared} {b : Bool} {Q : Int → Shared → Prop} (h : Q (hashInt (if b then 1 else 0)) { s with toks := s.toks + 1 }) :
    wpAny (model prog w) A (pyHash (.bool b)) Q E s := by
  have hr := rawHash_range (if b then 1 else 0)
  have hT : s.TypeIs (.bool b) "bool" := rfl
  unfold pyHash
  have hv : [Value.bool b].any Value.onHeap = false := rfl
  refine wpAny_bind ?_
  rw [cRoomFor, if_neg (by rw [hv]; exact Bool.false_ne_true)]; refine wpAny_pure ?_
  refine wpAny_bind (wpAny_specialOf hT F.slot_bool_hash.lookup ?_)
  show wpAny _ _ (if (some (Value.builtin "int.__hash__") == some Value.none) = true then _ else _) Q E s
  rw [if_neg (by rw [beq_builtin_none]; exact Bool.false_ne_true)]
  refine wpAny_bind (wpAny_specialOf hT F.slot_bool_hash.lookup ?_)
  show wpAny _ _ (callSpecialIfBoundUnlessNone? (.bool b) "__hash__" _ >>= _) Q E s
  refine wpAny_bind (wpAny_callSpecialIfBoundUnlessNone?_slot hT F.slot_bool_hash
    (wpAny_call_entry F.slot_bool_hash hT entry_int_hash
      (show wpAny _ _ (do ret (← mkInt (rawHash (if b then 1 else 0)))) _ _ s from wpAny_ret_mkInt ?_) (args_int_hash _)))
  show wpAny _ _ (if (decide (-(2 : Int) ^ 63 ≤ rawHash (if b then 1 else 0)) && decide (rawHash (if b then 1 else 0) < 2 ^ 63)) = true then _ else _) Q E _
  rw [if_pos (by rw [decide_eq_true hr.1, decide_eq_true hr.2]; rfl)]
  exact wpAny_pure h

def mixKind (prog : Program) (w : World) : PySem.KeyKind prog w Key where
  is := keyIs
  hash := keyH w
  inj := fun v a b ha hb => by
    rcases keyIs_shape ha with ⟨i, rfl, rfl⟩ | ⟨x, t, rfl, rfl⟩
    · rcases keyIs_shape hb with ⟨j, rfl, e⟩ | ⟨y, u, rfl, e⟩
      · injection e with e1; rw [e1]
      · exact nomatch e
    · rcases keyIs_shape hb with ⟨j, rfl, e⟩ | ⟨y, u, rfl, e⟩
      · exact nomatch e
      · injection e with e1 _; rw [e1]
  byValue := fun k v h => by
    rcases keyIs_shape h with ⟨i, rfl, rfl⟩ | ⟨x, t, rfl, rfl⟩ <;> rfl
  pyHash := fun hv h => by
    rcases keyIs_shape hv with ⟨i, rfl, rfl⟩ | ⟨x, t, rfl, rfl⟩
    · exact pyHash_bool h
    · exact wpAny_pyHash_str h
  eqBool := fun hu hv h => by
    rcases keyIs_shape hu with ⟨i, rfl, rfl⟩ | ⟨x, t, rfl, rfl⟩
    · rcases keyIs_shape hv with ⟨j, rfl, rfl⟩ | ⟨y, u, rfl, rfl⟩
      · rw [key_ll] at h; exact SeqAt.EqAt.bool_bool i j _ _ _ _ h
      · rw [key_lr] at h; exact SeqAt.EqAt.bool_str i y u _ _ _ _ h
    · rcases keyIs_shape hv with ⟨j, rfl, rfl⟩ | ⟨y, u, rfl, rfl⟩
      · rw [key_rl] at h; exact SeqAt.EqAt.str_bool x t j _ _ _ _ h
      · rw [key_rr] at h; exact wpAny_eqBool_str h
  «strs» := fun k x t v h => by
    rcases keyIs_shape h with ⟨i, rfl, e⟩ | ⟨y, u, rfl, e⟩
    · exact nomatch e
    · injection e with e1 _
      subst e1
      cases v <;> rfl

theorem mixKind_bool (prog : Program) (w : World) (i : Bool) : (mixKind prog w).is (.inl i) (.bool i) = true := keyIs_bool i
theorem mixKind_str (prog : Program) (w : World) (x : Str) (t : Tok) : (mixKind prog w).is (.inr x) (.str x t) = true := keyIs_str x t
end L2

namespace L2
open PySem PySem.Spec PyProof.Rows

/-- a value, without the heap -/
inductive V where
  | non | bl (b : Bool) | int (i : Int) | str (x : Str) | byt (b : Array UInt8) | flt (b : UInt64) | ref (a : Addr) | ty (n : String)
  deriving DecidableEq

def RelV : V → Value → Prop
  | .non, u => u = Value.none
  | .bl b, u => u = Value.bool b
  | .int i, u => ∃ t, u = Value.int i t
  | .str x, u => ∃ t, u = Value.str x t
  | .byt b, u => ∃ t, u = Value.bytes b t
  | .flt b, u => ∃ t, u = Value.float b t
  | .ref a, u => u = Value.ref a
  | .ty n, u => u = Value.type n

abbrev Vals : List V → List Value → Prop := Paired RelV
theorem Vals.length {xs : List V} {us : List Value} (r : Vals xs us) : xs.length = us.length := Paired.length r
theorem Vals.get : ∀ {xs : List V} {us : List Value} {i : Nat} {x : V}, Vals xs us → xs[i]? = some x → ∃ u, us[i]? = some u ∧ RelV x u
  | _, _, _, _, .nil, e => by simp at e
  | _, _, 0, _, .cons r _, e => by simp at e; subst e; exact ⟨_, rfl, r⟩
  | _, _, i + 1, x, .cons _ t, e => by
    obtain ⟨u, h1, h2⟩ := Vals.get (i := i) (x := x) t (by simpa using e)
    exact ⟨u, by simpa using h1, h2⟩
theorem Vals.set {x : V} {u : Value} (r : RelV x u) : ∀ {xs : List V} {us : List Value} (i : Nat), Vals xs us → Vals (xs.set i x) (us.set i u)
  | _, _, _, .nil => .nil
  | _, _, 0, .cons _ t => .cons r t
  | _, _, i + 1, .cons q t => .cons q (Vals.set r i t)
theorem Vals.append : ∀ {xs ys : List V} {us ws : List Value}, Vals xs us → Vals ys ws → Vals (xs ++ ys) (us ++ ws)
  | _, _, _, _, .nil, s => s
  | _, _, _, _, .cons r t, s => .cons r (Vals.append t s)
theorem Vals.take : ∀ {xs : List V} {us : List Value} (n : Nat), Vals xs us → Vals (xs.take n) (us.take n)
  | _, _, 0, _ => .nil
  | _, _, _ + 1, .nil => .nil
  | _, _, n + 1, .cons r t => .cons r (Vals.take n t)
theorem Vals.drop : ∀ {xs : List V} {us : List Value} (n : Nat), Vals xs us → Vals (xs.drop n) (us.drop n)
  | _, _, 0, r => r
  | _, _, _ + 1, .nil => .nil
  | _, _, n + 1, .cons _ t => Vals.drop n t
theorem Vals.none_of : ∀ {xs : List V} {us : List Value} {i : Nat}, Vals xs us → xs[i]? = none → us[i]? = none := fun {xs us i} r e => by
  have h1 := r.length
  have h2 : xs.length ≤ i := List.getElem?_eq_none_iff.mp e
  exact List.getElem?_eq_none_iff.mpr (by omega)

def RelO : Option V → Option Value → Prop
  | some v, some u => RelV v u
  | none, none => True
  | _, _ => False
def KV {κ : Type} : List (κ × V) → List (κ × Value) → Prop := Paired fun (p : κ × V) (q : κ × Value) => p.1 = q.1 ∧ RelV p.2 q.2

/-- a key of a dict (00_mix): an int or a text -/
def kV : Key → V
  | .inl i => .bl i
  | .inr x => .str x

/-- what stands at a tracked address -/
inductive HO where
  /-- a list -/
  | lst (xs : List V)
  /-- a tuple (never changes) -/
  | tup (xs : List V)
  /-- a dict whose keys are ints and texts; one whose keys are tuples of ints and texts (the empty one is both) -/
  | dK (kvs : List (Key × V)) | dT (kvs : List (List Key × V))
  /-- a set of ints: its members, its size -/
  | set (S : Int → Bool) (n : Nat)
  /-- an instance of the class at C, its dict at dx, its attributes -/
  | ins (C dx : Addr) (fs : List (Str × V))
  /-- the dict of the instance at x -/
  | own (x : Addr)
  /-- the dict of an exception -/
  | xd (fs : List (Str × V))
  /-- a bound method, f of x -/
  | met (f x : Addr)
  /-- a range object lo, lo + 1, .. below hi -/
  | rng (lo hi : Int)
  /-- a thing that is known to the object (the script; a dict while a loop walks it): read, never written while it is so -/
  | frz (o : Obj) (u : HO)
  /-- a code object's table -/
  | tbl (ps : Array Value)
  /-- any other thing, by what is true of its one object (a def of one's own: SetO a S n := HO.ext fun h => ..) -/
  | ext (φ : Heap → Prop)

abbrev Hp := Addr → Option HO
def upd (H : Hp) (a : Addr) (o : HO) : Hp := fun b => if b = a then some o else H b
theorem upd_same {H : Hp} {a : Addr} {o : HO} : upd H a o a = some o := by unfold upd; rw [if_pos rfl]
theorem upd_ne {H : Hp} {a b : Addr} {o : HO} (h : b ≠ a) : upd H a o b = H b := by unfold upd; rw [if_neg h]
/-- two objects of different content stand apart -/
theorem ne_of {H : Hp} {a b : Addr} {o u : HO} (h : H a = some o) (h' : H b = some u) (d : o ≠ u) : a ≠ b := by
  intro e; subst e; rw [h] at h'; exact d (Option.some.inj h')
theorem ne_of_none {H : Hp} {a b : Addr} {o : HO} (h : H a = some o) (h' : H b = none) : a ≠ b := by
  intro e; subst e; rw [h] at h'; cases h'

section
variable (P : Program) (w : World)
def ObjOk (H : Hp) (h : Heap) (a : Addr) : HO → Prop
  | .lst xs => xs.length ≤ sizeLine ∧ ∃ (its : List Value) (n : Nat), Vals xs its ∧ h.get? a = some { cls := .type "list", data := .seq its.toArray n }
  | .tup xs => xs.length ≤ sizeLine ∧ ∃ its : List Value, Vals xs its ∧ IsTup h a its.toArray
  | .dK kvs => kvs.length ≤ sizeLine ∧ (a == sysModules) = false ∧ ∃ vs, KV kvs vs ∧ h.DictOf (mixKind P w) a vs
  | .dT kvs => kvs.length ≤ sizeLine ∧ (a == sysModules) = false ∧ ∃ xs : List (List Key × Addr × Value),
      Paired (fun (p : List Key × V) (q : List Key × Addr × Value) => p.1 = q.1 ∧ H q.2.1 = some (.tup (p.1.map kV)) ∧ RelV p.2 q.2.2) kvs xs ∧
      ∃ o es ep, h.get? a = some o ∧ o.ExactDict ∧ o.data = .dict es ep ∧ es.toList = xs.map (entryOfKey (tupleKind (mixKind P w))) ∧ (xs.map (·.1)).Nodup
  | .set S n => h.SetOf (intKind P w) a S n
  | .ins C dx fs => H dx = some (.own a) ∧ fs.length ≤ 1000 ∧ dx ≠ a ∧ h.get? a = some (PySem.W.instObj C dx) ∧
      ∃ mA, h.Ns1 dx mA ∧ (∀ f, RelO (fs.lookup f) (mA f)) ∧ PySem.Within mA (fs.map (·.1))
  | .own _ => ∃ o, h.get? a = some o
  | .xd fs => ∃ mA, h.Ns1 a mA ∧ ∀ f, RelO (fs.lookup f) (mA f)
  | .rng lo hi => ∃ t u v, h.get? a = some { cls := .type "range", data := .fields #[.int lo t, .int hi u, .int 1 v] }
  | .frz o u => h.get? a = some o ∧ ObjOk H h a u
  | .tbl ps => h.get? a = some { cls := .none, data := .fields ps }
  | .met f x => h.get? a = some (PySem.W.methodObj (.ref f) (.ref x))
  | .ext φ => φ h ∧ (∃ o, h.get? a = some o) ∧ ∀ h1 h2 : Heap, φ h1 → (∀ o, h1.get? a = some o → h2.get? a = some o) → φ h2
/-- the abstract heap is held -/
def HOk (H : Hp) (h : Heap) : Prop := ∀ a o, H a = some o → ObjOk P w H h a o
end

section
variable {P : Program} {w : World} {H H' : Hp} {h h' : Heap} {a : Addr} {o : HO}
theorem ObjOk.lt (x : ObjOk P w H h a o) : a < h.objs.size := by
  cases o with
  | lst xs => obtain ⟨_, _, _, _, e⟩ := x; exact Heap.lt_size e
  | tup xs => obtain ⟨_, _, _, p⟩ := x; exact p.lt
  | dK kvs => obtain ⟨_, _, _, _, o, _, _, e, _⟩ := x; exact Heap.lt_size e
  | dT kvs => obtain ⟨_, _, _, _, o, _, _, e, _⟩ := x; exact Heap.lt_size e
  | set S n => obtain ⟨o, _, _, _, e, _⟩ := x; exact Heap.lt_size e
  | ins C dx fs => obtain ⟨_, _, _, e, _⟩ := x; exact Heap.lt_size e
  | own y => obtain ⟨_, e⟩ := x; exact Heap.lt_size e
  | xd fs => obtain ⟨_, ⟨_, _, _, e, _⟩, _⟩ := x; exact Heap.lt_size e
  | rng lo hi => obtain ⟨_, _, _, e⟩ := x; exact Heap.lt_size e
  | frz ob u => obtain ⟨e, _⟩ := x; exact Heap.lt_size e
  | tbl ps => exact Heap.lt_size (show h.get? a = some _ from x)
  | met f y => exact Heap.lt_size (show h.get? a = some _ from x)
  | ext φ => obtain ⟨_, ⟨_, e⟩, _⟩ := x; exact Heap.lt_size e
theorem Paired.mapP {α β : Type} {F G : α → β → Prop} : ∀ {l₁ : List α} {l₂ : List β}, Paired F l₁ l₂ → (∀ a b, F a b → G a b) → Paired G l₁ l₂
  | _, _, .nil, _ => .nil
  | _, _, .cons r t, f => .cons (f _ _ r) (Paired.mapP t f)
/-- what an object's description leans on: its own object, its own dict, the tuples -/
theorem ObjOk.stay (x : ObjOk P w H h a o) (k : ∀ b u, (b = a ∨ H b = some (.own a)) → h.get? b = some u → h'.get? b = some u)
    (ho : ∀ b, H b = some (.own a) → H' b = some (.own a)) (ht : ∀ b xs, H b = some (.tup xs) → H' b = some (.tup xs)) : ObjOk P w H' h' a o := by
  induction o with
  | lst xs => obtain ⟨z, its, n, r, e⟩ := x; exact ⟨z, its, n, r, k _ _ (.inl rfl) e⟩
  | tup xs => obtain ⟨z, its, r, ob, e, c⟩ := x; exact ⟨z, its, r, ob, k _ _ (.inl rfl) e, c⟩
  | dK kvs => obtain ⟨z, y, vs, r, ob, es, ep, e, c⟩ := x; exact ⟨z, y, vs, r, ob, es, ep, k _ _ (.inl rfl) e, c⟩
  | dT kvs =>
    obtain ⟨z, y, xs, r, ob, es, ep, e, c⟩ := x
    exact ⟨z, y, xs, Paired.mapP r fun p q z => ⟨z.1, ht _ _ z.2.1, z.2.2⟩, ob, es, ep, k _ _ (.inl rfl) e, c⟩
  | set S n => obtain ⟨ob, es, ep, t, e, c⟩ := x; exact ⟨ob, es, ep, t, k _ _ (.inl rfl) e, c⟩
  | ins C dx fs =>
    obtain ⟨d, z, ne, e, mA, ⟨od, es, ep, e2, c⟩, r⟩ := x
    exact ⟨ho _ d, z, ne, k _ _ (.inl rfl) e, mA, ⟨od, es, ep, k _ _ (.inr d) e2, c⟩, r⟩
  | own y => obtain ⟨ob, e⟩ := x; exact ⟨ob, k _ _ (.inl rfl) e⟩
  | xd fs => obtain ⟨mA, ⟨od, es, ep, e, c⟩, r⟩ := x; exact ⟨mA, ⟨od, es, ep, k _ _ (.inl rfl) e, c⟩, r⟩
  | rng lo hi => obtain ⟨t, u, v, e⟩ := x; exact ⟨t, u, v, k _ _ (.inl rfl) e⟩
  | frz ob u ih => obtain ⟨e, q⟩ := x; exact ⟨k _ _ (.inl rfl) e, ih q⟩
  | tbl ps =>
    have e : h.get? a = some { cls := .none, data := .fields ps } := x
    show h'.get? a = some { cls := .none, data := .fields ps }
    exact k a _ (.inl rfl) e
  | met f y =>
    have e : h.get? a = some (PySem.W.methodObj (.ref f) (.ref y)) := x
    show h'.get? a = some (PySem.W.methodObj (.ref f) (.ref y))
    exact k a _ (.inl rfl) e
  | ext φ => obtain ⟨p, ⟨o, e⟩, st⟩ := x; exact ⟨st _ _ p fun o q => k _ _ (.inl rfl) q, ⟨o, k _ _ (.inl rfl) e⟩, st⟩
theorem HOk.lt (x : HOk P w H h) (e : H a = some o) : a < h.objs.size := (x a o e).lt
theorem HOk.fresh (x : HOk P w H h) (e : h.objs.size ≤ a) : H a = none := by
  cases q : H a with
  | none => rfl
  | some u => exact absurd (Nat.lt_of_lt_of_le (x.lt q) e) (Nat.lt_irrefl _)
/-- every object of the heap is kept -/
theorem HOk.kept (x : HOk P w H h) (k : ∀ b u, h.get? b = some u → h'.get? b = some u) : HOk P w H h' := fun a o e =>
  (x a o e).stay (fun b u _ q => k b u q) (fun _ q => q) fun _ _ q => q
/-- a new object is laid and tracked -/
theorem HOk.laid (x : HOk P w H h) (k : ∀ b u, h.get? b = some u → h'.get? b = some u) (hp : h.objs.size ≤ a) (new : ObjOk P w (upd H a o) h' a o) : HOk P w (upd H a o) h' := fun b u e => by
  have hn := x.fresh hp
  by_cases hb : b = a
  · subst hb; rw [upd_same] at e; cases e; exact new
  · rw [upd_ne hb] at e
    exact (x b u e).stay (fun c v _ q => k c v q) (fun c q => by rw [upd_ne (ne_of_none q hn)]; exact q) fun c xs q => by rw [upd_ne (ne_of_none q hn)]; exact q
end

/-- what may be read as u: it is u, or a known u -/
def Rd (H : Hp) (a : Addr) (u : HO) : Prop := H a = some u ∨ ∃ o, H a = some (.frz o u)
theorem Rd.of {H : Hp} {a : Addr} {u : HO} (h : H a = some u) : Rd H a u := .inl h
theorem Rd.ok {P : Program} {w : World} {H : Hp} {h : Heap} {a : Addr} {u : HO} (r : Rd H a u) (x : HOk P w H h) : ObjOk P w H h a u := by
  rcases r with r | ⟨o, r⟩
  · exact x a u r
  · obtain ⟨_, q⟩ := x a _ r
    exact q
/-- what may be written -/
def Mut : Option HO → Prop
  | some (.lst _) => True
  | some (.dK _) => True
  | some (.dT _) => True
  | some (.set _ _) => True
  | some (.ins _ _ _) => True
  | some (.ext _) => True
  | _ => False
section
variable {P : Program} {w : World} {H : Hp} {h h' : Heap} {x e : Addr} {o' : HO}
/-- the object at e is changed: x itself, or the dict of the instance x -/
theorem HOk.write (ok : HOk P w H h) (mu : Mut (H x)) (he : e = x ∨ H e = some (.own x)) (k : ∀ b u, b ≠ e → h.get? b = some u → h'.get? b = some u) (heo : ∃ u, h'.get? e = some u)
    (new : ObjOk P w (upd H x o') h' x o') : HOk P w (upd H x o') h' := fun b u q => by
  have nown : ∀ c y, H c = some (.own y) → c ≠ x := fun c y r z => by subst z; rw [r] at mu; exact mu
  have ntup : ∀ c xs, H c = some (.tup xs) → c ≠ x := fun c xs r z => by subst z; rw [r] at mu; exact mu
  by_cases hb : b = x
  · subst hb; rw [upd_same] at q; cases q; exact new
  · rw [upd_ne hb] at q
    by_cases hbe : b = e
    · have q' : H b = some (.own x) := by
        rcases he with z | z
        · exact absurd (hbe.trans z) hb
        · rw [hbe]; exact z
      rw [q] at q'; cases q'
      obtain ⟨v, hv⟩ := heo
      exact ⟨v, by rw [hbe]; exact hv⟩
    · refine (ok b u q).stay (fun c v hc r => k c v ?_ r) (fun c r => by rw [upd_ne (nown c b r)]; exact r) fun c xs r => by rw [upd_ne (ntup c xs r)]; exact r
      rcases hc with rfl | hc
      · exact hbe
      · rintro rfl
        rcases he with z | z
        · exact nown c b hc z
        · rw [hc] at z; cases z; exact hb rfl
end

structure Un (fs ex : List Addr) (H H' : Hp) (h h' : Heap) : Prop where
  keep : ∀ b o, h.get? b = some o → H b = none → b ∉ fs → b ∉ ex → h'.get? b = some o
  slot : ∀ b o, h.get? b = some o → H b = none → b ∈ fs → b ∉ ex → ∃ sl, h'.get? b = some { o with slots := sl }
  free : ∀ b o, h.get? b = some o → H b = none → b ∉ ex → H' b = none
  there : ∀ b o, h.get? b = some o → b ∉ ex → ∃ o', h'.get? b = some o'
  tups : ∀ b xs, H b = some (.tup xs) → H' b = some (.tup xs)
  frzs : ∀ b o u, H b = some (.frz o u) → H' b = some (.frz o u)
  tbls : ∀ b ps, H b = some (.tbl ps) → ∃ more, H' b = some (.tbl (ps ++ more))
section
variable {fs fs' ex ex' : List Addr} {H H1 H2 : Hp} {h h1 h2 h' : Heap} {a x e : Addr} {o : HO}
theorem Un.any (u : Un fs ex H H1 h h1) {b : Addr} {ob : Obj} (q : h.get? b = some ob) (n : H b = none) (hx : b ∉ ex) : ∃ sl, h1.get? b = some { ob with slots := sl } := by
  by_cases hb : b ∈ fs
  · exact u.slot b ob q n hb hx
  · exact ⟨ob.slots, u.keep b ob q n hb hx⟩
theorem Un.trans (a : Un fs ex H H1 h h1) (b : Un fs ex H1 H2 h1 h2) : Un fs ex H H2 h h2 where
  keep := fun c ob q n hc hx => b.keep c ob (a.keep c ob q n hc hx) (a.free c ob q n hx) hc hx
  slot := fun c ob q n hc hx => by
    obtain ⟨sl, e1⟩ := a.slot c ob q n hc hx
    obtain ⟨sl', e2⟩ := b.slot c _ e1 (a.free c ob q n hx) hc hx
    exact ⟨sl', e2⟩
  free := fun c ob q n hx => by
    obtain ⟨o', e1⟩ := a.there c ob q hx
    exact b.free c o' e1 (a.free c ob q n hx) hx
  there := fun c ob q hx => by
    obtain ⟨o', e1⟩ := a.there c ob q hx
    exact b.there c o' e1 hx
  tups := fun c xs q => b.tups c xs (a.tups c xs q)
  frzs := fun c ob xs q => b.frzs c ob xs (a.frzs c ob xs q)
  tbls := fun c ps q => by
    obtain ⟨m1, e1⟩ := a.tbls c ps q
    obtain ⟨m2, e2⟩ := b.tbls c _ e1
    exact ⟨m1 ++ m2, by rw [e2, Array.append_assoc]⟩
theorem Un.kept (k : ∀ b u, h.get? b = some u → h'.get? b = some u) : Un fs ex H H h h' :=
  ⟨fun b ob q _ _ _ => k b ob q, fun b ob q _ _ _ => ⟨ob.slots, k b ob q⟩, fun _ _ _ n _ => n, fun b ob q _ => ⟨ob, k b ob q⟩, fun _ _ q => q, fun _ _ _ q => q, fun _ ps q => ⟨#[], by rw [q]; simp⟩⟩
theorem Un.refl : Un fs ex H H h h := Un.kept fun _ _ q => q
theorem Un.laid (k : ∀ b u, h.get? b = some u → h'.get? b = some u) (hp : h.objs.size ≤ a) (hn : H a = none) : Un fs ex H (upd H a o) h h' where
  keep := fun b u q _ _ _ => k b u q
  slot := fun b u q _ _ _ => ⟨u.slots, k b u q⟩
  free := fun b u q n _ => by rw [upd_ne (Nat.ne_of_lt (Nat.lt_of_lt_of_le (Heap.lt_size q) hp))]; exact n
  there := fun b u q _ => ⟨u, k b u q⟩
  tups := fun b xs q => by rw [upd_ne (ne_of_none q hn)]; exact q
  frzs := fun b u xs q => by rw [upd_ne (ne_of_none q hn)]; exact q
  tbls := fun b ps q => ⟨#[], by rw [upd_ne (ne_of_none q hn), q]; simp⟩
theorem Un.write (mu : Mut (H x)) (he : e = x ∨ H e = some (.own x)) (k : ∀ b u, b ≠ e → h.get? b = some u → h'.get? b = some u) (heo : ∃ u, h'.get? e = some u) : Un fs ex H (upd H x o) h h' := by
  have hx : ∀ b, H b = none → b ≠ x := fun b n z => by subst z; rw [n] at mu; exact mu
  have hb : ∀ b, H b = none → b ≠ e := fun b n z => by
    subst z
    rcases he with r | r
    · exact hx b n r
    · rw [n] at r; cases r
  have hm : ∀ b u, H b = some u → ¬ Mut (some u) → b ≠ x := fun b u q nm z => by subst z; rw [q] at mu; exact nm mu
  refine ⟨fun b u q n _ _ => k b u (hb b n) q, fun b u q n _ _ => ⟨u.slots, k b u (hb b n) q⟩, fun b u q n _ => by rw [upd_ne (hx b n)]; exact n, fun b u q _ => ?_,
    fun b xs q => by rw [upd_ne (hm b _ q fun z => z)]; exact q, fun b u xs q => by rw [upd_ne (hm b _ q fun z => z)]; exact q, fun b ps q => ⟨#[], by rw [upd_ne (hm b _ q fun z => z), q]; simp⟩⟩
  by_cases hbe : b = e
  · subst hbe; exact heo
  · exact ⟨u, k b u hbe q⟩
theorem Un.mono (u : Un fs ex H H1 h h1) (hs : ∀ b ∈ fs, b ∈ fs') (hx : ∀ b ∈ ex, b ∈ ex') : Un fs' ex' H H1 h h1 :=
  ⟨fun b ob q n hb he => u.keep b ob q n (fun z => hb (hs b z)) fun z => he (hx b z), fun _ _ q n _ he => u.any q n fun z => he (hx _ z), fun b ob q n he => u.free b ob q n fun z => he (hx b z), fun b ob q he => u.there b ob q fun z => he (hx b z), u.tups, u.frzs, u.tbls⟩
end

def trk (h : Heap) (H : Hp) : List Addr := (List.range h.objs.size).filter fun a => (H a).isSome
def hidT (h : Heap) (H : Hp) : Heap := PySem.W.hideAll h (trk h H)
theorem hidT_size (h : Heap) (H : Hp) : (hidT h H).objs.size = h.objs.size := PySem.W.hideAll_size _ _
theorem hidT_get {h : Heap} {H : Hp} {b : Addr} {o : Obj} (e : h.get? b = some o) (n : H b = none) : (hidT h H).get? b = some o :=
  PySem.W.hideAll_get _ e fun hm => by
    have q : (H b).isSome = true := (List.mem_filter.mp hm).2
    rw [n] at q; simp at q
theorem of_hidT {h : Heap} {H : Hp} {b : Addr} {o : Obj} (e : (hidT h H).get? b = some o) : h.get? b = some o ∧ H b = none := by
  have e' : h.get? b = some o := PySem.W.of_hideAll (trk h H) e
  refine ⟨e', ?_⟩
  cases q : H b with
  | none => rfl
  | some x =>
    have hm : b ∈ trk h H := List.mem_filter.mpr ⟨List.mem_range.mpr (Heap.lt_size e'), by simp [q]⟩
    have z : (hidT h H).get? b = none := PySem.W.hideAll_none (trk h H) hm
    rw [z] at e; cases e

def allNews (g h : Heap) (L : Addr) : List (Addr × Obj) := (List.range h.objs.size).filterMap fun a => if a = L ∨ (g.get? a).isSome = true then none else (h.get? a).map fun o => (a, o)
def rest (g h : Heap) (L d : Addr) : List (Addr × Obj) := (allNews g h L).filter fun p => decide (p.1 ≠ d)
end L2

namespace L2
open PySem PySem.Spec PyProof.Rows

/-- the module's facts, over the base: the heap at the law's entry without what is tracked there -/
structure Mod (K : PySem.W.Frag) (mg : Str → Option Value) (base : Heap) : Prop where
  kin : K.In base
  glob : base.Ns mainGlobals mg
  blt : ∃ mb, base.Ns builtinsNs mb ∧ ∀ x : Str, x ≠ "__name__" → mb x = bootBuiltins x
  nolimit : base.NoLimit

/-- the context: a def's body (or a comprehension's block) running. base: fixed through the whole law; s₀, H₀: the entry; outer: the frames whose slots others may change (a def's callers); stack: all frames that run;
   ex: iterators that were made ahead of the entry and are walked here (a comprehension's); fn: the names whose cells were made at the entry (a def: all; a comprehension's block: its own); calm: not within an except suite; pn: pins that every state bears; xe: what is wanted of an exception that leaves the code -/
structure Cx where
  prog : Program
  w : World
  K : PySem.W.Frag
  mg : Str → Option Value
  base : Heap
  A : Around
  N : List Str
  s₀ : Shared
  H₀ : Hp
  env : Env
  outer : List Env
  stack : List Env
  ex : List Addr
  fn : Str → Bool
  calm : Bool
  pn : List (Addr × Obj)
  xe : Value → Shared → Prop
/-- the callers' frames -/
def frs (l : List Env) : List Addr := l.filterMap (·.frame)
abbrev Cx.fs (X : Cx) : List Addr := frs X.outer

def Vis (sc : Scope) (x : Str) : Prop := sc.names.lookup x = some .local ∨ sc.names.lookup x = some .cell ∨ sc.names.lookup x = some .free
def Loc (sc : Scope) (x : Str) : Prop := sc.names.lookup x = some .local ∨ sc.names.lookup x = some .cell
def Look (env : Env) (h : Heap) (m : Str → Option Value) (x : Str) (u : Value) : Prop :=
  (env.kindOf x = some .local ∧ m x = some u) ∨ ((env.kindOf x = some .cell ∨ env.kindOf x = some .free) ∧ ∃ c, env.cells.lookup x = some c ∧ h.IsCell c (some u))

structure Cx.Ok (X : Cx) : Prop where
  mod : Mod X.K X.mg X.base
  kind : X.env.scope.kind = .function
  glob : X.env.globals = mainGlobals
  blt : X.env.builtins = builtinsNs
  above : X.s₀.heap.objs.size ≤ X.env.locals
  inj : ∀ x y c, X.env.cells.lookup x = some c → X.env.cells.lookup y = some c → x = y
  has : ∀ x, (X.env.kindOf x = some .cell ∨ X.env.kindOf x = some .free) → ∃ c, X.env.cells.lookup x = some c
  cab : ∀ x c, X.fn x = true → X.env.cells.lookup x = some c → X.s₀.heap.objs.size ≤ c
  hd : X.calm = true → X.A.handled = none
  frames : X.A.frames = some X.stack
  stk : X.stack = X.outer ∨ (X.stack = X.env :: X.outer ∧ X.env.frame = some X.env.locals)
  exf : ∀ b ∈ X.ex, b ≠ X.env.locals ∧ ∀ x c, X.env.cells.lookup x = some c → c ≠ b
  bs : ∀ b o, X.base.get? b = some o → X.s₀.heap.get? b = some o ∧ X.H₀ b = none
  bsz : X.base.objs.size ≤ X.s₀.heap.objs.size
  noex : ∀ b o, X.base.get? b = some o → b ∉ X.ex
  exfs : ∀ b ∈ X.ex, b ∉ X.fs
  funs : X.s₀.heap.FunFrames X.base X.outer
  frf : ∀ b ∈ X.fs, X.H₀ b = none

structure Inv (X : Cx) (pins : List (Addr × Obj)) (σ : List (Option V)) (H : Hp) (s : Shared) : Prop where
  ok : X.Ok
  os : s.os = X.s₀.os
  bare : AllBare s.gens
  base : Un X.fs X.ex X.H₀ H X.s₀.heap s.heap
  loc : ∃ m, s.heap.Ns X.env.locals m ∧ ∀ (i : Nat) (x : Str) (v : V), X.N[i]? = some x → σ[i]? = some (some v) → Vis X.env.scope x → ∃ u, RelV v u ∧ Look X.env s.heap m x u
  cell : ∀ x c, X.env.cells.lookup x = some c → ∃ v, s.heap.IsCell c v
  free : H X.env.locals = none
  freeC : ∀ x c, X.env.cells.lookup x = some c → H c = none
  pin : ∀ p ∈ X.pn ++ pins, s.heap.get? p.1 = some p.2 ∧ H p.1 = none ∧ p.1 ≠ X.env.locals ∧ p.1 ∉ X.fs ∧ ∀ v, p.2.data ≠ .cell v
  hok : HOk X.prog X.w H s.heap
  len : σ.length = X.N.length

section
variable {X : Cx} {pins : List (Addr × Obj)} {σ : List (Option V)} {H H' : Hp} {s : Shared} {h' : Heap}

theorem Cx.Ok.nofr (ok : X.Ok) {b : Addr} {o : Obj} (e : X.base.get? b = some o) : b ∉ X.fs := fun hb => by
  have := (ok.funs.mem hb).1
  rw [e] at this; cases this
theorem Inv.bs (I : Inv X pins σ H s) : ∀ b o, X.base.get? b = some o → s.heap.get? b = some o ∧ H b = none := fun b o e =>
  ⟨I.base.keep b o (I.ok.bs b o e).1 (I.ok.bs b o e).2 (I.ok.nofr e) (I.ok.noex b o e), I.base.free b o (I.ok.bs b o e).1 (I.ok.bs b o e).2 (I.ok.noex b o e)⟩
theorem Inv.bk (I : Inv X pins σ H s) : ∀ b o, X.base.get? b = some o → s.heap.get? b = some o := fun b o e => (I.bs b o e).1
theorem Inv.mod (I : Inv X pins σ H s) : Mod X.K X.mg X.base := I.ok.mod
theorem Inv.kIn (I : Inv X pins σ H s) : X.K.In s.heap := I.ok.mod.kin.keeps I.bk
theorem Inv.nolimit (I : Inv X pins σ H s) : s.heap.NoLimit := I.ok.mod.nolimit.keeps I.bk
/-- the frame over the base: for OpenK's rules (K.In X.base is I.mod.kin) -/
theorem Inv.fr (I : Inv X pins σ H s) : ∃ m, Fr X.base X.env.locals s.heap m :=
  let ⟨m, hn, _⟩ := I.loc
  ⟨m, hn, I.bk, Nat.le_trans I.ok.bsz I.ok.above⟩
theorem Inv.lt (I : Inv X pins σ H s) : X.env.locals < s.heap.objs.size := let ⟨_, hn, _⟩ := I.loc; hn.lt
theorem Inv.sz (I : Inv X pins σ H s) : X.s₀.heap.objs.size ≤ s.heap.objs.size := Nat.le_trans I.ok.above (Nat.le_of_lt I.lt)
theorem Inv.nofs (I : Inv X pins σ H s) {a : Addr} (h : s.heap.objs.size ≤ a) : a ∉ X.fs := fun hb => by
  obtain ⟨_, o, ho, _⟩ := I.ok.funs.mem hb
  exact absurd (Nat.lt_of_lt_of_le (Heap.lt_size ho) (Nat.le_trans I.sz h)) (Nat.lt_irrefl _)
theorem Inv.cne (I : Inv X pins σ H s) : ∀ x c, X.env.cells.lookup x = some c → c ≠ X.env.locals := fun x c e z => by
  obtain ⟨v, o, ho, hd⟩ := I.cell x c e
  obtain ⟨m, ⟨o', es, ep, ho', hd', _⟩, _⟩ := I.loc
  rw [z, ho'] at ho; cases ho; rw [hd'] at hd; cases hd
theorem Inv.funs (I : Inv X pins σ H s) : s.heap.FunFrames X.base X.outer := by
  have all : ∀ (l : List Env), (∀ b ∈ frs l, b ∈ X.fs) → X.s₀.heap.FunFrames X.base l → s.heap.FunFrames X.base l := by
    intro l
    induction l with
    | nil => intro _ _; trivial
    | cons env r ih =>
      intro hs hl
      obtain ⟨hk, ⟨L, o, hf, hn, ho, hd⟩, hr⟩ := hl
      have hL : L ∈ X.fs := hs L (by unfold frs; rw [List.filterMap_cons, hf]; exact List.mem_cons_self)
      obtain ⟨sl, e⟩ := I.base.slot L o ho (I.ok.frf L hL) hL fun z => I.ok.exfs L z hL
      exact ⟨hk, ⟨L, _, hf, hn, e, hd⟩, ih (fun b hb => hs b (by unfold frs; rw [List.filterMap_cons, hf]; exact List.mem_cons_of_mem _ hb)) hr⟩
  exact all X.outer (fun _ hb => hb) I.ok.funs

/-- the frames that run, for a call -/
theorem Inv.stack (I : Inv X pins σ H s) : s.heap.FunFrames X.base X.stack := by
  rcases I.ok.stk with e | ⟨e, hf⟩
  · rw [e]; exact I.funs
  · rw [e]
    obtain ⟨m, hn, _⟩ := I.loc
    refine .cons (by rw [I.ok.kind]; decide) hf hn ?_ I.funs
    exact Heap.get?_none_of_le (Nat.le_trans I.ok.bsz I.ok.above)
theorem Inv.stkSub (I : Inv X pins σ H s) : ∀ b ∈ frs X.stack, b ∈ X.env.locals :: X.fs := fun b hb => by
  rcases I.ok.stk with e | ⟨e, hf⟩
  · rw [e] at hb; exact List.mem_cons_of_mem _ hb
  · rw [e] at hb
    unfold frs at hb
    rw [List.filterMap_cons, hf] at hb
    exact hb
theorem Inv.stkFree (I : Inv X pins σ H s) : ∀ b ∈ frs X.stack, H b = none := fun b hb => by
  rcases List.mem_cons.mp (I.stkSub b hb) with e | hb
  · rw [e]; exact I.free
  · obtain ⟨_, o, ho, _⟩ := I.ok.funs.mem hb
    exact I.base.free b o ho (I.ok.frf b hb) fun z => I.ok.exfs b z hb

/-- THE STEP: the untracked objects but the frame and the records at ch are kept (the callers' frames up to slots), the frame's map is kept, the new abstract heap is held -/
theorem Inv.step {g' : Array GenState} {t' : Nat} {d' : Drawn} {ch : List Addr} (I : Inv X pins σ H s)
    (hch : ∀ b ∈ ch, (b ∈ X.ex ∨ X.s₀.heap.objs.size ≤ b) ∧ b ≠ X.env.locals ∧ (∀ x c, X.env.cells.lookup x = some c → c ≠ b) ∧ ∀ p ∈ X.pn ++ pins, p.1 ≠ b)
    (keep : ∀ b o, b ≠ X.env.locals → b ∉ X.fs → b ∉ ch → s.heap.get? b = some o → H b = none → h'.get? b = some o)
    (slot : ∀ b o, b ≠ X.env.locals → b ∈ X.fs → b ∉ ch → s.heap.get? b = some o → H b = none → ∃ sl, h'.get? b = some { o with slots := sl }) (free : ∀ b o, b ∉ ch → s.heap.get? b = some o → H b = none → H' b = none)
    (there : ∀ b o, b ∉ ch → s.heap.get? b = some o → ∃ o', h'.get? b = some o')
    (tups : ∀ b xs, H b = some (.tup xs) → H' b = some (.tup xs)) (frzs : ∀ b o u, H b = some (.frz o u) → H' b = some (.frz o u)) (tbls : ∀ b ps, H b = some (.tbl ps) → ∃ more, H' b = some (.tbl (ps ++ more)))
    (ns : ∀ m, s.heap.Ns X.env.locals m → h'.Ns X.env.locals m) (hok : HOk X.prog X.w H' h') (hg : AllBare g') :
    Inv X pins σ H' { s with heap := h', gens := g', drawn := d', toks := t' } := by
  have neL : ∀ b o, X.s₀.heap.get? b = some o → b ≠ X.env.locals := fun b o e => Nat.ne_of_lt (Nat.lt_of_lt_of_le (Heap.lt_size e) I.ok.above)
  have neC : ∀ b o, X.s₀.heap.get? b = some o → b ∉ X.ex → b ∉ ch := fun b o e hx hb => by
    rcases (hch b hb).1 with z | z
    · exact hx z
    · exact absurd (Nat.lt_of_lt_of_le (Heap.lt_size e) z) (Nat.lt_irrefl _)
  have cellK : ∀ x c, X.env.cells.lookup x = some c → ∀ v, s.heap.IsCell c v → h'.IsCell c v := fun x c e v ⟨o, ho, hd⟩ => by
    have nch : c ∉ ch := fun z => (hch c z).2.2.1 x c e rfl
    by_cases hc : c ∈ X.fs
    · obtain ⟨sl, q⟩ := slot c o (I.cne x c e) hc nch ho (I.freeC x c e)
      exact ⟨_, q, hd⟩
    · exact ⟨o, keep c o (I.cne x c e) hc nch ho (I.freeC x c e), hd⟩
  refine ⟨I.ok, I.os, hg, ⟨fun b o e n hb hx => ?_, fun b o e n hb hx => ?_, fun b o e n hx => ?_, fun b o e hx => ?_, fun b xs e => tups b xs (I.base.tups b xs e), fun b o xs e => frzs b o xs (I.base.frzs b o xs e), fun b ps e => ?_⟩, ?_, fun x c e => ?_, ?_, fun x c e => ?_, fun p hp => ?_, hok, I.len⟩
  · exact keep b o (neL b o e) hb (neC b o e hx) (I.base.keep b o e n hb hx) (I.base.free b o e n hx)
  · obtain ⟨sl, e1⟩ := I.base.slot b o e n hb hx
    obtain ⟨sl', e2⟩ := slot b _ (neL b o e) hb (neC b o e hx) e1 (I.base.free b o e n hx)
    exact ⟨sl', e2⟩
  · obtain ⟨o', e1⟩ := I.base.there b o e hx
    exact free b o' (neC b o e hx) e1 (I.base.free b o e n hx)
  · obtain ⟨o', e1⟩ := I.base.there b o e hx
    exact there b o' (neC b o e hx) e1
  · obtain ⟨m1, e1⟩ := I.base.tbls b ps e
    obtain ⟨m2, e2⟩ := tbls b _ e1
    exact ⟨m1 ++ m2, by rw [e2, Array.append_assoc]⟩
  · obtain ⟨m, hn, hl⟩ := I.loc
    refine ⟨m, ns m hn, fun i x v e1 e2 e3 => ?_⟩
    obtain ⟨u, r, l⟩ := hl i x v e1 e2 e3
    refine ⟨u, r, ?_⟩
    rcases l with l | ⟨k, c, e, z⟩
    · exact .inl l
    · exact .inr ⟨k, c, e, cellK x c e _ z⟩
  · obtain ⟨v, z⟩ := I.cell x c e
    exact ⟨v, cellK x c e v z⟩
  · obtain ⟨m, ⟨o, _, _, ho, _⟩, _⟩ := I.loc
    exact free _ o (fun z => (hch _ z).2.1 rfl) ho I.free
  · obtain ⟨v, o, ho, hd⟩ := I.cell x c e
    exact free c o (fun z => (hch c z).2.2.1 x c e rfl) ho (I.freeC x c e)
  · obtain ⟨e, n, ne, nf, d⟩ := I.pin p hp
    have nch : p.1 ∉ ch := fun z => (hch p.1 z).2.2.2 p hp rfl
    exact ⟨keep p.1 p.2 ne nf nch e n, free p.1 p.2 nch e n, ne, nf, d⟩
/-- .. where the frame's own object is kept too -/
theorem Inv.un {t' : Nat} (I : Inv X pins σ H s) (u : Un X.fs [] H H' s.heap h') (hok : HOk X.prog X.w H' h') : Inv X pins σ H' { s with heap := h', toks := t' } := by
  obtain ⟨m, ⟨o, es, ep, ho, r⟩, _⟩ := id I.loc
  obtain ⟨sl, hL⟩ := u.any ho I.free (by simp)
  exact I.step (g' := s.gens) (d' := s.drawn) (ch := []) (fun _ z => nomatch z) (fun b o _ hb _ e n => u.keep b o e n hb (by simp)) (fun b o _ hb _ e n => u.slot b o e n hb (by simp)) (fun b o _ e n => u.free b o e n (by simp)) (fun b o _ e => u.there b o e (by simp)) u.tups u.frzs u.tbls (fun m' hm => by
    obtain ⟨o', es', ep', ho', r'⟩ := hm
    rw [ho] at ho'; cases ho'
    exact ⟨_, es', ep', hL, r'⟩) hok I.bare
/-- behind a call (or a comprehension's block): the slots of this frame may have changed too, the records at ch may have turned -/
theorem Inv.call {g' : Array GenState} {t' : Nat} {d' : Drawn} {ch : List Addr} (I : Inv X pins σ H s) (u : Un (frs X.stack) ch H H' s.heap h') (hok : HOk X.prog X.w H' h') (hg : AllBare g')
    (hch : ∀ b ∈ ch, (b ∈ X.ex ∨ X.s₀.heap.objs.size ≤ b) ∧ b ≠ X.env.locals ∧ (∀ x c, X.env.cells.lookup x = some c → c ≠ b) ∧ ∀ p ∈ X.pn ++ pins, p.1 ≠ b) :
    Inv X pins σ H' { s with heap := h', gens := g', drawn := d', toks := t' } := by
  obtain ⟨m, ⟨o, es, ep, ho, r⟩, _⟩ := id I.loc
  obtain ⟨sl, hL⟩ := u.any ho I.free fun z => (hch _ z).2.1 rfl
  exact I.step (ch := ch) hch (fun b o hL hb hc e n => u.keep b o e n (fun z => (List.mem_cons.mp (I.stkSub b z)).elim hL hb) hc) (fun b o _ _ hc e n => u.any e n hc) (fun b o hc e n => u.free b o e n hc) (fun b o hc e => u.there b o e hc) u.tups u.frzs u.tbls (fun m' hm => by
    obtain ⟨o', es', ep', ho', r'⟩ := hm
    rw [ho] at ho'; cases ho'
    exact ⟨_, es', ep', hL, r'⟩) hok hg
/-- an untracked record of ours (an iterator) has turned -/
theorem Inv.turned {t' : Nat} {it : Addr} (I : Inv X pins σ H s) (k : ∀ b o, b ≠ it → s.heap.get? b = some o → h'.get? b = some o) (hn : H it = none) (hL : it ≠ X.env.locals)
    (h1 : it ∈ X.ex ∨ X.s₀.heap.objs.size ≤ it) (h2 : ∀ x c, X.env.cells.lookup x = some c → c ≠ it) (h3 : ∀ p ∈ X.pn ++ pins, p.1 ≠ it) : Inv X pins σ H { s with heap := h', toks := t' } := by
  have nit : ∀ b u, H b = some u → b ≠ it := fun b u e z => by rw [z, hn] at e; cases e
  refine I.step (g' := s.gens) (d' := s.drawn) (ch := [it]) (fun b hb => ?_) (fun b o _ _ hc e _ => k b o (fun z => hc (by simp [z])) e) (fun b o _ _ hc e _ => ⟨o.slots, k b o (fun z => hc (by simp [z])) e⟩) (fun _ _ _ _ n => n)
    (fun b o hc e => ⟨o, k b o (fun z => hc (by simp [z])) e⟩) (fun _ _ e => e) (fun _ _ _ e => e) (fun b ps e => ⟨#[], by rw [e]; simp⟩) (fun m hm => ?_) (fun b u e => ?_) I.bare
  · have e : b = it := by simpa using hb
    subst e
    exact ⟨h1, hL, h2, h3⟩
  · obtain ⟨o, es, ep, ho, r⟩ := hm
    exact ⟨o, es, ep, k _ o (Ne.symm hL) ho, r⟩
  · refine (I.hok b u e).stay (fun c v hc q => k c v ?_ q) (fun _ q => q) fun _ _ q => q
    rcases hc with z | z
    · rw [z]; exact nit b u e
    · exact nit c _ z
theorem Inv.tok (I : Inv X pins σ H s) (t : Nat) : Inv X pins σ H { s with toks := t } := I.un (h' := s.heap) (t' := t) Un.refl I.hok
/-- all objects kept -/
theorem Inv.kept {t' : Nat} (I : Inv X pins σ H s) (k : ∀ b u, s.heap.get? b = some u → h'.get? b = some u) : Inv X pins σ H { s with heap := h', toks := t' } := I.un (Un.kept k) (I.hok.kept k)
/-- a new object laid and tracked -/
theorem Inv.laid {a : Addr} {o : HO} {t' : Nat} (I : Inv X pins σ H s) (k : ∀ b u, s.heap.get? b = some u → h'.get? b = some u) (hp : s.heap.objs.size ≤ a) (new : ObjOk X.prog X.w (upd H a o) h' a o) :
    Inv X pins σ (upd H a o) { s with heap := h', toks := t' } := I.un (Un.laid k hp (I.hok.fresh hp)) (I.hok.laid k hp new)
/-- an object written -/
theorem Inv.write {x e : Addr} {o : HO} {t' : Nat} (I : Inv X pins σ H s) (mu : Mut (H x)) (he : e = x ∨ H e = some (.own x)) (k : ∀ b u, b ≠ e → s.heap.get? b = some u → h'.get? b = some u) (heo : ∃ u, h'.get? e = some u)
    (new : ObjOk X.prog X.w (upd H x o) h' x o) : Inv X pins σ (upd H x o) { s with heap := h', toks := t' } := I.un (Un.write mu he k heo) (I.hok.write mu he k heo new)
theorem Inv.pins_of {pins' : List (Addr × Obj)} (I : Inv X pins σ H s) (h : ∀ p ∈ pins', s.heap.get? p.1 = some p.2 ∧ H p.1 = none ∧ p.1 ≠ X.env.locals ∧ p.1 ∉ X.fs ∧ ∀ v, p.2.data ≠ .cell v) : Inv X pins' σ H s :=
  ⟨I.ok, I.os, I.bare, I.base, I.loc, I.cell, I.free, I.freeC, fun p hp => (List.mem_append.mp hp).elim (fun z => I.pin p (List.mem_append_left _ z)) (h p), I.hok, I.len⟩

theorem nodup_ix {N : List Str} (hN : N.Nodup) {i j : Nat} {x : Str} (a : N[i]? = some x) (b : N[j]? = some x) : i = j := by
  obtain ⟨h1, e1⟩ := List.getElem?_eq_some_iff.mp a
  obtain ⟨h2, e2⟩ := List.getElem?_eq_some_iff.mp b
  exact (List.getElem_inj hN).mp (e1.trans e2.symm)

/-- a name is stored; what changed -/
theorem store_ok2 {M : Model} {A : Around} {E : Value → Shared → Prop} {i : Nat} {x : Str} {v : V} {u : Value} {Q : Unit → Shared → Prop} (I : Inv X pins σ H s) (hN : X.N.Nodup) (hi : X.N[i]? = some x) (hx : Loc X.env.scope x) (r : RelV v u)
    (h : ∀ s', Inv X pins (σ.set i (some v)) H s' → (∃ a, Heap.SameBut a s.heap s'.heap ∧ (a = X.env.locals ∨ X.env.cells.lookup x = some a)) → Q () s') (hf : X.fn x = true ∨ X.env.scope.names.lookup x = some .local := by first | exact .inl rfl | exact .inr rfl | assumption) : wpAny M A (storeName X.env x u) Q E s := by
  obtain ⟨m, hn, hl⟩ := id I.loc
  have hcls : (X.env.scope.kind == .class || (X.env.scope.kind == .module && X.env.locals != X.env.globals)) = false := by rw [I.ok.kind]; rfl
  have hiσ : i < σ.length := by rw [I.len]; exact (List.getElem?_eq_some_iff.mp hi).1
  have cne := I.cne
  have tracked : ∀ {a : Addr} {h' : Heap}, (∃ o, s.heap.get? a = some o ∧ H a = none) → Heap.SameBut a s.heap h' → HOk X.prog X.w H h' := fun {a h'} ha hs b ob e => by
    obtain ⟨_, _, hfree⟩ := ha
    refine (I.hok b ob e).stay (fun c w' hc q => (hs.2 c ?_).trans q) (fun _ q => q) fun _ _ q => q
    rintro rfl
    rcases hc with rfl | hc
    · rw [hfree] at e; cases e
    · rw [hfree] at hc; cases hc
  rcases hx with hk | hk
  · refine wpAny_storeName_local hk hn (fun h' hn' hs => ?_) hcls
    obtain ⟨oL, _, _, hoL, _⟩ := id hn
    refine h _ ⟨I.ok, I.os, I.bare, ⟨fun b o e n hb hx => ?_, fun b o e n hb hx => ?_, I.base.free, fun b o e hx => ?_, I.base.tups, I.base.frzs, I.base.tbls⟩, ⟨_, hn', fun j y v' e1 e2 e3 => ?_⟩, fun y c e => ?_, I.free, I.freeC, fun p hp => ?_, tracked ⟨oL, hoL, I.free⟩ hs, by simpa using I.len⟩ ⟨_, hs, .inl rfl⟩
    · exact (hs.2 b (Nat.ne_of_lt (Nat.lt_of_lt_of_le (Heap.lt_size e) I.ok.above))).trans (I.base.keep b o e n hb hx)
    · obtain ⟨sl, e1⟩ := I.base.slot b o e n hb hx
      exact ⟨sl, (hs.2 b (Nat.ne_of_lt (Nat.lt_of_lt_of_le (Heap.lt_size e) I.ok.above))).trans e1⟩
    · obtain ⟨o', e1⟩ := I.base.there b o e hx
      exact ⟨o', (hs.2 b (Nat.ne_of_lt (Nat.lt_of_lt_of_le (Heap.lt_size e) I.ok.above))).trans e1⟩
    · by_cases hj : j = i
      · subst hj
        rw [hi] at e1; cases e1
        rw [List.getElem?_set_self hiσ] at e2
        cases e2
        exact ⟨u, r, .inl ⟨hk, by simp⟩⟩
      · rw [List.getElem?_set_ne (Ne.symm hj)] at e2
        obtain ⟨u', r', q⟩ := hl j y v' e1 e2 e3
        refine ⟨u', r', ?_⟩
        rcases q with ⟨k, e⟩ | ⟨k, c, e, z⟩
        · refine .inl ⟨k, ?_⟩
          have : y ≠ x := fun e => hj (nodup_ix hN e1 (e ▸ hi))
          simp [this, e]
        · exact .inr ⟨k, c, e, z.sameBut hs (cne y c e)⟩
    · obtain ⟨w', z⟩ := I.cell y c e
      exact ⟨w', z.sameBut hs (cne y c e)⟩
    · obtain ⟨e, n, ne, nf, d⟩ := I.pin p hp
      exact ⟨(hs.2 p.1 ne).trans e, n, ne, nf, d⟩
  · have hfn : X.fn x = true := by
      rcases hf with z | z
      · exact z
      · rw [z] at hk; cases hk
    obtain ⟨c, hc⟩ := I.ok.has x (.inl hk)
    obtain ⟨w', z⟩ := I.cell x c hc
    refine wpAny_storeName_cell I.ok.kind hk hc z (fun h' hc' hs => ?_)
    obtain ⟨oc, hoc, hocd⟩ := id z
    refine h { s with heap := h' } ⟨I.ok, I.os, I.bare, ⟨fun b o e n hb hx => ?_, fun b o e n hb hx => ?_, I.base.free, fun b o e hx => ?_, I.base.tups, I.base.frzs, I.base.tbls⟩, ⟨m, hn.sameBut hs (Ne.symm (cne x c hc)), fun j y v' e1 e2 e3 => ?_⟩, fun y c' e => ?_, I.free, I.freeC, fun p hp => ?_, tracked ⟨oc, hoc, I.freeC x c hc⟩ hs, by simpa using I.len⟩ ⟨c, hs, .inr hc⟩
    · exact (hs.2 b (Nat.ne_of_lt (Nat.lt_of_lt_of_le (Heap.lt_size e) (I.ok.cab x c hfn hc)))).trans (I.base.keep b o e n hb hx)
    · obtain ⟨sl, e1⟩ := I.base.slot b o e n hb hx
      exact ⟨sl, (hs.2 b (Nat.ne_of_lt (Nat.lt_of_lt_of_le (Heap.lt_size e) (I.ok.cab x c hfn hc)))).trans e1⟩
    · obtain ⟨o', e1⟩ := I.base.there b o e hx
      exact ⟨o', (hs.2 b (Nat.ne_of_lt (Nat.lt_of_lt_of_le (Heap.lt_size e) (I.ok.cab x c hfn hc)))).trans e1⟩
    · by_cases hj : j = i
      · subst hj
        rw [hi] at e1; cases e1
        rw [List.getElem?_set_self hiσ] at e2
        cases e2
        exact ⟨u, r, .inr ⟨.inl hk, c, hc, hc'⟩⟩
      · rw [List.getElem?_set_ne (Ne.symm hj)] at e2
        obtain ⟨u', r', q⟩ := hl j y v' e1 e2 e3
        refine ⟨u', r', ?_⟩
        rcases q with q | ⟨k, c', e, z'⟩
        · exact .inl q
        · refine .inr ⟨k, c', e, z'.sameBut hs ?_⟩
          rintro rfl
          exact hj (nodup_ix hN e1 (I.ok.inj _ _ _ e hc ▸ hi))
    · by_cases hcc : c' = c
      · subst hcc; exact ⟨_, hc'⟩
      · obtain ⟨w2, z2⟩ := I.cell y c' e
        exact ⟨w2, z2.sameBut hs hcc⟩
    · obtain ⟨e, n, ne, nf, d⟩ := I.pin p hp
      refine ⟨(hs.2 p.1 ?_).trans e, n, ne, nf, d⟩
      intro q
      rw [q, hoc] at e
      have q' : oc = p.2 := Option.some.inj e
      exact d w' (by rw [← q']; exact hocd)
theorem store_ok {M : Model} {A : Around} {E : Value → Shared → Prop} {i : Nat} {x : Str} {v : V} {u : Value} {Q : Unit → Shared → Prop} (I : Inv X pins σ H s) (hN : X.N.Nodup) (hi : X.N[i]? = some x) (hx : Loc X.env.scope x) (r : RelV v u)
    (h : ∀ s', Inv X pins (σ.set i (some v)) H s' → Q () s') (hf : X.fn x = true ∨ X.env.scope.names.lookup x = some .local := by first | exact .inl rfl | exact .inr rfl | assumption) : wpAny M A (storeName X.env x u) Q E s :=
  store_ok2 I hN hi hx r (fun s' I' _ => h s' I') hf
/-- behind a call or a block, the state as it is -/
theorem Inv.call' {s' : Shared} {ch : List Addr} (I : Inv X pins σ H s) (ho : s'.os = s.os) (u : Un (frs X.stack) ch H H' s.heap s'.heap) (hok : HOk X.prog X.w H' s'.heap) (hg : AllBare s'.gens)
    (hch : ∀ b ∈ ch, (b ∈ X.ex ∨ X.s₀.heap.objs.size ≤ b) ∧ b ≠ X.env.locals ∧ (∀ x c, X.env.cells.lookup x = some c → c ≠ b) ∧ ∀ p ∈ X.pn ++ pins, p.1 ≠ b) : Inv X pins σ H' s' := by
  obtain ⟨h', g', d', t', o'⟩ := s'
  have e : o' = s.os := ho
  subst e
  exact I.call (g' := g') (t' := t') (d' := d') u hok hg hch
end

/-- an exception: its class, its own dict's address (where it has one), the abstract heap behind it -/
abbrev XK := Value → Option Addr → Hp → Prop
abbrev St := List (Option V)
abbrev VK := V → Hp → Prop
/-- an expression's reading; a test's; an argument list's -/
abbrev TE := St → Hp → VK → Prop
abbrev TT := St → Hp → (Bool → Hp → Prop) → Prop
abbrev TA := St → Hp → (List V → Hp → Prop) → Prop
/-- what is wanted behind a statement -/
structure Ends where
  nx : St → Hp → Prop
  rt : VK
  bk : St → Hp → Prop := fun _ _ => False
  ct : St → Hp → Prop := fun _ _ => False
abbrev TS := Ends → St → Hp → Prop

def EP (X : Cx) (pins : List (Addr × Obj)) (σ : St) (Q : VK) (u : Value) (s' : Shared) : Prop := ∃ v H', Inv X pins σ H' s' ∧ RelV v u ∧ Q v H'
def TP (X : Cx) (pins : List (Addr × Obj)) (σ : St) (Q : Bool → Hp → Prop) (b : Bool) (s' : Shared) : Prop := ∃ H', Inv X pins σ H' s' ∧ Q b H'
def AP (X : Cx) (pins : List (Addr × Obj)) (σ : St) (Q : List V → Hp → Prop) (us : List Value) (s' : Shared) : Prop := ∃ vs H', Inv X pins σ H' s' ∧ Vals vs us ∧ Q vs H'
def SP (X : Cx) (pins : List (Addr × Obj)) (D : Ends) (f : Flow) (s' : Shared) : Prop :=
  match f with
  | .next => ∃ σ' H', Inv X pins σ' H' s' ∧ D.nx σ' H'
  | .brk => ∃ σ' H', Inv X pins σ' H' s' ∧ D.bk σ' H'
  | .cont => ∃ σ' H', Inv X pins σ' H' s' ∧ D.ct σ' H'
  | .ret u => ∃ v σ' H', Inv X pins σ' H' s' ∧ RelV v u ∧ D.rt v H'

def PE (X : Cx) (e : Expr) (t : TE) : Prop :=
  ∀ (pins : List (Addr × Obj)) (s : Shared) (σ : St) (H : Hp) (Q : VK), Inv X pins σ H s → t σ H Q → wpAny (model X.prog X.w) X.A (eval e X.env) (EP X pins σ Q) X.xe s
def PT (X : Cx) (e : Expr) (t : TT) : Prop :=
  ∀ (pins : List (Addr × Obj)) (s : Shared) (σ : St) (H : Hp) (Q : Bool → Hp → Prop), Inv X pins σ H s → t σ H Q → wpAny (model X.prog X.w) X.A (isTrue e X.env (eval e X.env)) (TP X pins σ Q) X.xe s
/-- a test whatever its 'whole' is (and, or) -/
def PW (X : Cx) (e : Expr) (t : TT) : Prop :=
  ∀ (whole : Sem Value) (pins : List (Addr × Obj)) (s : Shared) (σ : St) (H : Hp) (Q : Bool → Hp → Prop), Inv X pins σ H s → t σ H Q → wpAny (model X.prog X.w) X.A (isTrue e X.env whole) (TP X pins σ Q) X.xe s
theorem PW.pt {X : Cx} {e : Expr} {t : TT} (h : PW X e t) : PT X e t := h _
/-- an argument list (no star), from the left -/
def PA (X : Cx) (es : List Expr) (t : TA) : Prop :=
  ∀ (pos : Pos) (pins : List (Addr × Obj)) (s : Shared) (σ : St) (H : Hp) (Q : List V → Hp → Prop), Inv X pins σ H s → t σ H Q → wpAny (model X.prog X.w) X.A (spliced (backTo pos (starEach es X.env))) (AP X pins σ Q) X.xe s
def PS (X : Cx) (st : Stmt) (t : TS) : Prop :=
  ∀ (pins : List (Addr × Obj)) (s : Shared) (σ : St) (H : Hp) (D : Ends), Inv X pins σ H s → t D σ H → wpAny (model X.prog X.w) X.A (exec st X.env) (SP X pins D) X.xe s
def PSs (X : Cx) (st : List Stmt) (t : TS) : Prop :=
  ∀ (pins : List (Addr × Obj)) (s : Shared) (σ : St) (H : Hp) (D : Ends), Inv X pins σ H s → t D σ H → wpAny (model X.prog X.w) X.A (execs st X.env) (SP X pins D) X.xe s
/-- weaken the end -/
theorem thn {α : Type} {t : Sem α} {Q Q' : α → Shared → Prop} {M : Model} {A : Around} {E : Value → Shared → Prop} {s : Shared} (h : wpAny M A t Q E s) (hQ : ∀ a s, Q a s → Q' a s) : wpAny M A t Q' E s := wpAny_mono h hQ fun _ _ x => x
end L2

namespace L2
open PySem PySem.Spec PyProof.Rows
section
variable {X : Cx}

def tVar (i : Nat) : TE := fun σ H Q => ∃ v, σ[i]? = some (some v) ∧ Q v H
def tC (v : V) : TE := fun _ H Q => Q v H
theorem pe_var {i : Nat} {x : Str} {pos : Pos} (hN : X.N[i]? = some x) (hv : Vis X.env.scope x) (hd : (x == ("__debug__" : Str)) = false := by decide) (hcd : (x == ("__classdict__" : Str)) = false := by decide) : PE X (.Name x pos) (tVar i) := by
  intro pins s σ H Q I h
  obtain ⟨v, e, h⟩ := h
  obtain ⟨m, hn, hl⟩ := I.loc
  obtain ⟨u, r, l⟩ := hl i x v hN e hv
  have fin : EP X pins σ Q u s := ⟨v, H, I, r, h⟩
  rcases l with ⟨hk, hm⟩ | ⟨hk, c, hc, hcell⟩
  · exact wpAny_Name (wpAny_loadName_local I.ok.kind hk hn hm fin) hd
  · rcases hk with hk | hk
    · exact wpAny_Name (wpAny_loadName_cell I.ok.kind hk hc hcell fin) hd
    · exact wpAny_Name (wpAny_loadName_free I.ok.kind hk hc hcell fin hcd) hd
theorem pe_int {i j pos} : PE X (.Constant (.int i) j pos) (tC (.int i)) := fun _ _ _ H _ I h => wpAny_Constant_int ⟨.int i, H, I.tok _, ⟨_, rfl⟩, h⟩
theorem pe_bl {b j pos} : PE X (.Constant (.bool b) j pos) (tC (.bl b)) := fun _ _ _ H _ I h => Constant_bool ⟨.bl b, H, I, rfl, h⟩
theorem pe_non {j pos} : PE X (.Constant .none j pos) (tC .non) := fun _ _ _ H _ I h => Constant_none ⟨.non, H, I, rfl, h⟩
theorem pe_str {x j pos} : PE X (.Constant (.str x) j pos) (tC (.str x)) := fun _ _ _ H _ I h => Calls.Constant_str ⟨.str x, H, I.tok _, ⟨_, rfl⟩, h⟩

/-- a global name of the def -/
def Gl (X : Cx) (x : Str) : Prop := X.env.kindOf x = some .globalImplicit
theorem ld_glob {E : Value → Shared → Prop} {pins : List (Addr × Obj)} {s : Shared} {σ : St} {H : Hp} {x : Str} {u : Value} {pos : Pos} {Q : Value → Shared → Prop} (I : Inv X pins σ H s) (hg : Gl X x) (hm : X.mg x = some u) (h : Q u s)
    (hd : (x == ("__debug__" : Str)) = false := by decide) : wpAny (model X.prog X.w) X.A (eval (.Name x pos) X.env) Q E s :=
  Calls.Name_function_global I.ok.kind hg (Calls.loadGlobal_global (by rw [I.ok.glob]; exact I.mod.glob.keeps I.bk) hm h) hd
theorem ld_blt {E : Value → Shared → Prop} {pins : List (Addr × Obj)} {s : Shared} {σ : St} {H : Hp} {x : Str} {u : Value} {pos : Pos} {Q : Value → Shared → Prop} (I : Inv X pins σ H s) (hg : Gl X x) (hm : X.mg x = none) (hv : bootBuiltins x = some u) (h : Q u s)
    (hn : x ≠ "__name__" := by decide) (hd : (x == ("__debug__" : Str)) = false := by decide) : wpAny (model X.prog X.w) X.A (eval (.Name x pos) X.env) Q E s := by
  obtain ⟨mb, h1, h2⟩ := I.mod.blt
  exact Calls.Name_function_global I.ok.kind hg (Calls.loadGlobal_builtin (by rw [I.ok.glob]; exact I.mod.glob.keeps I.bk) hm (by rw [I.ok.blt]; exact h1.keeps I.bk) ((h2 x hn).trans hv) h) hd
/-- a module's constant, a class, a function, as a value -/
theorem pe_glob {x : Str} {v : V} {u : Value} {pos : Pos} (hg : Gl X x) (hm : X.mg x = some u) (r : RelV v u) (hd : (x == ("__debug__" : Str)) = false := by decide) : PE X (.Name x pos) (tC v) :=
  fun _ _ _ H _ I h => ld_glob I hg hm ⟨v, H, I, r, h⟩ hd
theorem pe_bltn {x : Str} {v : V} {u : Value} {pos : Pos} (hg : Gl X x) (hm : X.mg x = none) (hv : bootBuiltins x = some u) (r : RelV v u) (hn : x ≠ "__name__" := by decide) (hd : (x == ("__debug__" : Str)) = false := by decide) : PE X (.Name x pos) (tC v) :=
  fun _ _ _ H _ I h => ld_blt I hg hm hv ⟨v, H, I, r, h⟩ hn hd

variable {a b : Expr} {ta tb : TE} {pos : Pos}
def PC (X : Cx) (op : CmpOp) (a b : Expr) (t : TE) : Prop :=
  ∀ (pins : List (Addr × Obj)) (s : Shared) (σ : St) (H : Hp) (Q : VK), Inv X pins σ H s → t σ H Q →
    wpAny (model X.prog X.w) X.A (eval a X.env) (fun v s₁ => wpAny (model X.prog X.w) X.A (eval b X.env) (fun u s₂ => wpAny (model X.prog X.w) X.A (compareOp op v u) (EP X pins σ Q) X.xe s₂) X.xe s₁) X.xe s
theorem nobehind (b : Expr) {op : CmpOp} (h : op ≠ .In) (h2 : op ≠ .NotIn) : behindInMarks op b = false := by
  have e1 : (op == CmpOp.In) = false := by cases op <;> first | rfl | exact absurd rfl h
  have e2 : (op == CmpOp.NotIn) = false := by cases op <;> first | rfl | exact absurd rfl h2
  cases b <;> simp [behindInMarks, e1, e2]
/-- a comparison as a value, as a test -/
def tB (t : TE) : TT := fun σ H Q => t σ H fun x H1 => ∃ c, x = .bl c ∧ Q c H1
theorem pt_cmp {op : CmpOp} {t : TE} (h : PC X op a b t) (h1 : behindInMarks op b = false := by first | exact nobehind _ (by decide) (by decide) | rfl) : PT X (.Compare a [op] [b] pos) (tB t) := by
  intro pins s σ H Q I hw
  refine wpAny_isTrue_Compare1 (thn (h pins s σ H _ I hw) fun v s1 h1 => thn h1 fun u s2 h2 => thn h2 fun c s3 ⟨x, H1, I1, r1, q1⟩ => ?_) h1
  obtain ⟨d, rfl, q⟩ := q1
  cases r1
  exact wpAny_truthy_bool ⟨H1, I1, q⟩
/-- an expression whose value is a bool, as a test -/
theorem pt_val {e : Expr} {t : TE} (h : PE X e t) (he : ∀ whole, isTrue e X.env whole = (do let v ← whole; standAt e.pos; holding [v] (truthy v)) := by intro _; rfl) : PT X e (tB t) := by
  intro pins s σ H Q I hw
  refine isTrue_plain (thn (h pins s σ H _ I hw) fun v s1 ⟨x, H1, I1, r1, q1⟩ => ?_) (he _)
  obtain ⟨d, rfl, q⟩ := q1
  cases r1
  exact wpAny_truthy_bool ⟨H1, I1, q⟩

variable {tA tB' : TT} {rest : List Expr}
def tAnd (t u : TT) : TT := fun σ H Q => t σ H fun c H1 => if c = true then u σ H1 Q else Q false H1
def tOr (t u : TT) : TT := fun σ H Q => t σ H fun c H1 => if c = true then Q true H1 else u σ H1 Q
def tNot (t : TT) : TT := fun σ H Q => t σ H fun c H1 => Q (!c) H1
theorem pw_and1 (ha : PT X a tA) : PW X (.BoolOp .And [a] pos) tA := by
  intro wh pins s σ H Q I h
  refine isTrue_and (thn (ha pins s σ H Q I h) fun c s1 e => ?_)
  cases c with
  | true => exact isTrue_and_nil e
  | false => exact e
theorem pw_or1 (ha : PT X a tA) : PW X (.BoolOp .Or [a] pos) tA := by
  intro wh pins s σ H Q I h
  refine isTrue_or (thn (ha pins s σ H Q I h) fun c s1 e => ?_)
  cases c with
  | false => exact isTrue_or_nil e
  | true => exact e
theorem pw_and (ha : PT X a tA) (hb : PW X (.BoolOp .And (b :: rest) pos) tB') : PW X (.BoolOp .And (a :: b :: rest) pos) (tAnd tA tB') := by
  intro wh pins s σ H Q I h
  refine isTrue_and (thn (ha pins s σ H _ I h) fun c s1 ⟨H1, I1, q1⟩ => ?_)
  cases c with
  | true => exact hb wh pins s1 σ H1 Q I1 q1
  | false => exact ⟨H1, I1, q1⟩
theorem pw_or (ha : PT X a tA) (hb : PW X (.BoolOp .Or (b :: rest) pos) tB') : PW X (.BoolOp .Or (a :: b :: rest) pos) (tOr tA tB') := by
  intro wh pins s σ H Q I h
  refine isTrue_or (thn (ha pins s σ H _ I h) fun c s1 ⟨H1, I1, q1⟩ => ?_)
  cases c with
  | true => exact ⟨H1, I1, q1⟩
  | false => exact hb wh pins s1 σ H1 Q I1 q1
theorem pt_not (ha : PT X a tA) : PT X (.UnaryOp .Not a pos) (tNot tA) := by
  intro pins s σ H Q I h
  exact isTrue_not (ha pins s σ H (fun c H1 => Q (!c) H1) I h)
/-- .. as values (bools) -/
def tAndV (ta tb : TE) : TE := fun σ H Q => ta σ H fun x H1 => ∃ c, x = .bl c ∧ if c = true then tb σ H1 Q else Q (.bl false) H1
def tOrV (ta tb : TE) : TE := fun σ H Q => ta σ H fun x H1 => ∃ c, x = .bl c ∧ if c = true then Q (.bl true) H1 else tb σ H1 Q
def tNotV (ta : TE) : TE := fun σ H Q => ta σ H fun x H1 => ∃ c, x = .bl c ∧ Q (.bl (!c)) H1
theorem pe_one {op} {t : TE} (h : PE X a t) : PE X (.BoolOp op [a] pos) t := fun pins s σ H Q I hw => BoolOp_one (h pins s σ H Q I hw)
theorem pe_and (ha : PE X a ta) (hb : PE X (.BoolOp .And (b :: rest) pos) tb) : PE X (.BoolOp .And (a :: b :: rest) pos) (tAndV ta tb) := by
  intro pins s σ H Q I h
  refine BoolOp_and (thn (ha pins s σ H _ I h) fun v s1 ⟨x, H1, I1, r1, q1⟩ => ?_)
  obtain ⟨c, rfl, q1⟩ := q1
  cases r1
  refine wpAny_truthy_bool ?_
  cases c with
  | true => exact hb pins s1 σ H1 Q I1 q1
  | false => exact ⟨.bl false, H1, I1, rfl, q1⟩
theorem pe_or (ha : PE X a ta) (hb : PE X (.BoolOp .Or (b :: rest) pos) tb) : PE X (.BoolOp .Or (a :: b :: rest) pos) (tOrV ta tb) := by
  intro pins s σ H Q I h
  refine BoolOp_or (thn (ha pins s σ H _ I h) fun v s1 ⟨x, H1, I1, r1, q1⟩ => ?_)
  obtain ⟨c, rfl, q1⟩ := q1
  cases r1
  refine wpAny_truthy_bool ?_
  cases c with
  | false => exact hb pins s1 σ H1 Q I1 q1
  | true => exact ⟨.bl true, H1, I1, rfl, q1⟩
theorem pe_not (ha : PE X a ta) : PE X (.UnaryOp .Not a pos) (tNotV ta) := by
  intro pins s σ H Q I h
  refine UnaryOp_ (thn (ha pins s σ H _ I h) fun v s1 ⟨x, H1, I1, r1, q1⟩ => ?_)
  obtain ⟨c, rfl, q1⟩ := q1
  cases r1
  exact not_of (wpAny_truthy_bool ⟨.bl (!c), H1, I1, rfl, q1⟩)
end
end L2

namespace L2
open PySem PySem.Spec PyProof.Rows

def SqL (K : PySem.W.Frag) (H : Hp) (a : Addr) (xs : List V) : Prop :=
  Rd H a (.lst xs) ∨
    ∃ (o : Obj) (its : Array Value) (n : Nat), K.lookup a = some o ∧ o.cls = .type "list" ∧ o.dict = none ∧ o.data = .seq its n ∧ its.size ≤ sizeLine ∧ Vals xs its.toList
def SqT (K : PySem.W.Frag) (H : Hp) (a : Addr) (xs : List V) : Prop :=
  Rd H a (.tup xs) ∨
    ∃ (o : Obj) (its : Array Value) (n : Nat), K.lookup a = some o ∧ o.cls = .type "tuple" ∧ o.data = .seq its n ∧ its.size ≤ sizeLine ∧ Vals xs its.toList
def absV : Value → Option V
  | .none => some .non
  | .bool b => some (.bl b)
  | .int i _ => some (.int i)
  | .str x _ => some (.str x)
  | .bytes b _ => some (.byt b)
  | .float b _ => some (.flt b)
  | .ref a => some (.ref a)
  | .type n => some (.ty n)
  | _ => none
theorem RelV.abs {x : V} {u : Value} (r : RelV x u) : absV u = some x := by
  cases x with
  | non => cases r; rfl
  | bl _ => cases r; rfl
  | int _ => obtain ⟨t, rfl⟩ := r; rfl
  | str _ => obtain ⟨t, rfl⟩ := r; rfl
  | byt _ => obtain ⟨t, rfl⟩ := r; rfl
  | flt _ => obtain ⟨t, rfl⟩ := r; rfl
  | ref _ => cases r; rfl
  | ty _ => cases r; rfl
theorem RelV.inj {x y : V} {u : Value} (r : RelV x u) (q : RelV y u) : x = y := Option.some.inj (r.abs.symm.trans q.abs)
theorem Vals.inj : ∀ {xs ys : List V} {us : List Value}, Vals xs us → Vals ys us → xs = ys
  | _, _, _, .nil, .nil => rfl
  | _, _, _, .cons r t, .cons r' t' => by rw [r.inj r', Vals.inj t t']
section
variable {X : Cx} {pins : List (Addr × Obj)} {σ : St} {H : Hp} {s : Shared} {a : Addr} {xs ys : List V}
theorem SqL.of {K : PySem.W.Frag} (h : H a = some (.lst xs)) : SqL K H a xs := .inl (.inl h)
theorem SqT.of {K : PySem.W.Frag} (h : H a = some (.tup xs)) : SqT K H a xs := .inl (.inl h)
theorem Inv.list (I : Inv X pins σ H s) (h : SqL X.K H a xs) : ∃ its : List Value, Vals xs its ∧ PlainL s.heap a its.toArray ∧ xs.length ≤ sizeLine := by
  rcases h with h | ⟨o, its, n, hk, hc, hd, hs, hz, r⟩
  · obtain ⟨z, its, n, r, e⟩ := h.ok I.hok
    exact ⟨its, r, ⟨_, n, e, rfl, rfl, rfl⟩, z⟩
  · refine ⟨its.toList, r, ⟨o, n, I.kIn a o hk, hc, hd, by simpa using hs⟩, ?_⟩
    have e := r.length
    simp only [Array.length_toList] at e
    omega
theorem Inv.tuple (I : Inv X pins σ H s) (h : SqT X.K H a xs) : ∃ its : List Value, Vals xs its ∧ IsTup s.heap a its.toArray ∧ xs.length ≤ sizeLine := by
  rcases h with h | ⟨o, its, n, hk, hc, hs, hz, r⟩
  · obtain ⟨z, its, r, p⟩ := h.ok I.hok
    exact ⟨its, r, p, z⟩
  · refine ⟨its.toList, r, ⟨o, I.kIn a o hk, hc, n, by simpa using hs⟩, ?_⟩
    have e := r.length
    simp only [Array.length_toList] at e
    omega
theorem Inv.list_inj (I : Inv X pins σ H s) (h : SqL X.K H a xs) (h' : SqL X.K H a ys) : xs = ys := by
  obtain ⟨its, r, ⟨o, n, e, _, _, d⟩, _⟩ := I.list h
  obtain ⟨its', r', ⟨o', n', e', _, _, d'⟩, _⟩ := I.list h'
  rw [e] at e'; cases e'
  rw [d] at d'
  injection d' with d1 _
  have : its = its' := by simpa using congrArg Array.toList d1
  subst this
  exact r.inj r'
theorem Inv.tuple_inj (I : Inv X pins σ H s) (h : SqT X.K H a xs) (h' : SqT X.K H a ys) : xs = ys := by
  obtain ⟨its, r, ⟨o, e, _, n, d⟩, _⟩ := I.tuple h
  obtain ⟨its', r', ⟨o', e', _, n', d'⟩, _⟩ := I.tuple h'
  rw [e] at e'; cases e'
  rw [d] at d'
  injection d' with d1 _
  have : its = its' := by simpa using congrArg Array.toList d1
  subst this
  exact r.inj r'
end

abbrev Cx.wish (X : Cx) (E : Value → Shared → Prop) : Cx := { X with xe := E }
/-- no exception leaves -/
abbrev Cx.nox (X : Cx) : Cx := X.wish fun _ _ => False
theorem Cx.Ok.wish {X : Cx} (ok : X.Ok) (E : Value → Shared → Prop) : (X.wish E).Ok :=
  ⟨ok.mod, ok.kind, ok.glob, ok.blt, ok.above, ok.inj, ok.has, ok.cab, ok.hd, ok.frames, ok.stk, ok.exf, ok.bs, ok.bsz, ok.noex, ok.exfs, ok.funs, ok.frf⟩
theorem Cx.Ok.unwish {X : Cx} {E : Value → Shared → Prop} (ok : (X.wish E).Ok) : X.Ok :=
  ⟨ok.mod, ok.kind, ok.glob, ok.blt, ok.above, ok.inj, ok.has, ok.cab, ok.hd, ok.frames, ok.stk, ok.exf, ok.bs, ok.bsz, ok.noex, ok.exfs, ok.funs, ok.frf⟩
section
variable {X : Cx} {pins : List (Addr × Obj)} {σ : St} {H : Hp} {s : Shared} {E : Value → Shared → Prop}
theorem Inv.wish (I : Inv X pins σ H s) (E : Value → Shared → Prop) : Inv (X.wish E) pins σ H s := ⟨I.ok.wish E, I.os, I.bare, I.base, I.loc, I.cell, I.free, I.freeC, I.pin, I.hok, I.len⟩
theorem Inv.unwish (I : Inv (X.wish E) pins σ H s) : Inv X pins σ H s := ⟨I.ok.unwish, I.os, I.bare, I.base, I.loc, I.cell, I.free, I.freeC, I.pin, I.hok, I.len⟩
theorem SP.unwish {D : Ends} {f : Flow} {s' : Shared} (h : SP (X.wish E) pins D f s') : SP X pins D f s' := by
  cases f with
  | next => obtain ⟨σ', H', I, q⟩ := h; exact ⟨σ', H', I.unwish, q⟩
  | brk => obtain ⟨σ', H', I, q⟩ := h; exact ⟨σ', H', I.unwish, q⟩
  | cont => obtain ⟨σ', H', I, q⟩ := h; exact ⟨σ', H', I.unwish, q⟩
  | ret u => obtain ⟨v, σ', H', I, r, q⟩ := h; exact ⟨v, σ', H', I.unwish, r, q⟩
theorem PE.nox {e : Expr} {t : TE} (h : PE X.nox e t) : PE X e t := fun pins s σ H Q I hw =>
  wpAny_mono (h pins s σ H Q (I.wish _) hw) (fun _ _ ⟨v, H', I', r, q⟩ => ⟨v, H', I'.unwish, r, q⟩) fun _ _ z => False.elim z
theorem PT.nox {e : Expr} {t : TT} (h : PT X.nox e t) : PT X e t := fun pins s σ H Q I hw =>
  wpAny_mono (h pins s σ H Q (I.wish _) hw) (fun _ _ ⟨H', I', q⟩ => ⟨H', I'.unwish, q⟩) fun _ _ z => False.elim z
theorem PSs.nox {st : List Stmt} {t : TS} (h : PSs X.nox st t) : PSs X st t := fun pins s σ H D I hw =>
  wpAny_mono (h pins s σ H D (I.wish _) hw) (fun _ _ q => q.unwish) fun _ _ z => False.elim z
end

section
variable {X : Cx} {st : Stmt} {rest : List Stmt} {t u : TS} {e : Expr} {te : TE} {pos : Pos}
def tNext : TS := fun D σ H => D.nx σ H
def tSeq (t u : TS) : TS := fun D σ H => t { D with nx := u D } σ H
theorem pss_nil : PSs X [] tNext := fun _ _ σ H _ I h => wpAny_execs_nil ⟨σ, H, I, h⟩
theorem pss_cons (h1 : PS X st t) (h2 : PSs X rest u) : PSs X (st :: rest) (tSeq t u) := by
  intro pins s σ H D I h
  refine wpAny_execs_cons (thn (h1 pins s σ H { D with nx := u D } I h) fun f s1 q => ?_)
  cases f with
  | next =>
    obtain ⟨σ', H', I', q⟩ := q
    exact h2 pins s1 σ' H' D I' q
  | ret v => exact q
  | brk => exact q
  | cont => exact q
theorem pss_one (h1 : PS X st t) : PSs X [st] t := by
  intro pins s σ H D I h
  refine wpAny_execs_cons (thn (h1 pins s σ H D I h) fun f s1 q => ?_)
  cases f with
  | next => exact wpAny_execs_nil q
  | ret v => exact q
  | brk => exact q
  | cont => exact q
/-- in a def's body nothing is shown -/
theorem Inv.quiet {pins : List (Addr × Obj)} {σ : St} {H : Hp} {s : Shared} (I : Inv X pins σ H s) : interactive X.env = false := by simp [interactive, I.ok.kind]
/-- an expression whose value is dropped -/
def tDrop (te : TE) : TS := fun D σ H => te σ H fun _ H1 => D.nx σ H1
theorem ps_expr (he : PE X e te) (hs : swapsWith e none pos.line X.env = pure false := by rfl) : PS X (.Expr e pos) (tDrop te) := by
  intro pins s σ H D I h
  exact wpAny_Expr_any (thn (he pins s σ H _ I h) fun v s1 ⟨x, H1, I1, r1, q1⟩ => ⟨σ, H1, I1, q1⟩) I.quiet hs
def tRet (te : TE) : TS := fun D σ H => te σ H D.rt
theorem ps_ret (he : PE X e te) : PS X (.Return (some e) pos) (tRet te) := by
  intro pins s σ H D I h
  exact wpAny_Return_some (thn (he pins s σ H _ I h) fun v s1 ⟨x, H1, I1, r1, q1⟩ => ⟨x, σ, H1, I1, r1, q1⟩)
def tRetN : TS := fun D _ H => D.rt .non H
def tIfS (c : TT) (t u : TS) : TS := fun D σ H => c σ H fun b H1 => if b = true then t D σ H1 else u D σ H1
theorem ps_if {c : Expr} {a b : List Stmt} {tc : TT} (hc : PT X c tc) (ha : PSs X a t) (hb : PSs X b u) : PS X (.If c a b pos) (tIfS tc t u) := by
  intro pins s σ H D I h
  refine wpAny_If (thn (hc pins s σ H _ I h) fun d s1 ⟨H1, I1, q1⟩ => ?_)
  cases d with
  | true => exact ha pins s1 σ H1 D I1 q1
  | false => exact hb pins s1 σ H1 D I1 q1
end

abbrev TG := V → St → Hp → (St → Hp → Prop) → Prop
abbrev TGs := List V → St → Hp → (St → Hp → Prop) → Prop
def PG (X : Cx) (target : Expr) (t : TG) : Prop :=
  ∀ (pins : List (Addr × Obj)) (s : Shared) (σ : St) (H : Hp) (v : V) (u : Value) (Q : St → Hp → Prop), Inv X pins σ H s → RelV v u → t v σ H Q →
    wpAny (model X.prog X.w) X.A (assign target X.env u) (fun _ s' => ∃ σ' H', Inv X pins σ' H' s' ∧ Q σ' H') X.xe s
/-- o[i] = v, by values -/
abbrev TSet := V → V → V → Hp → (Hp → Prop) → Prop
def PSet (X : Cx) (t : TSet) : Prop :=
  ∀ (pins : List (Addr × Obj)) (s : Shared) (σ : St) (H : Hp) (o i v : V) (ov iv u : Value) (Q : Hp → Prop), Inv X pins σ H s → RelV o ov → RelV i iv → RelV v u → t o i v H Q →
    wpAny (model X.prog X.w) X.A (setItem ov iv u) (fun _ s' => ∃ H', Inv X pins σ H' s' ∧ Q H') X.xe s
section
variable {X : Cx} {pos : Pos}
def gName (i : Nat) : TG := fun v σ H Q => Q (σ.set i (some v)) H
theorem pg_name {i : Nat} {x : Str} (hN : X.N.Nodup) (hi : X.N[i]? = some x) (hx : Loc X.env.scope x) (hf : X.fn x = true ∨ X.env.scope.names.lookup x = some .local := by first | exact .inl rfl | exact .inr rfl | assumption) : PG X (.Name x pos) (gName i) := by
  intro pins s σ H v u Q I r h
  exact wpAny_assign_Name (store_ok I hN hi hx r (fun s' I' => ⟨_, H, I', h⟩) hf)
def gNil : TGs := fun vs σ H Q => vs = [] ∧ Q σ H
def gCons (t : TG) (u : TGs) : TGs := fun vs σ H Q => ∃ v r, vs = v :: r ∧ t v σ H fun σ' H' => u r σ' H' Q
/-- o[i] = .. -/
def gSub (to ti : TE) (t : TSet) : TG := fun v σ H Q => to σ H fun o H1 => ti σ H1 fun i H2 => t o i v H2 fun H3 => Q σ H3
theorem pg_sub {o i : Expr} {to ti : TE} {t : TSet} (ho : PE X o to) (hi : PE X i ti) (hs : PSet X t)
    (ha : ∀ v, assign (.Subscript o i pos) X.env v = (do
      let ov ← holding [v] (eval o X.env)
      let iv ← holding [v, ov] (eval i X.env)
      standAt pos
      holding [v, ov, iv] (setItem ov iv v)
      release [v, ov, iv] []) := by intro _; rfl) : PG X (.Subscript o i pos) (gSub to ti t) := by
  intro pins s σ H v u Q I r h
  rw [ha]
  refine wpAny_bind (wpAny_holding (thn (ho pins s σ H _ I h) fun ov s1 ⟨x, H1, I1, r1, q1⟩ => ?_))
  refine wpAny_bind (wpAny_holding (thn (hi pins s1 σ H1 _ I1 q1) fun iv s2 ⟨y, H2, I2, r2, q2⟩ => ?_))
  refine wpAny_bind (wpAny_standAt (wpAny_bind (wpAny_holding (thn (hs pins s2 σ H2 x y v ov iv u _ I2 r1 r2 r q2) fun _ s3 ⟨H3, I3, q3⟩ => ?_))))
  exact wpAny_release ⟨σ, H3, I3, q3⟩
/-- target = value -/
def tAsg (te : TE) (g : TG) : TS := fun D σ H => te σ H fun x H1 => g x σ H1 D.nx
theorem ps_asg {tg e : Expr} {te : TE} {g : TG} (he : PE X e te) (hg : PG X tg g) (hs : swapsWithSole [tg] e pos.line X.env = pure false := by rfl) (hw : swappedStores [tg] e X.env = pure none := by rfl)
    (h1 : (assignEach [tg] X.env).map (·.2) = [assign tg X.env] := by rfl) : PS X (.Assign [tg] e pos) (tAsg te g) := by
  intro pins s σ H D I h
  refine wpAny_Assign_stores (thn (he pins s σ H _ I h) fun v s1 ⟨x, H1, I1, r1, q1⟩ => ?_) hs hw
  rw [h1]
  exact thn (hg pins s1 σ H1 x v _ I1 r1 q1) fun _ s2 q => q
/-- name = value -/
theorem ps_set {i : Nat} {x : Str} {e : Expr} {te : TE} {pos' : Pos} (hN : X.N.Nodup) (hi : X.N[i]? = some x) (hx : Loc X.env.scope x) (he : PE X e te) (hs : swapsWith e (some (.Name x pos')) pos.line X.env = pure false := by rfl) (hf : X.fn x = true ∨ X.env.scope.names.lookup x = some .local := by first | exact .inl rfl | exact .inr rfl | assumption) :
    PS X (.Assign [.Name x pos'] e pos) (tAsg te (gName i)) := by
  intro pins s σ H D I h
  refine wpAny_Assign_Name (thn (he pins s σ H _ I h) fun v s1 ⟨y, H1, I1, r1, q1⟩ => ?_) hs
  exact store_ok I1 hN hi hx r1 (fun s2 I2 => ⟨_, H1, I2, q1⟩) hf
end

section
variable {X : Cx} {pos : Pos}
/-- the invariant W with its measure -/
def tWhile (c : TT) (tb : TS) : TS := fun D σ H => ∃ W : Nat → St → Hp → Prop, (∃ m, W m σ H) ∧ ∀ m σ H, W m σ H →
  c σ H fun b H1 => if b = true then ∃ N : St → Hp → Prop, (∀ σ' H', N σ' H' → ∃ m', m' < m ∧ W m' σ' H') ∧ tb { D with nx := N, ct := N, bk := D.nx } σ H1 else D.nx σ H1
theorem ps_while {c : Expr} {body : List Stmt} {tc : TT} {tb : TS} (hp : PassesOwn (model X.prog X.w) X.A X.env X.xe) (hc : PT X c tc) (hb : PSs X body tb) : PS X (.While c body [] pos) (tWhile tc tb) := by
  intro pins s σ H D I h
  obtain ⟨W, ⟨m0, w0⟩, turn⟩ := h
  refine wpAny_While (codeAny_whileLoop (fun n s' => ∃ σ' H', Inv X pins σ' H' s' ∧ W n σ' H') ?_ m0 ⟨σ, H, I, w0⟩)
  rintro n s1 ⟨σ1, H1, I1, w1⟩
  refine wpAny_passesOwn hp (thn (hc pins s1 σ1 H1 _ I1 (turn n σ1 H1 w1)) fun b s2 ⟨H2, I2, q2⟩ => ?_)
  cases b with
  | true =>
    obtain ⟨N, hN, q2⟩ := q2
    rw [if_pos rfl]
    refine wpAny_passesOwn hp (thn (hb pins s2 σ1 H2 _ I2 q2) fun f s3 q3 => ?_)
    cases f with
    | next =>
      obtain ⟨σ3, H3, I3, n3⟩ := q3
      obtain ⟨m', hm, w3⟩ := hN σ3 H3 n3
      exact ⟨m', hm, σ3, H3, I3, w3⟩
    | cont =>
      obtain ⟨σ3, H3, I3, n3⟩ := q3
      obtain ⟨m', hm, w3⟩ := hN σ3 H3 n3
      exact ⟨m', hm, σ3, H3, I3, w3⟩
    | brk => exact q3
    | ret v => exact q3
  | false =>
    rw [if_neg Bool.false_ne_true]
    exact wpAny_execs_nil ⟨σ1, H2, I2, q2⟩
end

/-- at turn i: it yields x (the heap may grow), or it stops -/
structure It where
  go : Nat → Hp → Prop
  yld : Nat → Hp → V → Hp → Prop
  stop : Nat → Hp → Prop
/-- the iterator's own objects may turn: they are not the frame's, not pinned, younger than the entry (or a comprehension's own) -/
def FpOk (X : Cx) (pins : List (Addr × Obj)) (H : Hp) (b : Addr) : Prop :=
  H b = none ∧ b ≠ X.env.locals ∧ b ∉ X.fs ∧ (b ∈ X.ex ∨ X.s₀.heap.objs.size ≤ b) ∧ (∀ x c, X.env.cells.lookup x = some c → c ≠ b) ∧ ∀ p ∈ X.pn ++ pins, p.1 ≠ b
theorem Inv.fpOk {X : Cx} {pins : List (Addr × Obj)} {σ : St} {H H' : Hp} {s : Shared} {b : Addr} (I : Inv X pins σ H s) (hb : s.heap.objs.size ≤ b) (hn : H' b = none) : FpOk X pins H' b := by
  refine ⟨hn, Nat.ne_of_gt (Nat.lt_of_lt_of_le I.lt hb), I.nofs hb, .inr (Nat.le_trans I.sz hb), fun x c e z => ?_, fun p hp z => ?_⟩
  · obtain ⟨v, q⟩ := I.cell x c e
    exact absurd (Nat.lt_of_lt_of_le q.lt (by rw [z]; exact hb)) (Nat.lt_irrefl _)
  · exact absurd (Nat.lt_of_lt_of_le (Heap.lt_size (I.pin p hp).1) (by rw [z]; exact hb)) (Nat.lt_irrefl _)
structure Turn (P : Program) (w : World) (K : PySem.W.Frag) (tg : Expr) (J : It) (fp : List Addr) (it : Addr) (tn : Nat → Heap → Prop) : Prop where
  mem : it ∈ fp
  obj : ∀ i h, tn i h → ∀ b ∈ fp, ∃ o, h.get? b = some o ∧ ∀ v, o.data ≠ .cell v
  keep : ∀ i h h', tn i h → (∀ b ∈ fp, ∀ o, h.get? b = some o → h'.get? b = some o) → tn i h'
  item : ∀ (X : Cx), X.prog = P → X.w = w → X.K = K → X.calm = true → ∀ (i : Nat) (pins : List (Addr × Obj)) (s : Shared) (σ : St) (H : Hp) (E : Value → Shared → Prop), Inv X pins σ H s → (∀ b ∈ fp, FpOk X pins H b) → tn i s.heap → J.go i H →
    wpAny (model P w) X.A (pyNext (.ref it)) (fun r s1 => ∃ u, r = some u ∧
      wpAny (model P w) X.A (letOwnedTupleGo tg (.ref it) u) (fun _ s2 => ∃ x H', Inv X pins σ H' s2 ∧ RelV x u ∧ J.yld i H x H' ∧ tn (i + 1) s2.heap ∧ ∀ b ∈ fp, H' b = none) E s1) E s
  done : ∀ (X : Cx), X.prog = P → X.w = w → X.K = K → X.calm = true → ∀ (i : Nat) (pins : List (Addr × Obj)) (s : Shared) (σ : St) (H : Hp) (E : Value → Shared → Prop), Inv X pins σ H s → (∀ b ∈ fp, FpOk X pins H b) → tn i s.heap → J.stop i H →
    wpAny (model P w) X.A (pyNext (.ref it)) (fun r s1 => r = none ∧ Inv X pins σ H s1) E s
  self : ∀ (A : Around) (i : Nat) (s : Shared) (Q : Value → Shared → Prop) (E : Value → Shared → Prop), tn i s.heap → Q (.ref it) s → wpAny (model P w) A (pyIter (.ref it)) Q E s
abbrev TI := St → Hp → (It → Hp → Prop) → Prop
/-- an iterator has come -/
def PIE (X : Cx) (pins : List (Addr × Obj)) (σ : St) (tg : Expr) (R : It → Hp → Prop) (itv : Value) (s2 : Shared) : Prop :=
  ∃ (it : Addr) (fp : List Addr) (tn : Nat → Heap → Prop) (J : It) (H' : Hp), itv = .ref it ∧ Inv X pins σ H' s2 ∧ Turn X.prog X.w X.K tg J fp it tn ∧ tn 0 s2.heap ∧ (∀ b ∈ fp, FpOk X pins H' b) ∧ R J H'
def PI (X : Cx) (tg iter : Expr) (wi : TI) : Prop :=
  ∀ (pins : List (Addr × Obj)) (s : Shared) (σ : St) (H : Hp) (R : It → Hp → Prop), Inv X pins σ H s → wi σ H R →
    wpAny (model X.prog X.w) X.A (eval iter X.env) (fun v s1 => wpAny (model X.prog X.w) X.A (pyIter v) (PIE X pins σ tg R) X.xe s1) X.xe s

/-- the step ahead of the store is nothing for an iterator that keeps no tuple -/
theorem go_of {M : Model} {A : Around} {E : Value → Shared → Prop} {s : Shared} {tg : Expr} {it : Addr} {u : Value} {o : Obj} {n : String} {vs : Array Value} {Q : Unit → Shared → Prop} (ho : s.heap.get? it = some o) (hc : o.cls = .type n) (hd : o.data = .fields vs)
    (hn : ["enumerate", "zip", "dict_itemiterator", "dict_reverseitemiterator", "odict_iterator", "itertools.zip_longest", "itertools.pairwise"].contains n = false) (hQ : Q () s) : wpAny M A (letOwnedTupleGo tg (.ref it) u) Q E s := by
  unfold letOwnedTupleGo
  cases tg <;> first
    | exact wpAny_pure hQ
    | (cases u <;> first
        | exact wpAny_pure hQ
        | (refine wpAny_bind (wpAny_load ho ?_)
           rw [hc, hd]
           show wpAny M A (if (["enumerate", "zip", "dict_itemiterator", "dict_reverseitemiterator", "odict_iterator", "itertools.zip_longest", "itertools.pairwise"].contains n && vs[0]? == some (rawInt _)) = true then _ else _) Q E s
           rw [if_neg (by intro h; rw [hn, Bool.false_and] at h; cases h)]
           exact wpAny_pure hQ))

/-- the list at a, as it stands at each turn (a loop may append to it) -/
def Itl (K : PySem.W.Frag) (a : Addr) : It :=
  ⟨fun i H => ∃ xs x, SqL K H a xs ∧ xs[i]? = some x, fun i H x H' => H' = H ∧ ∀ xs, SqL K H a xs → xs[i]? = some x, fun i H => ∃ xs, SqL K H a xs ∧ xs.length ≤ i⟩
def Itt (K : PySem.W.Frag) (a : Addr) : It :=
  ⟨fun i H => ∃ xs x, SqT K H a xs ∧ xs[i]? = some x, fun i H x H' => H' = H ∧ ∀ xs, SqT K H a xs → xs[i]? = some x, fun i H => ∃ xs, SqT K H a xs ∧ xs.length ≤ i⟩
/-- lo, lo + 1, .. (n of them) -/
def Itr (lo : Int) (n : Nat) : It := ⟨fun i _ => i < n, fun i H x H' => H' = H ∧ x = .int (lo + i), fun i _ => n ≤ i⟩
theorem turn_list {P : Program} {w : World} {K : PySem.W.Frag} {tg : Expr} (a it : Addr) : Turn P w K tg (Itl K a) [it] it (fun i h => h.IsListIter it a i) where
  mem := by simp
  obj := fun i h st b hb => by
    have e : b = it := by simpa using hb
    subst e
    obtain ⟨o, e, c, d⟩ := st
    exact ⟨o, e, fun v z => by rw [d] at z; cases z⟩
  keep := fun i h h' st k => st.at fun o e => k it (by simp) o e
  item := by
    intro X hP hw hK hc i pins s σ H E I hf st hg
    subst hP hw hK
    obtain ⟨xs, x, hq, hx⟩ := hg
    obtain ⟨its, rv, p, hz⟩ := I.list hq
    obtain ⟨u, hu, ru⟩ := rv.get hx
    obtain ⟨f0, f1, f2, f3, f4, f5⟩ := hf it (by simp)
    refine wpAny_pyNext_list_item st p.isList (x := u) (by simpa using hu) fun h' st' sb => ?_
    have I1 : Inv X pins σ H { s with heap := h' } := I.turned (t' := s.toks) (fun b o hb e => (sb.2 b hb).trans e) f0 f1 f3 f4 f5
    obtain ⟨o, e, c, d⟩ := id st'
    exact ⟨u, rfl, go_of (s := { s with heap := h' }) e c d (by decide) ⟨x, H, I1, ru, ⟨rfl, fun ys hy => by rw [I.list_inj hy hq]; exact hx⟩, st', fun b hb => (hf b hb).1⟩⟩
  done := by
    intro X hP hw hK hc i pins s σ H E I hf st hg
    subst hP hw hK
    obtain ⟨xs, hq, hx⟩ := hg
    obtain ⟨its, rv, p, hz⟩ := I.list hq
    obtain ⟨f0, f1, f2, f3, f4, f5⟩ := hf it (by simp)
    have hl := rv.length
    exact wpAny_pyNext_list_end (I.ok.hd hc) st p.isList (by simp; omega) fun h' eb => ⟨rfl, I.turned (t' := s.toks) (fun b o hb e => eb b o hb e) f0 f1 f3 f4 f5⟩
  self := fun _ _ _ _ _ st h => wpAny_pyIter_listiter st h
theorem turn_tuple {P : Program} {w : World} {K : PySem.W.Frag} {tg : Expr} (a it : Addr) : Turn P w K tg (Itt K a) [it] it (fun i h => h.IsTupleIter it a i) where
  mem := by simp
  obj := fun i h st b hb => by
    have e : b = it := by simpa using hb
    subst e
    obtain ⟨o, e, c, d⟩ := st
    exact ⟨o, e, fun v z => by rw [d] at z; cases z⟩
  keep := fun i h h' st k => st.at fun o e => k it (by simp) o e
  item := by
    intro X hP hw hK hc i pins s σ H E I hf st hg
    subst hP hw hK
    obtain ⟨xs, x, hq, hx⟩ := hg
    obtain ⟨its, rv, p, hz⟩ := I.tuple hq
    obtain ⟨u, hu, ru⟩ := rv.get hx
    obtain ⟨f0, f1, f2, f3, f4, f5⟩ := hf it (by simp)
    refine wpAny_pyNext_tuple_item st (show s.heap.IsTuple a its.toArray from p) (x := u) (by simpa using hu) fun h' st' sb => ?_
    have I1 : Inv X pins σ H { s with heap := h' } := I.turned (t' := s.toks) (fun b o hb e => (sb.2 b hb).trans e) f0 f1 f3 f4 f5
    obtain ⟨o, e, c, d⟩ := id st'
    exact ⟨u, rfl, go_of (s := { s with heap := h' }) e c d (by decide) ⟨x, H, I1, ru, ⟨rfl, fun ys hy => by rw [I.tuple_inj hy hq]; exact hx⟩, st', fun b hb => (hf b hb).1⟩⟩
  done := by
    intro X hP hw hK hc i pins s σ H E I hf st hg
    subst hP hw hK
    obtain ⟨xs, hq, hx⟩ := hg
    obtain ⟨its, rv, p, hz⟩ := I.tuple hq
    obtain ⟨f0, f1, f2, f3, f4, f5⟩ := hf it (by simp)
    have hl := rv.length
    exact wpAny_pyNext_tuple_end (I.ok.hd hc) st (show s.heap.IsTuple a its.toArray from p) (by simp; omega) fun h' eb => ⟨rfl, I.turned (t' := s.toks) (fun b o hb e => eb b o hb e) f0 f1 f3 f4 f5⟩
  self := fun _ _ _ _ _ st h => wpAny_pyIter_tupleiter st h
theorem turn_range {P : Program} {w : World} {K : PySem.W.Frag} {tg : Expr} (it : Addr) (lo : Int) (n : Nat) : Turn P w K tg (Itr lo n) [it] it (fun i h => IsRangeIter h it (lo + (i : Nat) * 1) ((n : Int) - (i : Nat)) 1) where
  mem := by simp
  obj := fun i h st b hb => by
    have e : b = it := by simpa using hb
    subst e
    exact ⟨_, st, fun v z => by
      have z' : Data.fields _ = Data.cell v := z
      cases z'⟩
  keep := fun i h h' st k => k it (by simp) _ st
  item := by
    intro X hP hw hK hc i pins s σ H E I hf st hg
    subst hP hw hK
    obtain ⟨f0, f1, f2, f3, f4, f5⟩ := hf it (by simp)
    have W := Walks.range (prog := X.prog) (w := X.w) (I.ok.hd hc) it lo 1 n
    refine W.item i s _ _ hg st fun v h' tk hv st' kk => ?_
    obtain ⟨t, rfl⟩ := hv
    have I1 : Inv X pins σ H { s with heap := h', toks := tk } := I.turned (fun b o hb e => kk b o (by simpa using hb) e) f0 f1 f3 f4 f5
    refine ⟨_, rfl, go_of (s := { s with heap := h', toks := tk }) (n := "range_iterator") st' rfl rfl (by decide) ⟨.int (lo + i), H, I1, ⟨t, ?_⟩, ⟨rfl, rfl⟩, st', fun b hb => (hf b hb).1⟩⟩
    rw [Int.mul_one]
  done := by
    intro X hP hw hK hc i pins s σ H E I hf st hg
    subst hP hw hK
    obtain ⟨f0, f1, f2, f3, f4, f5⟩ := hf it (by simp)
    exact wpAny_pyNext_range_end (I.ok.hd hc) st (by have : n ≤ i := hg; omega) fun h' eb => ⟨rfl, I.turned (t' := s.toks) (fun b o hb e => eb b o hb e) f0 f1 f3 f4 f5⟩
  self := fun _ _ _ _ _ st h => wpAny_pyIter_rangeiter st h
end L2

namespace L2
open PySem PySem.Spec PyProof.Rows
section
variable {X : Cx} {tg : Expr}
/-- a range object just made, walked -/
theorem range_it {pins : List (Addr × Obj)} {σ : St} {H : Hp} {s : Shared} {R : It → Hp → Prop} {E : Value → Shared → Prop} {lo hi : Int} {t u v : Tok} {tk : Nat} (I : Inv X pins σ H s) (h1 : -(2 ^ 62) ≤ lo) (h2 : lo < 2 ^ 62) (h3 : -(2 ^ 62) ≤ hi) (h4 : hi < 2 ^ 62)
    (q : R (Itr lo (hi - lo).toNat) H) : wpAny (model X.prog X.w) X.A (pyIter (.ref s.heap.objs.size)) (PIE X pins σ tg R) E { s with heap := s.heap.push { cls := .type "range", data := .fields #[.int lo t, .int hi u, .int 1 v] }, toks := tk } := by
  refine wpAny_pyIter_range (IsRange.new ..) (small_one h1 h2 h3 h4) ?_
  have I1 : Inv X pins σ H { s with heap := s.heap.push { cls := .type "range", data := .fields #[.int lo t, .int hi u, .int 1 v] }, toks := tk } := I.kept fun b o e => Heap.get?_push_of_some _ e
  refine ⟨(s.heap.push { cls := .type "range", data := .fields #[.int lo t, .int hi u, .int 1 v] }).objs.size, [(s.heap.push { cls := .type "range", data := .fields #[.int lo t, .int hi u, .int 1 v] }).objs.size], _, _, H, rfl,
    I1.kept (t' := tk) fun b o e => Heap.get?_push_of_some _ e, turn_range _ lo (hi - lo).toNat, ?_, fun b hb => ?_, q⟩
  · have e1 : lo + ((0 : Nat) : Int) * 1 = lo := by simp
    have e2 : (((hi - lo).toNat : Nat) : Int) - ((0 : Nat) : Int) = Builtin.Range.rangeSize lo hi 1 := by rw [rangeSize_one]; split <;> omega
    show IsRangeIter _ _ (lo + ((0 : Nat) : Int) * 1) ((((hi - lo).toNat : Nat) : Int) - ((0 : Nat) : Int)) 1
    rw [e1, e2]
    exact Heap.get?_push_size _ rfl
  · have e : b = (s.heap.push { cls := .type "range", data := .fields #[.int lo t, .int hi u, .int 1 v] }).objs.size := by simpa using hb
    subst e
    exact I1.fpOk (Nat.le_refl _) (I1.hok.fresh (Nat.le_refl _))
def iRng1 (ta : TA) : TI := fun σ H R => ta σ H fun vs H1 => ∃ j : Int, vs = [.int j] ∧ -(2 ^ 62) ≤ j ∧ j < 2 ^ 62 ∧ R (Itr 0 j.toNat) H1
def iRng2 (ta : TA) : TI := fun σ H R => ta σ H fun vs H1 => ∃ i j : Int, vs = [.int i, .int j] ∧ (-(2 ^ 62) ≤ i ∧ i < 2 ^ 62 ∧ -(2 ^ 62) ≤ j ∧ j < 2 ^ 62) ∧ R (Itr i (j - i).toNat) H1
theorem pi_range1 {a : Expr} {ta : TA} {p pos : Pos} (hg : Gl X "range") (hm : X.mg "range" = none) (ha : PA X [a] ta) (hs : starEach [a] X.env = [(false, eval a X.env)] := by rfl) : PI X tg (.Call (.Name "range" p) [a] [] pos) (iRng1 ta) := by
  intro pins s σ H R I h
  refine Call_ (ld_blt I hg hm boot_range (PyProof.Rows.callWith_type1 (thn (ha pos pins s σ H _ I h) fun us s1 ⟨vs, H1, I1, r1, q1⟩ => ?_) hs rfl))
  obtain ⟨j, e, q1, q2, q⟩ := q1
  subst e
  cases r1 with
  | cons r rr =>
    cases rr
    obtain ⟨t, rfl⟩ := r
    exact call_range_1 (range_it I1 (by omega) (by omega) q1 q2 (by simpa using q))
/-- W: the invariant by the turn and a measure; N: what the body is to reach -/
def tFor (wi : TI) (g : TG) (tb : TS) : TS := fun D σ H => wi σ H fun J H1 => ∃ W : Nat → Nat → St → Hp → Prop, (∃ m, W 0 m σ H1) ∧ ∀ i m σ H, W i m σ H →
  (J.stop i H ∧ D.nx σ H) ∨ (J.go i H ∧ ∃ N : St → Hp → Prop, (∀ σ' H', N σ' H' → ∃ m', m' < m ∧ W (i + 1) m' σ' H') ∧ ∀ x H', J.yld i H x H' → g x σ H' fun σ2 H2 => tb { D with nx := N, ct := N, bk := D.nx } σ2 H2)
/-- the records at fp as they stand -/
def pinsAt (fp : List Addr) (h : Heap) : List (Addr × Obj) := fp.filterMap fun b => (h.get? b).map fun o => (b, o)
theorem mem_pinsAt {fp : List Addr} {h : Heap} {b : Addr} {o : Obj} (hb : b ∈ fp) (e : h.get? b = some o) : (b, o) ∈ pinsAt fp h := List.mem_filterMap.mpr ⟨b, hb, by rw [e]; rfl⟩
theorem of_pinsAt {fp : List Addr} {h : Heap} {p : Addr × Obj} (hp : p ∈ pinsAt fp h) : p.1 ∈ fp ∧ h.get? p.1 = some p.2 := by
  obtain ⟨b, hb, e⟩ := List.mem_filterMap.mp hp
  cases q : h.get? b with
  | none => rw [q] at e; cases e
  | some o =>
    rw [q] at e
    have e' : (b, o) = p := Option.some.inj e
    subst e'
    exact ⟨hb, q⟩
theorem Inv.pinned {pins : List (Addr × Obj)} {σ : St} {H : Hp} {s : Shared} {fp : List Addr} (I : Inv X pins σ H s) (hf : ∀ b ∈ fp, FpOk X pins H b) (ho : ∀ b ∈ fp, ∃ o, s.heap.get? b = some o ∧ ∀ v, o.data ≠ .cell v) : Inv X (pins ++ pinsAt fp s.heap) σ H s :=
  I.pins_of fun p hp => (List.mem_append.mp hp).elim (fun z => I.pin p (List.mem_append_right _ z)) fun z => by
    obtain ⟨hb, e⟩ := of_pinsAt z
    obtain ⟨f0, f1, f2, _⟩ := hf p.1 hb
    obtain ⟨o, e', d⟩ := ho p.1 hb
    rw [e] at e'; cases e'
    exact ⟨e, f0, f1, f2, d⟩
theorem Inv.unpinned {pins pl : List (Addr × Obj)} {σ : St} {H : Hp} {s : Shared} (I : Inv X (pins ++ pl) σ H s) : Inv X pins σ H s := I.pins_of fun p hp => I.pin p (List.mem_append_right _ (List.mem_append_left _ hp))
theorem ps_for {iter : Expr} {body : List Stmt} {wi : TI} {g : TG} {tb : TS} {pos : Pos} (hp : PassesOwn (model X.prog X.w) X.A X.env X.xe) (hc : X.calm = true) (hi : PI X tg iter wi) (hg : PG X tg g) (hb : PSs X body tb)
    (hs : ∀ x, foldedSetIterable iter X.env x = pure x := by intro _; rfl) : PS X (.For tg iter body [] pos) (tFor wi g tb) := by
  intro pins s σ H D I h
  refine wpAny_For (thn (hi pins s σ H _ I h) fun v s1 h1 => thn h1 fun itv s2 h2 => ?_) hs
  obtain ⟨it, fp, tn, J, H2, e, I2, T, st2, f2, W, ⟨m0, w0⟩, turn⟩ := h2
  subst e
  -- what stays true of the iterator's objects through the loop
  have stat : ∀ {H' : Hp}, (∀ b ∈ fp, H' b = none) → ∀ b ∈ fp, FpOk X pins H' b := fun hn b hb => ⟨hn b hb, (f2 b hb).2⟩
  refine codeAny_forLoop_any (fun n s' => ∃ i σ' H', Inv X pins σ' H' s' ∧ tn i s'.heap ∧ (∀ b ∈ fp, H' b = none) ∧ W i n σ' H') ?_ m0 ⟨0, σ, H2, I2, st2, fun b hb => (f2 b hb).1, w0⟩
  rintro n s3 ⟨i, σ3, H3, I3, st3, fr3, w3⟩
  rcases turn i n σ3 H3 w3 with ⟨stop, qn⟩ | ⟨go, N, hN, step⟩
  · refine wpAny_passesOwn hp (thn (T.done X rfl rfl rfl hc i pins s3 σ3 H3 X.xe I3 (stat fr3) st3 stop) fun r s4 ⟨hr, I4⟩ => ?_)
    subst hr
    exact wpAny_execs_nil ⟨σ3, H3, I4, qn⟩
  · refine wpAny_passesOwn hp (thn (T.item X rfl rfl rfl hc i pins s3 σ3 H3 X.xe I3 (stat fr3) st3 go) fun r s4 ⟨u, hr, h4⟩ => ?_)
    subst hr
    refine wpAny_passesOwn hp (thn h4 fun _ s5 ⟨x, H5, I5, r5, y5, st5, fr5⟩ => ?_)
    have I5' := I5.pinned (stat fr5) (T.obj _ _ st5)
    refine wpAny_passesOwn hp (thn (hg _ s5 σ3 H5 x u _ I5' r5 (step x H5 y5)) fun _ s6 ⟨σ6, H6, I6, q6⟩ => ?_)
    refine wpAny_passesOwn hp (thn (hb _ s6 σ6 H6 _ I6 q6) fun f s7 q7 => ?_)
    have again : ∀ {σ7 : St} {H7 : Hp}, Inv X (pins ++ pinsAt fp s5.heap) σ7 H7 s7 → N σ7 H7 → ∃ m, m < n ∧ ∃ i σ' H', Inv X pins σ' H' s7 ∧ tn i s7.heap ∧ (∀ b ∈ fp, H' b = none) ∧ W i m σ' H' := fun {σ7 H7} I7 n7 => by
      obtain ⟨m', hm, w7⟩ := hN σ7 H7 n7
      refine ⟨m', hm, i + 1, σ7, H7, I7.unpinned, T.keep _ _ _ st5 fun b hb o e => (I7.pin (b, o) (List.mem_append_right _ (List.mem_append_right _ (mem_pinsAt hb e)))).1, fun b hb => ?_, w7⟩
      obtain ⟨o, e, d⟩ := T.obj _ _ st5 b hb
      exact (I7.pin (b, o) (List.mem_append_right _ (List.mem_append_right _ (mem_pinsAt hb e)))).2.1
    cases f with
    | next => obtain ⟨σ7, H7, I7, n7⟩ := q7; exact again I7 n7
    | cont => obtain ⟨σ7, H7, I7, n7⟩ := q7; exact again I7 n7
    | brk => obtain ⟨σ7, H7, I7, q7⟩ := q7; exact ⟨σ7, H7, I7.unpinned, q7⟩
    | ret v => obtain ⟨x7, σ7, H7, I7, r7, q7⟩ := q7; exact ⟨x7, σ7, H7, I7.unpinned, r7, q7⟩
end

/-- over a list that the body leaves as it is -/
theorem for_list {K : PySem.W.Frag} {a : Addr} {xs : List V} {g : TG} {tb : TS} {D : Ends} {σ : St} {H : Hp} (Pv : Nat → St → Hp → Prop) (h0 : Pv 0 σ H) (hl : ∀ i σ H, i ≤ xs.length → Pv i σ H → SqL K H a xs)
    (hs : ∀ i x σ H, xs[i]? = some x → Pv i σ H → g x σ H fun σ2 H2 => tb { D with nx := Pv (i + 1), ct := Pv (i + 1), bk := D.nx } σ2 H2) (hd : ∀ σ H, Pv xs.length σ H → D.nx σ H) :
    ∃ W : Nat → Nat → St → Hp → Prop, (∃ m, W 0 m σ H) ∧ ∀ i m σ H, W i m σ H →
      ((Itl K a).stop i H ∧ D.nx σ H) ∨ ((Itl K a).go i H ∧ ∃ N : St → Hp → Prop, (∀ σ' H', N σ' H' → ∃ m', m' < m ∧ W (i + 1) m' σ' H') ∧ ∀ x H', (Itl K a).yld i H x H' → g x σ H' fun σ2 H2 => tb { D with nx := N, ct := N, bk := D.nx } σ2 H2) := by
  refine ⟨fun i m σ H => m = xs.length - i ∧ i ≤ xs.length ∧ Pv i σ H, ⟨xs.length, by simp, Nat.zero_le _, h0⟩, ?_⟩
  rintro i m σ H ⟨rfl, hi, p⟩
  have q := hl i σ H hi p
  by_cases hlt : i < xs.length
  · refine .inr ⟨⟨xs, xs[i], q, by simp [hlt]⟩, Pv (i + 1), fun σ' H' p' => ⟨xs.length - (i + 1), by omega, rfl, hlt, p'⟩, fun x H' y => ?_⟩
    obtain ⟨e, y⟩ := y
    subst e
    exact hs i x σ _ (y xs q) p
  · have e : i = xs.length := by omega
    subst e
    exact .inl ⟨⟨xs, q, Nat.le_refl _⟩, hd σ H p⟩
theorem for_tup {K : PySem.W.Frag} {a : Addr} {xs : List V} {g : TG} {tb : TS} {D : Ends} {σ : St} {H : Hp} (Pv : Nat → St → Hp → Prop) (h0 : Pv 0 σ H) (hl : ∀ i σ H, i ≤ xs.length → Pv i σ H → SqT K H a xs)
    (hs : ∀ i x σ H, xs[i]? = some x → Pv i σ H → g x σ H fun σ2 H2 => tb { D with nx := Pv (i + 1), ct := Pv (i + 1), bk := D.nx } σ2 H2) (hd : ∀ σ H, Pv xs.length σ H → D.nx σ H) :
    ∃ W : Nat → Nat → St → Hp → Prop, (∃ m, W 0 m σ H) ∧ ∀ i m σ H, W i m σ H →
      ((Itt K a).stop i H ∧ D.nx σ H) ∨ ((Itt K a).go i H ∧ ∃ N : St → Hp → Prop, (∀ σ' H', N σ' H' → ∃ m', m' < m ∧ W (i + 1) m' σ' H') ∧ ∀ x H', (Itt K a).yld i H x H' → g x σ H' fun σ2 H2 => tb { D with nx := N, ct := N, bk := D.nx } σ2 H2) := by
  refine ⟨fun i m σ H => m = xs.length - i ∧ i ≤ xs.length ∧ Pv i σ H, ⟨xs.length, by simp, Nat.zero_le _, h0⟩, ?_⟩
  rintro i m σ H ⟨rfl, hi, p⟩
  have q := hl i σ H hi p
  by_cases hlt : i < xs.length
  · refine .inr ⟨⟨xs, xs[i], q, by simp [hlt]⟩, Pv (i + 1), fun σ' H' p' => ⟨xs.length - (i + 1), by omega, rfl, hlt, p'⟩, fun x H' y => ?_⟩
    obtain ⟨e, y⟩ := y
    subst e
    exact hs i x σ _ (y xs q) p
  · have e : i = xs.length := by omega
    subst e
    exact .inl ⟨⟨xs, q, Nat.le_refl _⟩, hd σ H p⟩
theorem for_range {lo : Int} {n : Nat} {g : TG} {tb : TS} {D : Ends} {σ : St} {H : Hp} (Pv : Nat → St → Hp → Prop) (h0 : Pv 0 σ H)
    (hs : ∀ i σ H, i < n → Pv i σ H → g (.int (lo + i)) σ H fun σ2 H2 => tb { D with nx := Pv (i + 1), ct := Pv (i + 1), bk := D.nx } σ2 H2) (hd : ∀ σ H, Pv n σ H → D.nx σ H) :
    ∃ W : Nat → Nat → St → Hp → Prop, (∃ m, W 0 m σ H) ∧ ∀ i m σ H, W i m σ H →
      ((Itr lo n).stop i H ∧ D.nx σ H) ∨ ((Itr lo n).go i H ∧ ∃ N : St → Hp → Prop, (∀ σ' H', N σ' H' → ∃ m', m' < m ∧ W (i + 1) m' σ' H') ∧ ∀ x H', (Itr lo n).yld i H x H' → g x σ H' fun σ2 H2 => tb { D with nx := N, ct := N, bk := D.nx } σ2 H2) := by
  refine ⟨fun i m σ H => m = n - i ∧ i ≤ n ∧ Pv i σ H, ⟨n, by simp, Nat.zero_le _, h0⟩, ?_⟩
  rintro i m σ H ⟨rfl, hi, p⟩
  by_cases hlt : i < n
  · refine .inr ⟨hlt, Pv (i + 1), fun σ' H' p' => ⟨n - (i + 1), by omega, rfl, hlt, p'⟩, fun x H' y => ?_⟩
    obtain ⟨e, y⟩ := y
    subst e y
    exact hs i σ _ hlt p
  · have e : i = n := by omega
    subst e
    exact .inl ⟨Nat.le_refl _, hd σ H p⟩
end L2

namespace L2
open PySem PySem.Spec PyProof.Rows

abbrev R2 := V → V → Hp → VK → Prop
/-- a two-place operation on values: f is binaryOp op, inplaceOp op or compareOp op -/
def OpR (X : Cx) (f : Value → Value → Sem Value) (r : R2) : Prop :=
  ∀ (pins : List (Addr × Obj)) (s : Shared) (σ : St) (H : Hp) (x y : V) (v u : Value) (Q : VK), Inv X pins σ H s → RelV x v → RelV y u → r x y H Q →
    wpAny (model X.prog X.w) X.A (f v u) (EP X pins σ Q) X.xe s
/-- a call of a value that is known (a builtin, a type) with values -/
def CallR (X : Cx) (f : Value) (r : List V → Hp → VK → Prop) : Prop :=
  ∀ (pins : List (Addr × Obj)) (s : Shared) (σ : St) (H : Hp) (xs : List V) (us : List Value) (Q : VK), Inv X pins σ H s → Vals xs us → r xs H Q →
    wpAny (model X.prog X.w) X.A (call f us) (EP X pins σ Q) X.xe s
def tOp (r : R2) (ta tb : TE) : TE := fun σ H Q => ta σ H fun x H1 => tb σ H1 fun y H2 => r x y H2 Q
def tUn (r : V → Hp → VK → Prop) (ta : TE) : TE := fun σ H Q => ta σ H fun x H1 => r x H1 Q
/-- ints in, under C, and a value out -/
def rI (C : Int → Int → Prop) (g : Int → Int → V) : R2 := fun x y H Q => ∃ i j, x = .int i ∧ y = .int j ∧ C i j ∧ Q (g i j) H
def rI0 (g : Int → Int → V) : R2 := fun x y H Q => ∃ i j, x = .int i ∧ y = .int j ∧ Q (g i j) H
def rU (g : Int → V) : V → Hp → VK → Prop := fun x H Q => ∃ i, x = .int i ∧ Q (g i) H

section
variable {X : Cx} {a b c : Expr} {ta tb tc : TE} {pos : Pos}

theorem binT (ha : PE X a ta) (hb : PE X b tb) {pins : List (Addr × Obj)} {s : Shared} {σ : St} {H : Hp} {R : V → V → Hp → Prop} (I : Inv X pins σ H s)
    (h : ta σ H fun x H1 => tb σ H1 fun y H2 => R x y H2) {Q : Value → Shared → Prop} {f : Value → Value → Sem Value}
    (hf : ∀ v u s2 x y H2, Inv X pins σ H2 s2 → RelV x v → RelV y u → R x y H2 → wpAny (model X.prog X.w) X.A (f v u) Q X.xe s2) :
    wpAny (model X.prog X.w) X.A (eval a X.env) (fun v s₁ => wpAny (model X.prog X.w) X.A (eval b X.env) (fun u s₂ => wpAny (model X.prog X.w) X.A (f v u) Q X.xe s₂) X.xe s₁) X.xe s := by
  refine thn (ha pins s σ H _ I h) fun v s1 ⟨x, H1, I1, r1, q1⟩ => ?_
  refine thn (hb pins s1 σ H1 _ I1 q1) fun u s2 ⟨y, H2, I2, r2, q2⟩ => ?_
  exact hf v u s2 x y H2 I2 r1 r2 q2

theorem pe_op {op : Operator} {r : R2} (ho : OpR X (binaryOp op) r) (ha : PE X a ta) (hb : PE X b tb) : PE X (.BinOp a op b pos) (tOp r ta tb) := by
  intro pins s σ H Q I h
  exact wpAny_BinOp (binT ha hb I h fun v u s2 x y H2 I2 rx ry q => ho pins s2 σ H2 x y v u Q I2 rx ry q)
theorem opI {f : Value → Value → Sem Value} {C : Int → Int → Prop} {g : Int → Int → Int}
    (rule : ∀ (i j : Int) (t u : Tok) (s : Shared) (Q : Value → Shared → Prop) (E : Value → Shared → Prop), C i j → Q (.int (g i j) s.toks) { s with toks := s.toks + 1 } → wpAny (model X.prog X.w) X.A (f (.int i t) (.int j u)) Q E s) :
    OpR X f (rI C fun i j => .int (g i j)) := by
  intro pins s σ H x y v u Q I rx ry h
  obtain ⟨i, j, rfl, rfl, hc, q⟩ := h
  obtain ⟨t, rfl⟩ := rx
  obtain ⟨t', rfl⟩ := ry
  exact rule i j t t' s _ _ hc ⟨.int (g i j), H, I.tok _, ⟨_, rfl⟩, q⟩
theorem opI0 {f : Value → Value → Sem Value} {g : Int → Int → Int}
    (rule : ∀ (i j : Int) (t u : Tok) (s : Shared) (Q : Value → Shared → Prop) (E : Value → Shared → Prop), Q (.int (g i j) s.toks) { s with toks := s.toks + 1 } → wpAny (model X.prog X.w) X.A (f (.int i t) (.int j u)) Q E s) :
    OpR X f (rI0 fun i j => .int (g i j)) := by
  intro pins s σ H x y v u Q I rx ry h
  obtain ⟨i, j, rfl, rfl, q⟩ := h
  obtain ⟨t, rfl⟩ := rx
  obtain ⟨t', rfl⟩ := ry
  exact rule i j t t' s _ _ ⟨.int (g i j), H, I.tok _, ⟨_, rfl⟩, q⟩
theorem opB0 {f : Value → Value → Sem Value} {g : Int → Int → Bool}
    (rule : ∀ (i j : Int) (t u : Tok) (s : Shared) (Q : Value → Shared → Prop) (E : Value → Shared → Prop), Q (.bool (g i j)) s → wpAny (model X.prog X.w) X.A (f (.int i t) (.int j u)) Q E s) :
    OpR X f (rI0 fun i j => .bl (g i j)) := by
  intro pins s σ H x y v u Q I rx ry h
  obtain ⟨i, j, rfl, rfl, q⟩ := h
  obtain ⟨t, rfl⟩ := rx
  obtain ⟨t', rfl⟩ := ry
  exact rule i j t t' s _ _ ⟨.bl (g i j), H, I, rfl, q⟩

def CPow (i j : Int) : Prop := 0 ≤ j ∧ j ≤ 1000000 ∧ i.natAbs < 2 ^ 64
def CMul (i j : Int) : Prop := (-(2 ^ 64) < i ∧ i < 2 ^ 64) ∨ (-(2 ^ 64) < j ∧ j < 2 ^ 64)
theorem CMul.ok {i j : Int} (h : CMul i j) : IntMulOk i j := by
  rcases h with ⟨h1, h2⟩ | ⟨h1, h2⟩
  · exact .of_left (intBits_le_64 h1 h2)
  · exact .of_right (intBits_le_64 h1 h2)
theorem op_add : OpR X (binaryOp .Add) (rI0 fun i j => .int (i + j)) := opI0 fun _ _ _ _ _ _ _ q => add_int q
theorem op_sub : OpR X (binaryOp .Sub) (rI0 fun i j => .int (i - j)) := opI0 fun _ _ _ _ _ _ _ q => sub_int q
theorem op_modN : OpR X (binaryOp .Mod) (rI (fun _ j => j ≠ 0) fun i j => .int (i.fmod j)) := opI fun _ _ _ _ _ _ _ hc q => mod_int' hc q
theorem op_pow : OpR X (binaryOp .Pow) (rI CPow fun i j => .int (i ^ j.toNat)) := opI fun _ _ _ _ _ _ _ hc q => pow_int_small hc.1 hc.2.1 hc.2.2 q
end

/-- the scalars that == tells apart as data does -/
def scal : V → V → Bool
  | .non, .non => true | .non, .int _ => true | .int _, .non => true | .non, .bl _ => true | .bl _, .non => true | .non, .str _ => true | .str _, .non => true
  | .int _, .int _ => true | .bl _, .bl _ => true | .str _, .str _ => true | .byt _, .byt _ => true
  | .int _, .str _ => true | .str _, .int _ => true | .bl _, .str _ => true | .str _, .bl _ => true
  | _, _ => false
def rEq : R2 := fun x y H Q => scal x y = true ∧ Q (.bl (decide (x = y))) H
def rNe : R2 := fun x y H Q => scal x y = true ∧ Q (.bl (!decide (x = y))) H

theorem dec_int {i j : Int} : decide (V.int i = V.int j) = (i == j) := by
  rw [Bool.eq_iff_iff]
  simp
theorem dec_bl {i j : Bool} : decide (V.bl i = V.bl j) = (i == j) := by
  rw [Bool.eq_iff_iff]
  simp
theorem dec_str {i j : Str} : decide (V.str i = V.str j) = (i == j) := by
  rw [Bool.eq_iff_iff]
  simp
theorem dec_byt {i j : Array UInt8} : decide (V.byt i = V.byt j) = (i.toList == j.toList) := by
  rw [Bool.eq_iff_iff]
  cases i
  cases j
  simp

section
variable {X : Cx} {a b c : Expr} {ta tb tc : TE} {pos : Pos}
theorem fin_bl {pins : List (Addr × Obj)} {σ : St} {H : Hp} {s : Shared} {Q : VK} {k k' : Bool} (I : Inv X pins σ H s) (q : Q (.bl k) H) (e : k = k') : EP X pins σ Q (.bool k') s := by
  subst e
  exact ⟨.bl k, H, I, rfl, q⟩
theorem op_eq : OpR X (compareOp .Eq) rEq := by
  intro pins s σ H x y v u Q I rx ry h
  obtain ⟨hs, q⟩ := h
  cases x with
  | non =>
    cases rx
    cases y with
    | non => cases ry; exact PySem.EqNone.eq_none_none (fin_bl I q (by simp))
    | bl j => cases ry; exact PySem.EqNone.eq_none_bool (fin_bl I q (by simp))
    | int j => obtain ⟨t', rfl⟩ := ry; exact PySem.EqNone.eq_none_int (fin_bl I q (by simp))
    | str j => obtain ⟨t', rfl⟩ := ry; exact PySem.EqNone.eq_none_str (fin_bl I q (by simp))
    | _ => exact absurd (show false = true from hs) Bool.false_ne_true
  | bl i =>
    cases rx
    cases y with
    | non => cases ry; exact PySem.EqNone.eq_bool_none (fin_bl I q (by simp))
    | bl j => cases ry; exact eq_bool (fin_bl I q dec_bl)
    | str j => obtain ⟨t', rfl⟩ := ry; exact PySem.EqMixed.eq_bool_str (fin_bl I q (by simp))
    | _ => exact absurd (show false = true from hs) Bool.false_ne_true
  | int i =>
    obtain ⟨t, rfl⟩ := rx
    cases y with
    | non => cases ry; exact PySem.EqNone.eq_int_none (fin_bl I q (by simp))
    | int j => obtain ⟨t', rfl⟩ := ry; exact eq_int (fin_bl I q dec_int)
    | str j => obtain ⟨t', rfl⟩ := ry; exact PySem.EqMixed.eq_int_str (fin_bl I q (by simp))
    | _ => exact absurd (show false = true from hs) Bool.false_ne_true
  | str i =>
    obtain ⟨t, rfl⟩ := rx
    cases y with
    | non => cases ry; exact PySem.EqNone.eq_str_none (fin_bl I q (by simp))
    | bl j => cases ry; exact PySem.EqMixed.eq_str_bool (fin_bl I q (by simp))
    | int j => obtain ⟨t', rfl⟩ := ry; exact PySem.EqMixed.eq_str_int (fin_bl I q (by simp))
    | str j => obtain ⟨t', rfl⟩ := ry; exact eq_str (fin_bl I q dec_str)
    | _ => exact absurd (show false = true from hs) Bool.false_ne_true
  | byt i =>
    obtain ⟨t, rfl⟩ := rx
    cases y with
    | byt j => obtain ⟨t', rfl⟩ := ry; exact PySem.W.eq_bytes (fin_bl I q dec_byt)
    | _ => exact absurd (show false = true from hs) Bool.false_ne_true
  | _ => cases y <;> exact absurd (show false = true from hs) Bool.false_ne_true
theorem op_ne : OpR X (compareOp .NotEq) rNe := by
  intro pins s σ H x y v u Q I rx ry h
  obtain ⟨hs, q⟩ := h
  cases x with
  | non =>
    cases rx
    cases y with
    | non => cases ry; exact PySem.EqNone.ne_none_none (fin_bl I q (by simp))
    | bl j => cases ry; exact PySem.EqNone.ne_none_bool (fin_bl I q (by simp))
    | int j => obtain ⟨t', rfl⟩ := ry; exact PySem.EqNone.ne_none_int (fin_bl I q (by simp))
    | str j => obtain ⟨t', rfl⟩ := ry; exact PySem.EqNone.ne_none_str (fin_bl I q (by simp))
    | _ => exact absurd (show false = true from hs) Bool.false_ne_true
  | bl i =>
    cases rx
    cases y with
    | non => cases ry; exact PySem.EqNone.ne_bool_none (fin_bl I q (by simp))
    | bl j => cases ry; exact ne_bool (fin_bl I q (congrArg not dec_bl))
    | str j => obtain ⟨t', rfl⟩ := ry; exact PySem.EqMixed.ne_bool_str (fin_bl I q (by simp))
    | _ => exact absurd (show false = true from hs) Bool.false_ne_true
  | int i =>
    obtain ⟨t, rfl⟩ := rx
    cases y with
    | non => cases ry; exact PySem.EqNone.ne_int_none (fin_bl I q (by simp))
    | int j => obtain ⟨t', rfl⟩ := ry; exact ne_int (fin_bl I q (congrArg not dec_int))
    | str j => obtain ⟨t', rfl⟩ := ry; exact PySem.EqMixed.ne_int_str (fin_bl I q (by simp))
    | _ => exact absurd (show false = true from hs) Bool.false_ne_true
  | str i =>
    obtain ⟨t, rfl⟩ := rx
    cases y with
    | non => cases ry; exact PySem.EqNone.ne_str_none (fin_bl I q (by simp))
    | bl j => cases ry; exact PySem.EqMixed.ne_str_bool (fin_bl I q (by simp))
    | int j => obtain ⟨t', rfl⟩ := ry; exact PySem.EqMixed.ne_str_int (fin_bl I q (by simp))
    | str j => obtain ⟨t', rfl⟩ := ry; exact ne_str (fin_bl I q (congrArg not dec_str))
    | _ => exact absurd (show false = true from hs) Bool.false_ne_true
  | byt i =>
    obtain ⟨t, rfl⟩ := rx
    cases y with
    | byt j => obtain ⟨t', rfl⟩ := ry; exact PySem.W.ne_bytes (fin_bl I q (congrArg not dec_byt))
    | _ => exact absurd (show false = true from hs) Bool.false_ne_true
  | _ => cases y <;> exact absurd (show false = true from hs) Bool.false_ne_true

theorem op_lt : OpR X (compareOp .Lt) (rI0 fun i j => .bl (decide (i < j))) := opB0 fun _ _ _ _ _ _ _ q => lt_int q
theorem op_gt : OpR X (compareOp .Gt) (rI0 fun i j => .bl (decide (j < i))) := opB0 fun _ _ _ _ _ _ _ q => gt_int q
theorem op_ge : OpR X (compareOp .GtE) (rI0 fun i j => .bl (decide (j ≤ i))) := opB0 fun _ _ _ _ _ _ _ q => ge_int q
/-- the one string within the other -/
theorem op_in_str : OpR X (compareOp .In) (fun x y H Q => ∃ i j, x = .str i ∧ y = .str j ∧ Q (.bl (!(Builtin.Str.occurrences j i 0 j.length 1).isEmpty)) H) := by
  intro pins s σ H x y v u Q I rx ry h
  obtain ⟨i, j, rfl, rfl, q⟩ := h
  obtain ⟨t, rfl⟩ := rx
  obtain ⟨t', rfl⟩ := ry
  exact in_str (fin_bl I q rfl)

/-- is None, is not None: the right side a value none -/
theorem op_isN : OpR X (compareOp .Is) (fun x y H Q => y = .non ∧ Q (.bl (decide (x = .non))) H) := by
  intro pins s σ H x y v u Q I rx ry h
  obtain ⟨rfl, q⟩ := h
  cases ry
  refine is_none_gen (fin_bl I q ?_)
  cases x <;> first
    | (cases rx; rfl)
    | (obtain ⟨t, rfl⟩ := rx; rfl)
/-- two rules for one operation: by cases -/
theorem OpR.or {f : Value → Value → Sem Value} {r r' : R2} (h : OpR X f r) (h' : OpR X f r') : OpR X f (fun x y H Q => r x y H Q ∨ r' x y H Q) := by
  intro pins s σ H x y v u Q I rx ry q
  rcases q with q | q
  · exact h pins s σ H x y v u Q I rx ry q
  · exact h' pins s σ H x y v u Q I rx ry q

theorem nomark (b : Expr) {op : CmpOp} (h : op ≠ .In := by decide) (h2 : op ≠ .NotIn := by decide) : behindInMarks op b = false := by
  have e1 : (op == CmpOp.In) = false := by cases op <;> first | rfl | exact absurd rfl h
  have e2 : (op == CmpOp.NotIn) = false := by cases op <;> first | rfl | exact absurd rfl h2
  cases b <;> simp [behindInMarks, e1, e2]
/-- a comparison as a value; hm: nomark b, or (for in, not in) by with_unfolding_all rfl -/
theorem pe_cmpR {op : CmpOp} {r : R2} (ho : OpR X (compareOp op) r) (ha : PE X a ta) (hb : PE X b tb) (hm : behindInMarks op b = false) : PE X (.Compare a [op] [b] pos) (tOp r ta tb) := by
  intro pins s σ H Q I h
  exact wpAny_Compare1 (binT ha hb I h fun v u s2 x y H2 I2 rx ry q => ho pins s2 σ H2 x y v u Q I2 rx ry q) hm
/-- a reading of a value as a test -/
def tTest (t : TE) : TT := fun σ H Q => t σ H fun x H' => ∃ k, x = .bl k ∧ Q k H'
theorem pt_cmpR {op : CmpOp} {r : R2} (ho : OpR X (compareOp op) r) (ha : PE X a ta) (hb : PE X b tb) (hm : behindInMarks op b = false) : PT X (.Compare a [op] [b] pos) (tTest (tOp r ta tb)) := by
  intro pins s σ H Q I h
  refine wpAny_isTrue_Compare1 (thn (ha pins s σ H _ I h) fun v s1 ⟨x, H1, I1, r1, q1⟩ => thn (hb pins s1 σ H1 _ I1 q1) fun u s2 ⟨y, H2, I2, r2, q2⟩ =>
    thn (ho pins s2 σ H2 x y v u _ I2 r1 r2 q2) fun c s3 ⟨z, H3, I3, r3, k, e, q3⟩ => ?_) hm
  subst e
  cases r3
  exact wpAny_truthy_bool ⟨H3, I3, q3⟩
/-- a op1 b op2 c -/
def tChain (r r' : R2) (ta tb tc : TE) : TE := fun σ H Q => ta σ H fun x H1 => tb σ H1 fun y H2 => r x y H2 fun z H3 => ∃ k, z = .bl k ∧
  (if k = true then tc σ H3 fun w' H4 => r' y w' H4 Q else Q (.bl false) H3)
theorem line63 : (sizeLine : Nat) < 2 ^ 63 := by rw [sizeLine_eq]; decide
theorem op_add_str : OpR X (binaryOp .Add) (fun x y H Q => ∃ i j, x = .str i ∧ y = .str j ∧ i.length + j.length ≤ sizeLine ∧ Q (.str (i ++ j)) H) := by
  intro pins s σ H x y v u Q I rx ry h
  obtain ⟨i, j, rfl, rfl, hz, q⟩ := h
  obtain ⟨t, rfl⟩ := rx
  obtain ⟨t', rfl⟩ := ry
  exact add_str (fun t' tk => ⟨.str (i ++ j), H, I.tok _, ⟨_, rfl⟩, q⟩) hz
theorem vals1 {x : V} {us : List Value} (r : Vals [x] us) : ∃ u, us = [u] ∧ RelV x u := by
  cases r with
  | cons r1 r2 => cases r2; exact ⟨_, rfl, r1⟩
theorem vals2 {x y : V} {us : List Value} (r : Vals [x, y] us) : ∃ u w', us = [u, w'] ∧ RelV x u ∧ RelV y w' := by
  cases r with
  | cons r1 r2 =>
    cases r2 with
    | cons r3 r4 => cases r4; exact ⟨_, _, rfl, r1, r3⟩
theorem call_abs : CallR X (.builtin "abs") (fun xs H Q => ∃ i, xs = [.int i] ∧ Q (.int (if i < 0 then -i else i)) H) := by
  intro pins s σ H xs us Q I r h
  obtain ⟨i, rfl, q⟩ := h
  obtain ⟨u, rfl, t, rfl⟩ := vals1 r
  exact call_abs_int fun u tk => ⟨.int (if i < 0 then -i else i), H, I.tok _, ⟨_, rfl⟩, q⟩
end
end L2

namespace L2
open PySem PySem.Spec PyProof.Rows

structure ObjM (h : Heap) (x dx C : Addr) (mA : Str → Option Value) : Prop where
  obj : h.get? x = some (PySem.W.instObj C dx)
  ns : h.Ns1 dx mA
  ne : dx ≠ x

theorem lookIn_ns {h : Heap} {dx : Addr} {mA : Str → Option Value} (n : h.Ns1 dx mA) : ∃ od, h.get? dx = some od ∧ ∀ name, PySem.W.lookIn name od = some (mA name) := by
  obtain ⟨o, es, ep, ho, hd, hk, _, hm⟩ := n
  refine ⟨o, ho, fun name => ?_⟩
  have e := hm name
  unfold nsFind findBy at e
  rw [← Array.find?_toList] at e
  unfold PySem.W.lookIn
  rw [hd]
  dsimp only
  split
  · rename_i y q
    rw [q] at e
    exact congrArg some e
  · rename_i q
    rw [q] at e
    have a : es.toList.any (·.refKey) = false := by
      rw [List.any_eq_false]
      intro y hy
      obtain ⟨z, t, hkey⟩ := hk y (Array.mem_toList_iff.mp hy)
      simp [DictEntry.refKey, hkey]
    have a' : ¬ es.toList.any (·.refKey) = true := by rw [a]; exact Bool.false_ne_true
    rw [if_neg a']
    exact congrArg some e

theorem ObjM.look {h : Heap} {x dx C : Addr} {mA : Str → Option Value} (I : ObjM h x dx C mA) : ∃ od, PySem.W.InstAt h x (PySem.W.instObj C dx) C (some od) ∧ ∀ name, PySem.W.lookIn name od = some (mA name) :=
  let ⟨od, ho, hl⟩ := lookIn_ns I.ns
  ⟨od, ⟨I.obj, rfl, rfl, ho⟩, hl⟩

section
variable {prog : Program} {w : World} {A : Around} {E : Value → Shared → Prop} {s : Shared} {K : PySem.W.Frag} {x dx C f : Addr} {mA : Str → Option Value} {name : Str} {v : Value}

theorem get_map {expr : Bool} {Q : Value → Shared → Prop} (X : K.In s.heap) (I : ObjM s.heap x dx C mA) (hg : PySem.W.plainGet K C name = true) (hh : PySem.W.hasDictIn K C = true)
    (ha : PySem.W.findIn K (.ref C) name = some none) (hv : mA name = some v) (hv' : PySem.W.handedIn v = true) (h : Q v { s with toks := s.toks + 1 }) :
    wpAny (model prog w) A (getAttr (.ref x) name expr) Q E s := by
  obtain ⟨od, J, hl⟩ := I.look
  exact PySem.W.get_value X J (PySem.W.plainGet_of hg).1 (PySem.W.findObj_own hh ha rfl (by rw [hl, hv])) hv' h

theorem get_meth {pl : Sem Bool} {Q : Value × List Value → Shared → Prop} (X : K.In s.heap) (I : ObjM s.heap x dx C mA) (hg : PySem.W.plainGet K C name = true)
    (hf : PySem.W.findIn K (.ref C) name = some (some (.ref f))) (ht : PySem.W.isFn K (.ref f) = true) (hv : mA name = none) (h : Q (.ref f, [.ref x]) s) :
    wpAny (model prog w) A (getMethod (.ref x) name pl) Q E s := by
  obtain ⟨od, J, hl⟩ := I.look
  exact PySem.W.method_fn X J (PySem.W.plainGet_of hg).1 (PySem.W.plainGet_of hg).2 hf (beq_iff_eq.mp ht) (by show (PySem.W.lookIn name od).map (·.isSome) = some false; rw [hl, hv]; rfl) h

theorem set_map {ns : List Str} {Q : Unit → Shared → Prop} (X : K.In s.heap) (I : ObjM s.heap x dx C mA)
    (hs : PySem.W.findIn K (.ref C) "__setattr__" = some (some (.builtin "object.__setattr__"))) (hp : PySem.W.plainOver K C = true) (ht : PySem.W.takerIn K C name = some none) (hh : PySem.W.hasDictIn K C = true)
    (hw : PySem.Within mA ns) (hsz : ns.length ≤ sizeLine)
    (h : ∀ h', ObjM h' x dx C (fun y => if y = name then some v else mA y) → Heap.SameBut dx s.heap h' → Q () { s with heap := h', toks := s.toks + 2 }) :
    wpAny (model prog w) A (setAttr (.ref x) name v) Q E s := by
  obtain ⟨od, J, hl⟩ := I.look
  refine PySem.W.set_plain X J hs (PySem.W.osa_open (s := { s with toks := s.toks + 1 }) (r := none) X J hp ht fun b => ?_)
  obtain ⟨cd, hc, hd'⟩ := PySem.W.any_some hh
  have hx : s.heap.get? x = some ⟨.ref C, some dx, .plain, #[]⟩ := I.obj
  refine wpAny_bind (wpAny_pure (wpAny_bind (wpAny_bind (wpAny_loadPart hx (wpAny_bind (PySem.W.Looks.here (s := { s with toks := s.toks + 1 }) (PySem.W.looks_clsIn X hc) ?_))))))
  rw [hd']
  refine wpAny_pure (a := some dx) (wpAny_bind (wpAny_pure (wpAny_bind ?_)))
  refine wpAny_nsSet1 (s := { s with toks := s.toks + 1 }) I.ns fun h' hn2 hs2 => ?_
  obtain ⟨oD, esD, epD, hoD, hdD, hcD⟩ := hn2.count (PySem.Within.cons name v hw)
  refine wpAny_bind (wpAny_lookBehind hoD (by rw [hdD]; exact pastItsLine_dict (Nat.le_trans hcD (by rw [List.length_cons]; omega))) ?_)
  exact wpAny_pure (h _ ⟨(hs2.2 _ (Ne.symm I.ne)).trans I.obj, hn2, I.ne⟩ hs2)

/-- C(..): the dict at the heap's end, the instance behind it; then its __init__ -/
theorem make_map {R : Result → Shared → Prop} {vs : List Value} {kw : List (Str × Value)} (X : K.In s.heap) (hm : PySem.W.makesIn K C = true)
    (hi : PySem.W.findIn K (.ref C) "__init__" = some (some (.ref f))) (hf : PySem.W.typeIn K (.ref f) = some (.type "function"))
    (h : codeAny (model prog w) (A.under (.builtin "type.__call__" ⟨.ref C :: vs, kw⟩)) (.call (.ref f) ⟨.ref (s.heap.objs.size + 1) :: vs, kw⟩) (PySem.W.InitBack (s.heap.objs.size + 1) R)
      { s with heap := (s.heap.push PySem.W.emptyDict).push (PySem.W.instObj C s.heap.objs.size) }) :
    codeAny (model prog w) A (.call (.ref C) ⟨vs, kw⟩) R s := by
  obtain ⟨hh, g, d, t, os⟩ := s
  exact PySem.W.make_core (PySem.W.makes_of X hm) (PySem.W.looks_findIn X hi) (fun self => PySem.W.bind_fn X self hf) (.inl rfl) h
end

def putF (f : Str) (v : V) : List (Str × V) → List (Str × V)
  | [] => [(f, v)]
  | (g, x) :: r => if g = f then (g, v) :: r else (g, x) :: putF f v r
theorem lookup_putF (f g : Str) (v : V) : ∀ fs : List (Str × V), (putF f v fs).lookup g = if g = f then some v else fs.lookup g
  | [] => by
    show List.lookup g [(f, v)] = _
    by_cases h : g = f
    · have hb : (g == f) = true := beq_iff_eq.mpr h
      simp only [List.lookup, hb, if_pos h]
    · have hb : (g == f) = false := beq_eq_false_iff_ne.mpr h
      simp only [List.lookup, hb, if_neg h]
  | (k, x) :: r => by
    have ih := lookup_putF f g v r
    rw [show putF f v ((k, x) :: r) = (if k = f then (k, v) :: r else (k, x) :: putF f v r) from rfl]
    by_cases hk : k = f
    · rw [if_pos hk]
      by_cases h : g = k
      · have hb : (g == k) = true := beq_iff_eq.mpr h
        simp only [List.lookup, hb, if_pos (h.trans hk)]
      · have hb : (g == k) = false := beq_eq_false_iff_ne.mpr h
        simp only [List.lookup, hb, if_neg (fun e : g = f => h (e.trans hk.symm))]
    · rw [if_neg hk]
      by_cases h : g = k
      · have hb : (g == k) = true := beq_iff_eq.mpr h
        simp only [List.lookup, hb, if_neg (fun e : g = f => hk (h.symm.trans e))]
      · have hb : (g == k) = false := beq_eq_false_iff_ne.mpr h
        simp only [List.lookup, hb]
        exact ih
theorem keys_putF (f : Str) (v : V) : ∀ fs : List (Str × V), f ∈ (putF f v fs).map (·.1) ∧ ∀ g, g ∈ fs.map (·.1) → g ∈ (putF f v fs).map (·.1)
  | [] => ⟨by simp [putF], fun g h => by simp at h⟩
  | (k, x) :: r => by
    obtain ⟨i1, i2⟩ := keys_putF f v r
    rw [show putF f v ((k, x) :: r) = (if k = f then (k, v) :: r else (k, x) :: putF f v r) from rfl]
    by_cases hk : k = f
    · rw [if_pos hk]
      subst hk
      exact ⟨by simp, fun g h => by simpa using h⟩
    · rw [if_neg hk]
      refine ⟨?_, fun g h => ?_⟩
      · rw [List.map_cons]
        exact List.mem_cons_of_mem _ i1
      · rw [List.map_cons] at h ⊢
        rcases List.mem_cons.mp h with e | e
        · exact List.mem_cons.mpr (.inl e)
        · exact List.mem_cons_of_mem _ (i2 g e)
theorem length_putF (f : Str) (v : V) : ∀ fs : List (Str × V), (putF f v fs).length ≤ fs.length + 1
  | [] => by simp [putF]
  | (k, x) :: r => by
    have ih := length_putF f v r
    rw [show putF f v ((k, x) :: r) = (if k = f then (k, v) :: r else (k, x) :: putF f v r) from rfl]
    by_cases hk : k = f
    · rw [if_pos hk, List.length_cons, List.length_cons]; omega
    · rw [if_neg hk, List.length_cons, List.length_cons]; omega

theorem RelO.some_of {v : V} {o : Option Value} (r : RelO (some v) o) : ∃ u, o = some u ∧ RelV v u := by
  cases o with
  | none => exact (show False from r).elim
  | some u => exact ⟨u, rfl, r⟩
theorem RelO.none_of {o : Option Value} (r : RelO none o) : o = none := by
  cases o with
  | none => rfl
  | some u => exact (show False from r).elim
theorem handed_of {v : V} {u : Value} (r : RelV v u) : PySem.W.handedIn u = true := by
  cases v with
  | non => cases (show u = Value.none from r); rfl
  | bl b => cases (show u = Value.bool b from r); rfl
  | int i => obtain ⟨t, e⟩ := (show ∃ t, u = Value.int i t from r); cases e; rfl
  | str x => obtain ⟨t, e⟩ := (show ∃ t, u = Value.str x t from r); cases e; rfl
  | byt b => obtain ⟨t, e⟩ := (show ∃ t, u = Value.bytes b t from r); cases e; rfl
  | flt b => obtain ⟨t, e⟩ := (show ∃ t, u = Value.float b t from r); cases e; rfl
  | ref a => cases (show u = Value.ref a from r); rfl
  | ty n => cases (show u = Value.type n from r); rfl

section
variable {P : Program} {w : World} {H H' : Hp} {h h' : Heap} {a C dx : Addr} {fs fs' : List (Str × V)}
theorem ins_get (hok : HOk P w H h) (e : H a = some (.ins C dx fs)) : ∃ mA, ObjM h a dx C mA ∧ (∀ f, RelO (fs.lookup f) (mA f)) ∧ PySem.Within mA (fs.map (·.1)) ∧ fs.length ≤ 1000 ∧ H dx = some (.own a) := by
  obtain ⟨d, z, ne, ob, mA, n, r, q⟩ := (show ObjOk P w H h a (.ins C dx fs) from hok a _ e)
  exact ⟨mA, ⟨ob, n, ne⟩, r, q, z, d⟩
end

structure Cls (K : PySem.W.Frag) (C : Addr) : Prop where
  pg : PySem.W.plainGet K C Str.empty = true
  hd : PySem.W.hasDictIn K C = true
  po : PySem.W.plainOver K C = true
  sa : PySem.W.findIn K (.ref C) "__setattr__" = some (some (.builtin "object.__setattr__"))
theorem Cls.get {K : PySem.W.Frag} {C : Addr} (c : Cls K C) (f : Str) : PySem.W.plainGet K C f = true := c.pg
/-- no class of it has the name -/
def NoAttr (K : PySem.W.Frag) (C : Addr) (f : Str) : Prop := PySem.W.findIn K (.ref C) f = some none
theorem NoAttr.taker {K : PySem.W.Frag} {C : Addr} {f : Str} (n : NoAttr K C f) : PySem.W.takerIn K C f = some none := by
  unfold PySem.W.takerIn
  rw [show PySem.W.findIn K (.ref C) f = some none from n]
  rfl
/-- a method: a plain def of the class or of one above it -/
structure Meth (K : PySem.W.Frag) (C : Addr) (m : Str) (f : Addr) : Prop where
  at_ : PySem.W.findIn K (.ref C) m = some (some (.ref f))
  fn : PySem.W.isFn K (.ref f) = true
  kp : PySem.W.keepIn K (.ref f) = true

section
variable {X : Cx} {pins : List (Addr × Obj)} {σ : St} {H : Hp} {s : Shared} {a C dx : Addr} {fs : List (Str × V)} {f : Str} {v : V} {A : Around} {E : Value → Shared → Prop}

theorem getattr_ok {b : Bool} {Q : Value → Shared → Prop} (I : Inv X pins σ H s) (e : H a = some (.ins C dx fs)) (c : Cls X.K C) (n : NoAttr X.K C f) (l : fs.lookup f = some v)
    (h : ∀ u s', Inv X pins σ H s' → RelV v u → Q u s') : wpAny (model X.prog X.w) A (getAttr (.ref a) f b) Q E s := by
  obtain ⟨mA, O, r, _, _, _⟩ := ins_get I.hok e
  obtain ⟨u, hu, ru⟩ := RelO.some_of (v := v) (o := mA f) (by rw [← l]; exact r f)
  exact get_map I.kIn O (c.get f) c.hd n hu (handed_of ru) (h u _ (I.tok _) ru)

theorem getmeth_ok {m : Str} {g : Addr} {pl : Sem Bool} {Q : Value × List Value → Shared → Prop} (I : Inv X pins σ H s) (e : H a = some (.ins C dx fs)) (c : Cls X.K C) (k : Meth X.K C m g) (l : fs.lookup m = none)
    (h : Q (.ref g, [.ref a]) s) : wpAny (model X.prog X.w) A (getMethod (.ref a) m pl) Q E s := by
  obtain ⟨mA, O, r, _, _, _⟩ := ins_get I.hok e
  have hn : mA m = none := RelO.none_of (by rw [← l]; exact r m)
  exact get_meth I.kIn O (c.get m) k.at_ k.fn hn h

theorem setattr_ok {y : V} {u : Value} {Q : Unit → Shared → Prop} (I : Inv X pins σ H s) (e : H a = some (.ins C dx fs)) (c : Cls X.K C) (n : NoAttr X.K C f) (hl : fs.length < 1000) (ry : RelV y u)
    (h : ∀ s', Inv X pins σ (upd H a (.ins C dx (putF f y fs))) s' → Q () s') : wpAny (model X.prog X.w) A (setAttr (.ref a) f u) Q E s := by
  obtain ⟨mA, O, r, wi, _, ho⟩ := ins_get I.hok e
  have hz : (fs.map (·.1)).length ≤ sizeLine := by rw [List.length_map, sizeLine_eq]; omega
  refine set_map I.kIn O c.sa c.po n.taker c.hd wi hz fun h' O' sb => h _ ?_
  have hd : ∃ o, h'.get? dx = some o := let ⟨o, _, _, e', _⟩ := O'.ns; ⟨o, e'⟩
  refine I.write (x := a) (e := dx) (by rw [e]; exact True.intro) (.inr ho) (fun b q hb z => (sb.2 b hb).trans z) hd ?_
  refine ⟨by rw [upd_ne O.ne]; exact ho, ?_, O.ne, O'.obj, _, O'.ns, fun g => ?_, fun g hg => ?_⟩
  · have := length_putF f y fs; omega
  · show RelO ((putF f y fs).lookup g) (if g = f then some u else mA g)
    rw [lookup_putF]
    by_cases q : g = f
    · rw [if_pos q, if_pos q]; exact ry
    · rw [if_neg q, if_neg q]; exact r g
  · by_cases q : g = f
    · rw [q]; exact (keys_putF f y fs).1
    · refine (keys_putF f y fs).2 g (wi g fun z => hg ?_)
      show (if g = f then some u else mA g) = none
      rw [if_neg q]; exact z

/-- a new instance, tracked, without attributes -/
theorem Inv.made (I : Inv X pins σ H s) : Inv X pins σ (upd (upd H s.heap.objs.size (.own (s.heap.objs.size + 1))) (s.heap.objs.size + 1) (.ins C s.heap.objs.size []))
    { s with heap := (s.heap.push PySem.W.emptyDict).push (PySem.W.instObj C s.heap.objs.size) } := by
  have e1 : (s.heap.push PySem.W.emptyDict).get? s.heap.objs.size = some PySem.W.emptyDict := Heap.get?_push_size s.heap rfl
  have e2 : ((s.heap.push PySem.W.emptyDict).push (PySem.W.instObj C s.heap.objs.size)).get? (s.heap.objs.size + 1) = some (PySem.W.instObj C s.heap.objs.size) := by
    have := Heap.get?_push_size (s.heap.push PySem.W.emptyDict) (o := PySem.W.instObj C s.heap.objs.size) rfl
    rwa [Heap.size_push] at this
  have e3 : (s.heap.push PySem.W.emptyDict).Ns s.heap.objs.size (fun _ => none) := ⟨PySem.W.emptyDict, #[], _, e1, rfl, (fun e he => absurd he (by simp)), fun _ => rfl⟩
  have I1 := I.laid (a := s.heap.objs.size) (o := .own (s.heap.objs.size + 1)) (h' := s.heap.push PySem.W.emptyDict) (t' := s.toks) (fun b u q => Heap.get?_push_of_some _ q) (Nat.le_refl _) ⟨_, e1⟩
  refine I1.laid (a := s.heap.objs.size + 1) (o := .ins C s.heap.objs.size []) (t' := s.toks) (fun b u q => Heap.get?_push_of_some _ q) (Nat.le_of_eq (Heap.size_push _ _)) ?_
  have ne : s.heap.objs.size ≠ s.heap.objs.size + 1 := Nat.ne_of_lt (Nat.lt_succ_self _)
  refine ⟨by rw [upd_ne ne, upd_same], Nat.zero_le _, ne, e2, fun _ => none, (Heap.Ns1.of_empty e3).at fun o q => Heap.get?_push_of_some _ q, fun _ => True.intro, fun y hy => absurd rfl hy⟩

/-- e.f where nothing but the object is asked: through attributeBase (super) and the last hold -/
theorem attr_of {prog : Program} {w : World} {env : Env} {e : Expr} {f : Str} {pos : Pos} {s : Shared} {Q : Value → Shared → Prop} (hb : attributeBase e f env (eval e env) = eval e env)
    (h : wpAny (model prog w) A (eval e env) (fun o s₁ => wpAny (model prog w) A (getAttr o f true) Q E s₁) E s) : wpAny (model prog w) A (eval (.Attribute e f pos) env) Q E s :=
  Attribute_any_ h (by rw [arm_eval_Attribute, hb])
end

/-- e.f, an attribute of the instance -/
def tFld (K : PySem.W.Frag) (ta : TE) (f : Str) : TE := fun σ H Q => ta σ H fun x H1 => ∃ a C dx fs v, x = .ref a ∧ H1 a = some (.ins C dx fs) ∧ Cls K C ∧ NoAttr K C f ∧ fs.lookup f = some v ∧ Q v H1
/-- e.f = value -/
def sFld (K : PySem.W.Frag) (ta tv : TE) (f : Str) : TS := fun D σ H => tv σ H fun y H1 => ta σ H1 fun x H2 => ∃ a C dx fs, x = .ref a ∧ H2 a = some (.ins C dx fs) ∧ Cls K C ∧ NoAttr K C f ∧ fs.length < 1000 ∧
  D.nx σ (upd H2 a (.ins C dx (putF f y fs)))
section
variable {X : Cx} {o e value : Expr} {f : Str} {pos pos' tpos : Pos} {ta tv : TE}
theorem pe_fld (he : PE X e ta) (hb : attributeBase e f X.env (eval e X.env) = eval e X.env) : PE X (.Attribute e f pos) (tFld X.K ta f) := by
  intro pins s σ H Q I h
  refine attr_of hb (thn (he pins s σ H _ I h) fun u s1 ⟨x, H1, I1, rx, a, C, dx, fs, v, ex, ea, c, n, l, q⟩ => ?_)
  subst ex
  obtain rfl : u = Value.ref a := rx
  exact getattr_ok I1 ea c n l fun u' s2 I2 ru => ⟨v, H1, I2, ru, q⟩
theorem ps_fld (ha : PE X o ta) (hv : PE X value tv) (hs : swapsWith value (some (.Attribute o f pos')) pos.line X.env = pure false) : PS X (.Assign [.Attribute o f pos'] value pos) (sFld X.K ta tv f) := by
  intro pins s σ H D I h
  refine plainObj_wpAny_Assign_Attribute (thn (hv pins s σ H _ I h) fun u s1 ⟨y, H1, I1, ry, q⟩ => thn (ha pins s1 σ H1 _ I1 q) fun ov s2 ⟨x, H2, I2, rx, a, C, dx, fs, ex, ea, c, n, l, q2⟩ => ?_) hs
  subst ex
  obtain rfl : ov = Value.ref a := rx
  exact setattr_ok I2 ea c n l ry fun s3 I3 => ⟨σ, _, I3, q2⟩
end

section
variable {X : Cx} {pins : List (Addr × Obj)} {σ : St} {H : Hp} {s : Shared} {A : Around} {E : Value → Shared → Prop} {Q : Value → Shared → Prop} {c : Value} {b : Bool}
/-- the type of a value, as the fragment's deciders take it; for an instance its class -/
inductive TyOf (K : PySem.W.Frag) (H : Hp) : V → Value → Prop where
  | non : TyOf K H .non (.type "NoneType")
  | bl (x : Bool) : TyOf K H (.bl x) (.type "bool")
  | int (i : Int) : TyOf K H (.int i) (.type "int")
  | str (x : Str) : TyOf K H (.str x) (.type "str")
  | flt (x : UInt64) : TyOf K H (.flt x) (.type "float")
  | lst {a : Addr} {xs : List V} (e : H a = some (.lst xs)) : TyOf K H (.ref a) (.type "list")
  | frz {a : Addr} {o : Obj} {xs : List V} (e : H a = some (.frz o (.lst xs))) : TyOf K H (.ref a) (.type "list")
  | tup {a : Addr} {xs : List V} (e : H a = some (.tup xs)) : TyOf K H (.ref a) (.type "tuple")
  | dK {a : Addr} {kvs : List (Key × V)} (e : H a = some (.dK kvs)) : TyOf K H (.ref a) (.type "dict")
  | dT {a : Addr} {kvs : List (List Key × V)} (e : H a = some (.dT kvs)) : TyOf K H (.ref a) (.type "dict")
  | ins {a C dx : Addr} {fs : List (Str × V)} (e : H a = some (.ins C dx fs)) (cl : Cls K C) (ha : PySem.W.findIn K (.ref C) "__class__" = some (some (.builtin "object.__class__")))
      (hn : PySem.W.specialIn K (.builtin "object.__class__") "__get__" = some (some (.builtin "getset_descriptor.__get__"))) (htk : PySem.W.takesIn K (.builtin "object.__class__") = some true)
      (hm : PySem.W.mroIn K C (.type "object") = some true) : TyOf K H (.ref a) (.ref C)
/-- isinstance(x, c) for one class c, a built-in or an own one: kitOne's answer -/
theorem isinst_ok {x : V} {u t : Value} (I : Inv X pins σ H s) (rx : RelV x u) (ty : TyOf X.K H x t) (e : PySem.W.kitOne X.K t c = some b) (h : ∀ tk, Q (.bool b) { s with toks := tk }) :
    wpAny (model X.prog X.w) A (call (.builtin "isinstance") [u, c]) Q E s := by
  cases ty with
  | non => cases (show u = Value.none from rx); exact PySem.W.kia_one PySem.W.kitx_none I.kIn True.intro e (fun z => nomatch z) h
  | bl y => cases (show u = Value.bool y from rx); exact PySem.W.kia_one PySem.W.kitx_bool I.kIn True.intro e (fun z => nomatch z) h
  | int i => obtain ⟨t, q⟩ := (show ∃ t, u = Value.int i t from rx); cases q; exact PySem.W.kia_one PySem.W.kitx_int I.kIn True.intro e (fun z => nomatch z) h
  | str y => obtain ⟨t, q⟩ := (show ∃ t, u = Value.str y t from rx); cases q; exact PySem.W.kia_one PySem.W.kitx_str I.kIn True.intro e (fun z => nomatch z) h
  | flt y => obtain ⟨t, q⟩ := (show ∃ t, u = Value.float y t from rx); cases q; exact PySem.W.kia_one PySem.W.kitx_float I.kIn True.intro e (fun z => nomatch z) h
  | @lst a xs ea =>
    cases (show u = Value.ref a from rx)
    obtain ⟨_, _, n, _, h1⟩ := (show ObjOk X.prog X.w H s.heap a (.lst xs) from I.hok a _ ea)
    exact PySem.W.kia_one PySem.W.kitx_list I.kIn ⟨_, h1, rfl⟩ e (fun z => nomatch z) h
  | @frz a ob xs ea =>
    cases (show u = Value.ref a from rx)
    obtain ⟨_, _, _, n, _, h1⟩ := (show ObjOk X.prog X.w H s.heap a (.frz ob (.lst xs)) from I.hok a _ ea)
    exact PySem.W.kia_one PySem.W.kitx_list I.kIn ⟨_, h1, rfl⟩ e (fun z => nomatch z) h
  | @tup a xs ea =>
    cases (show u = Value.ref a from rx)
    obtain ⟨_, _, _, p⟩ := (show ObjOk X.prog X.w H s.heap a (.tup xs) from I.hok a _ ea)
    obtain ⟨o, h1, h2, _⟩ := p
    exact PySem.W.kia_one PySem.W.kitx_tuple I.kIn ⟨o, h1, h2⟩ e (fun z => nomatch z) h
  | @dK a kvs ea =>
    cases (show u = Value.ref a from rx)
    obtain ⟨_, _, vs, _, p⟩ := (show ObjOk X.prog X.w H s.heap a (.dK kvs) from I.hok a _ ea)
    obtain ⟨o, es, ep, h1, h2, _⟩ := p
    exact PySem.W.kia_one PySem.W.kitx_dict I.kIn ⟨o, h1, h2.1⟩ e (fun z => nomatch z) h
  | @dT a kvs ea =>
    cases (show u = Value.ref a from rx)
    obtain ⟨_, _, xs, _, o, es, ep, h1, h2, _⟩ := (show ObjOk X.prog X.w H s.heap a (.dT kvs) from I.hok a _ ea)
    exact PySem.W.kia_one PySem.W.kitx_dict I.kIn ⟨o, h1, h2.1⟩ e (fun z => nomatch z) h
  | @ins a C dx fs ea cl ha hn htk hm =>
    cases (show u = Value.ref a from rx)
    obtain ⟨mA, O, _⟩ := ins_get I.hok ea
    obtain ⟨od, J, _⟩ := O.look
    exact PySem.W.kia_one (PySem.W.kitx_own (cl.get _) cl.hd ha hn htk hm) I.kIn J e (fun z => nomatch z) h
end
end L2

namespace L2
open PySem PySem.Spec PyProof.Rows

structure Room (k : Nat) (A : Around) : Prop where
  hd : A.handled = none
  dp : A.depth + 3 * k + 5 < recursionLimit
  un : A.units + 16 * k + 200 < cLine
theorem Room.mono {j k : Nat} {A : Around} (r : Room k A) (h : j ≤ k) : Room j A := ⟨r.hd, by have := r.dp; omega, by have := r.un; omega⟩
theorem Room.deeper {k : Nat} {A : Around} (r : Room (k + 1) A) (env : Env) : Room k (A.deeper env) :=
  ⟨r.hd, by have := r.dp; show A.depth + 1 + 3 * k + 5 < _; omega, by have := r.un; show A.units + 3 + 16 * k + 200 < _; omega⟩
theorem Room.in1 {k : Nat} {A : Around} (r : Room (k + 1) A) : Room k A.in1 :=
  ⟨r.hd, by have := r.dp; show A.depth + 3 * k + 5 < _; omega, by have := r.un; show A.units + 1 + 16 * k + 200 < _; omega⟩
theorem make_depth {A : Around} {C : Addr} {us : List Value} {kw : List (Str × Value)} : (A.under (.builtin "type.__call__" ⟨.ref C :: us, kw⟩)).depth = A.depth + 1 := by
  first | rfl | simp [Around.under, Code.weight, Code.isCreation, Code.isGuard, Code.isCaller, Code.frames, Code.isFrame, guardIds]
theorem make_units {A : Around} {C : Addr} {us : List Value} {kw : List (Str × Value)} : (A.under (.builtin "type.__call__" ⟨.ref C :: us, kw⟩)).units = A.units + 1 := by
  first | rfl | simp [Around.under, Code.cUnits, Code.frames, Code.isFrame]
theorem Room.make {k : Nat} {A : Around} (r : Room (k + 1) A) (C : Addr) (us : List Value) (kw : List (Str × Value)) : Room k (A.under (.builtin "type.__call__" ⟨.ref C :: us, kw⟩)) :=
  ⟨r.hd, by have := r.dp; rw [make_depth]; omega, by have := r.un; rw [make_units]; omega⟩
theorem Room.depth {k : Nat} {A : Around} (r : Room k A) : A.depth < recursionLimit := by have := r.dp; omega
theorem Room.units {k : Nat} {A : Around} (r : Room k A) : A.units + 64 < cLine := by have := r.un; omega
def tNil : TA := fun _ H Q => Q [] H
def tCons (ta : TE) (tr : TA) : TA := fun σ H Q => ta σ H fun x H1 => tr σ H1 fun xs H2 => Q (x :: xs) H2
section
variable {X : Cx} {e : Expr} {es : List Expr} {te : TE} {t : TA} {pos : Pos}
theorem pa_nil : PA X [] tNil := fun _ _ _ _ H Q I h => Calls.spliced_nil ⟨[], H, I, .nil, h⟩
theorem pa_cons (ha : PE X e te) (hr : PA X es t) (hs : starEach (e :: es) X.env = (false, eval e X.env) :: starEach es X.env := by rfl) : PA X (e :: es) (tCons te t) := by
  intro pos pins s σ H Q I h
  rw [hs]
  show wpAny _ _ (spliced ((false, eval e X.env) :: backTo pos (starEach es X.env))) _ _ s
  refine Calls.spliced_cons (thn (ha pins s σ H _ I h) fun u s1 ⟨x, H1, I1, r1, q1⟩ => ?_)
  exact thn (hr pos pins s1 σ H1 _ I1 q1) fun us s2 ⟨xs, H2, I2, r2, q2⟩ => ⟨x :: xs, H2, I2, .cons r1 r2, q2⟩

/-- a tuple, a list of written items -/
def tTup (t : TA) : TE := fun σ H Q => t σ H fun xs H1 => xs.length ≤ sizeLine ∧ ∀ p, H1 p = none → Q (.ref p) (upd H1 p (.tup xs))
def tLst (t : TA) : TE := fun σ H Q => t σ H fun xs H1 => xs.length ≤ sizeLine ∧ ∀ p, H1 p = none → Q (.ref p) (upd H1 p (.lst xs))
theorem pe_tup {x1} (h : PA X es t) : PE X (.Tuple es x1 pos) (tTup t) := by
  intro pins s σ H Q I hq
  refine wpAny_Tuple_spliced (thn (h pos pins s σ H _ I hq) fun us s1 ⟨xs, H1, I1, r, z, q⟩ => ⟨by rw [← r.length]; exact z, ?_⟩)
  have hf : H1 s1.heap.objs.size = none := I1.hok.fresh (Nat.le_refl _)
  refine ⟨.ref s1.heap.objs.size, upd H1 s1.heap.objs.size (.tup xs), I1.laid (t' := s1.toks) (fun b u e => Heap.get?_push_of_some _ e) (Nat.le_refl _) ?_, rfl, q _ hf⟩
  exact ⟨z, us, r, ⟨_, Heap.get?_push_size _ rfl, rfl, _, rfl⟩⟩
theorem pe_lst (h : PA X es t) : PE X (.List es pos) (tLst t) := by
  intro pins s σ H Q I hq
  refine wpAny_List_spliced (thn (h pos pins s σ H _ I hq) fun us s1 ⟨xs, H1, I1, r, z, q⟩ => ⟨by rw [← r.length]; exact z, ?_⟩)
  have hf : H1 s1.heap.objs.size = none := I1.hok.fresh (Nat.le_refl _)
  refine ⟨.ref s1.heap.objs.size, upd H1 s1.heap.objs.size (.lst xs), I1.laid (t' := s1.toks) (fun b u e => Heap.get?_push_of_some _ e) (Nat.le_refl _) ?_, rfl, q _ hf⟩
  exact ⟨z, us, 0, r, Heap.get?_push_size _ rfl⟩
end

/-- a def's promise: the bound arguments in the parameters' order, the heap, the wanted end, the wanted exception -/
abbrev Sp := List V → Hp → VK → XK → Prop
/-- how an exception lies behind a call (file 08 gives it): the callers' frames, abstract heap and state ahead of the call, the wish, the exception, the state -/
abbrev CXT := List Env → Hp → Shared → XK → Value → Shared → Prop

/-- the state at a call -/
structure Env0 (P : Program) (w : World) (K : PySem.W.Frag) (mg : Str → Option Value) (base : Heap) (A : Around) (outer : List Env) (s : Shared) (H : Hp) : Prop where
  frames : A.frames = some outer
  mod : Mod K mg base
  bs : ∀ b o, base.get? b = some o → s.heap.get? b = some o ∧ H b = none
  bsz : base.objs.size ≤ s.heap.objs.size
  funs : s.heap.FunFrames base outer
  frf : ∀ b ∈ frs outer, H b = none
  hok : HOk P w H s.heap
  bare : AllBare s.gens
/-- a call's end -/
def CE (outer : List Env) (P : Program) (w : World) (H : Hp) (s : Shared) (Q : VK) (u : Value) (s' : Shared) : Prop :=
  ∃ v H', s'.os = s.os ∧ AllBare s'.gens ∧ Un (frs outer) [] H H' s.heap s'.heap ∧ HOk P w H' s'.heap ∧ RelV v u ∧ Q v H'
def CR (CX : CXT) (outer : List Env) (P : Program) (w : World) (H : Hp) (s : Shared) (Q : VK) (E : XK) (r : Result) (s' : Shared) : Prop :=
  match r with
  | .ok (.ret u) => CE outer P w H s Q u s'
  | .ok _ => False
  | .error e => CX outer H s E e s'
structure FnOk (P : Program) (w : World) (K : PySem.W.Frag) (mg : Str → Option Value) (base : Heap) (CX : CXT) (k : Nat) (f : Addr) (fd : FuncData) (ps : List Str) (sp : Sp) : Prop where
  len : ∀ vs H Q E, sp vs H Q E → vs.length = ps.length
  run : ∀ (A : Around) (outer : List Env) (s : Shared) (H : Hp) (args : Args) (us : List Value) (vs : List V) (Q : VK) (E : XK), Room k A → Env0 P w K mg base A outer s H → BindsTo s fd args (ps.zip us) → Vals vs us → sp vs H Q E →
    codeAny (model P w) A (.call (.ref f) args) (CR CX outer P w H s Q E) s
theorem FnOk.mono {P : Program} {w : World} {K : PySem.W.Frag} {mg : Str → Option Value} {base : Heap} {CX : CXT} {j k : Nat} {f : Addr} {fd : FuncData} {ps : List Str} {sp : Sp} (F : FnOk P w K mg base CX j f fd ps sp) (h : j ≤ k) :
    FnOk P w K mg base CX k f fd ps sp := ⟨F.len, fun A outer s H args us vs Q E hr => F.run A outer s H args us vs Q E (hr.mono h)⟩
theorem Env0.make {P : Program} {w : World} {K : PySem.W.Frag} {mg : Str → Option Value} {base : Heap} {A : Around} {outer : List Env} {s : Shared} {H : Hp} (e : Env0 P w K mg base A outer s H) (C : Addr) (us : List Value) (kw : List (Str × Value)) :
    Env0 P w K mg base (A.under (.builtin "type.__call__" ⟨.ref C :: us, kw⟩)) outer s H := ⟨by first | exact e.frames | (simpa [Around.under, Code.envs, Code.isFrame, pushEnvs] using e.frames), e.mod, e.bs, e.bsz, e.funs, e.frf, e.hok, e.bare⟩
theorem Env0.in1 {P : Program} {w : World} {K : PySem.W.Frag} {mg : Str → Option Value} {base : Heap} {A : Around} {outer : List Env} {s : Shared} {H : Hp} (e : Env0 P w K mg base A outer s H) :
    Env0 P w K mg base A.in1 outer s H := ⟨e.frames, e.mod, e.bs, e.bsz, e.funs, e.frf, e.hok, e.bare⟩

section
variable {X : Cx} {pins : List (Addr × Obj)} {σ : St} {H : Hp} {s s' : Shared}
/-- from a body: what a callee wants -/
theorem Inv.env0 (I : Inv X pins σ H s) : Env0 X.prog X.w X.K X.mg X.base X.A X.stack s H :=
  ⟨I.ok.frames, I.ok.mod, I.bs, Nat.le_trans I.ok.bsz I.sz, I.stack, I.stkFree, I.hok, I.bare⟩
/-- behind a call -/
theorem Inv.after {Q : VK} {u : Value} (I : Inv X pins σ H s) (h : CE X.stack X.prog X.w H s Q u s') : EP X pins σ Q u s' := by
  obtain ⟨v, H', os, bare, un, hok, r, q⟩ := h
  obtain ⟨hh, g, d, t, os'⟩ := s'
  obtain rfl : os' = s.os := os
  exact ⟨v, H', I.call (h' := hh) (g' := g) (d' := d) (t' := t) (ch := []) un hok bare (fun b z => absurd z (by simp)), r, q⟩
end

/-- f(..): the written arguments, then the defaults dvs; E: what is wanted of an exception -/
def tCall (sp : Sp) (dvs : List V) (E : XK) (t : TA) : TE := fun σ H Q => t σ H fun vs H1 => sp (vs ++ dvs) H1 Q E
/-- C(..): a new instance and its dict, then __init__ -/
def tMake (C : Addr) (sp : Sp) (dvs : List V) (E : XK) (t : TA) : TE := fun σ H Q => t σ H fun vs H1 => ∀ x dx, H1 x = none → H1 dx = none → dx ≠ x →
  sp (.ref x :: (vs ++ dvs)) (upd (upd H1 dx (.own x)) x (.ins C dx [])) (fun v H2 => v = .non ∧ Q (.ref x) H2) E

/-- how the parameters are bound: us the positional arguments, kw the keywords' values by name, ds the defaults that fill up -/
def Binds (K : PySem.W.Frag) (fd : FuncData) (ps : List Str) (ds : List Value) : Prop :=
  ∀ (s : Shared) (us : List Value), K.In s.heap → (us ++ ds).length = ps.length → BindsTo s fd ⟨us, []⟩ (ps.zip (us ++ ds))
/-- every parameter is given -/
theorem Binds.all {K : PySem.W.Frag} {fd : FuncData} {ps : List Str} (h : ∀ us : List Value, us.length = ps.length → bindArgs fd ⟨us, []⟩ = pure (ps.zip us)) : Binds K fd ps [] := fun s us _ hl => by
  rw [List.append_nil] at hl ⊢
  exact .of_eq (h us hl)

/-- an exception of a callee reaches what this body wants of exceptions -/
def Passes (CX : CXT) (X : Cx) (E : XK) : Prop := ∀ (pins : List (Addr × Obj)) (σ : St) (H : Hp) (s : Shared) (e : Value) (s' : Shared), Inv X pins σ H s → CX X.stack H s E e s' → X.xe e s'

section
variable {X : Cx} {CX : CXT} {k : Nat} {f C : Addr} {fd : FuncData} {ps : List Str} {sp : Sp} {dvs : List V} {ds : List Value} {E : XK} {x m : Str} {p pos apos : Pos} {e o : Expr} {es : List Expr} {ta : TE} {t : TA}

/-- the callee runs -/
theorem run_fn {pins : List (Addr × Obj)} {σ : St} {H : Hp} {s : Shared} {Q : VK} {us : List Value} {vs : List V} (F : FnOk X.prog X.w X.K X.mg X.base CX k f fd ps sp) (hr : Room k X.A) (hb : Binds X.K fd ps ds) (hd : Vals dvs ds) (hx : Passes CX X E)
    (I : Inv X pins σ H s) (r : Vals vs us) (h : sp (vs ++ dvs) H Q E) : wpAny (model X.prog X.w) X.A (call (.ref f) us) (EP X pins σ Q) X.xe s := by
  have r2 : Vals (vs ++ dvs) (us ++ ds) := r.append hd
  have hl : (us ++ ds).length = ps.length := by rw [← r2.length]; exact F.len _ _ _ _ h
  refine wpAny_call (codeAny_mono (F.run X.A X.stack s H ⟨us, []⟩ (us ++ ds) (vs ++ dvs) Q E hr I.env0 (hb s us I.kIn hl) r2 h) fun r s' hq => ?_)
  cases r with
  | error e => exact hx pins σ H s e s' I hq
  | ok fl =>
    cases fl with
    | ret u => exact I.after hq
    | next => exact False.elim hq
    | brk => exact False.elim hq
    | cont => exact False.elim hq

theorem pe_call (F : FnOk X.prog X.w X.K X.mg X.base CX k f fd ps sp) (hr : Room k X.A) (hg : Gl X x) (hm : X.mg x = some (.ref f)) (hk : PySem.W.keepIn X.K (.ref f) = true) (hb : Binds X.K fd ps ds) (hd : Vals dvs ds) (hx : Passes CX X E)
    (ha : PA X (e :: es) t) (hdb : (x == ("__debug__" : Str)) = false := by decide) (he : starEach (e :: es) X.env = (false, eval e X.env) :: starEach es X.env := by rfl) (hpl : (backTo pos (starEach es X.env)).any (·.1) = false := by rfl) :
    PE X (.Call (.Name x p) (e :: es) [] pos) (tCall sp dvs E t) := by
  intro pins s σ H Q I h
  refine wpAny_Call_Name_kw (ld_glob I hg hm ?_ hdb)
  refine PySem.W.callWith_K (h₀ := X.base) I.ok.mod.kin hk (thn (ha pos pins s σ H _ I h) fun us s1 ⟨vs, H1, I1, r, q⟩ => ⟨I1.kIn, ?_⟩) he hpl
  exact run_fn F hr hb hd hx I1 r q
theorem pe_call0 (F : FnOk X.prog X.w X.K X.mg X.base CX k f fd ps sp) (hr : Room k X.A) (hg : Gl X x) (hm : X.mg x = some (.ref f)) (hk : PySem.W.keepIn X.K (.ref f) = true) (hb : Binds X.K fd ps ds) (hd : Vals dvs ds) (hx : Passes CX X E)
    (hdb : (x == ("__debug__" : Str)) = false := by decide) : PE X (.Call (.Name x p) [] [] pos) (tCall sp dvs E tNil) := by
  intro pins s σ H Q I h
  refine wpAny_Call_Name_kw (ld_glob I hg hm ?_ hdb)
  exact PySem.W.callWith_K0 I.kIn hk (run_fn (us := []) F hr hb hd hx I .nil h)

/-- what a class must have to be made -/
structure Mk (K : PySem.W.Frag) (C f : Addr) : Prop where
  makes : PySem.W.makesIn K C = true
  init : PySem.W.findIn K (.ref C) "__init__" = some (some (.ref f))
  fn : PySem.W.isFn K (.ref f) = true
  kp : PySem.W.keepIn K (.ref C) = true

theorem run_make {pins : List (Addr × Obj)} {σ : St} {H : Hp} {s : Shared} {Q : VK} {us : List Value} {vs : List V} (M : Mk X.K C f) (F : FnOk X.prog X.w X.K X.mg X.base CX k f fd ps sp) (hr : Room (k + 1) X.A) (hb : Binds X.K fd ps ds) (hd : Vals dvs ds)
    (hx : Passes CX X E) (I : Inv X pins σ H s) (r : Vals vs us)
    (h : ∀ x dx, H x = none → H dx = none → dx ≠ x → sp (.ref x :: (vs ++ dvs)) (upd (upd H dx (.own x)) x (.ins C dx [])) (fun v H2 => v = .non ∧ Q (.ref x) H2) E) :
    wpAny (model X.prog X.w) X.A (call (.ref C) us) (EP X pins σ Q) X.xe s := by
  have hq := h (s.heap.objs.size + 1) s.heap.objs.size (I.hok.fresh (Nat.le_succ _)) (I.hok.fresh (Nat.le_refl _)) (Nat.ne_of_lt (Nat.lt_succ_self _))
  have I2 := Inv.made (C := C) I
  have r2 : Vals (V.ref (s.heap.objs.size + 1) :: (vs ++ dvs)) (Value.ref (s.heap.objs.size + 1) :: (us ++ ds)) := .cons rfl (r.append hd)
  have hl : (Value.ref (s.heap.objs.size + 1) :: us ++ ds).length = ps.length := by
    have e := r2.length
    rw [F.len _ _ _ _ hq] at e
    exact e.symm
  refine wpAny_call (make_map (f := f) I.kIn M.makes M.init (beq_iff_eq.mp M.fn) (codeAny_mono (F.run _ X.stack _ _ ⟨Value.ref (s.heap.objs.size + 1) :: us, []⟩ (Value.ref (s.heap.objs.size + 1) :: (us ++ ds)) _ _ E (hr.make C us [])
    (I2.env0.make C us []) (hb _ (Value.ref (s.heap.objs.size + 1) :: us) I2.kIn hl) r2 hq) fun r s' hq' => ?_))
  cases r with
  | error e => exact hx pins σ _ _ e s' I2 hq'
  | ok fl =>
    cases fl with
    | ret u =>
      obtain ⟨v, H', I3, rv, ev, q3⟩ := I2.after hq'
      subst ev
      exact ⟨rv, ⟨V.ref (s.heap.objs.size + 1), H', I3, rfl, q3⟩⟩
    | next => exact False.elim hq'
    | brk => exact False.elim hq'
    | cont => exact False.elim hq'
theorem pe_make (M : Mk X.K C f) (F : FnOk X.prog X.w X.K X.mg X.base CX k f fd ps sp) (hr : Room (k + 1) X.A) (hg : Gl X x) (hm : X.mg x = some (.ref C)) (hb : Binds X.K fd ps ds) (hd : Vals dvs ds) (hx : Passes CX X E)
    (ha : PA X (e :: es) t) (hdb : (x == ("__debug__" : Str)) = false := by decide) (he : starEach (e :: es) X.env = (false, eval e X.env) :: starEach es X.env := by rfl) (hpl : (backTo pos (starEach es X.env)).any (·.1) = false := by rfl) :
    PE X (.Call (.Name x p) (e :: es) [] pos) (tMake C sp dvs E t) := by
  intro pins s σ H Q I h
  refine wpAny_Call_Name_kw (ld_glob I hg hm ?_ hdb)
  refine PySem.W.callWith_K (h₀ := X.base) I.ok.mod.kin M.kp (thn (ha pos pins s σ H _ I h) fun us s1 ⟨vs, H1, I1, r, q⟩ => ⟨I1.kIn, ?_⟩) he hpl
  exact run_make M F hr hb hd hx I1 r q
end

section
variable {X : Cx} {CX : CXT} {k : Nat} {f C : Addr} {fd : FuncData} {ps ks : List Str} {sp : Sp} {E : XK} {x m : Str} {p pos apos kpos : Pos} {e o : Expr} {es : List Expr} {kws : List Keyword} {te ta : TE} {t tk : TA} {nm : Option Str}
variable {g : List Value → List Value → List Value} {gV : List V → List V → List V}
end

/-- names: the parameters first -/
structure FnScope (N P : List Str) (sc : Scope) : Prop where
  kind : sc.kind = .function
  co : sc.isCoroutine = false
  gen : sc.isGenerator = false
  nd : N.Nodup
  pre : N.take P.length = P
  par : ∀ x ∈ P, sc.names.lookup x = some .local ∨ sc.names.lookup x = some .cell
  nofree : ∀ y ∈ sc.names, y.2 ≠ .free

theorem bindL_out {kindOf : Str → Option NameKind} {x : Str} : ∀ {binds : List (Str × Value)} {m : Str → Option Value}, (∀ v, (x, v) ∉ binds) → bindL kindOf binds m x = m x
  | [], _, _ => rfl
  | (n, v) :: r, m, h => by
    unfold bindL
    rw [bindL_out fun w hw => h w (List.mem_cons_of_mem _ hw)]
    split
    · have : x ≠ n := by rintro rfl; exact h v List.mem_cons_self
      simp [this]
    · rfl
theorem bindC_out {kindOf : Str → Option NameKind} {x : Str} : ∀ {binds : List (Str × Value)} {m : Str → Option Value}, (∀ v, (x, v) ∉ binds) → bindC kindOf binds m x = m x
  | [], _, _ => rfl
  | (n, v) :: r, m, h => by
    unfold bindC
    rw [bindC_out fun w hw => h w (List.mem_cons_of_mem _ hw)]
    split
    · rfl
    · have : x ≠ n := by rintro rfl; exact h v List.mem_cons_self
      simp [this]
theorem bindL_get {kindOf : Str → Option NameKind} {x : Str} {v : Value} : ∀ {P : List Str} {vs : List Value} {i : Nat} {m : Str → Option Value}, P.Nodup → P[i]? = some x → vs[i]? = some v → kindOf x = some .local →
    bindL kindOf (P.zip vs) m x = some v
  | [], _, _, _, _, h, _, _ => by simp at h
  | _ :: _, [], _, _, _, _, h, _ => by simp at h
  | p :: P, w :: vs, 0, m, nd, h1, h2, hk => by
    simp at h1 h2; subst h1; subst h2
    show bindL kindOf ((p, w) :: P.zip vs) m p = _
    unfold bindL
    rw [bindL_out fun v hv => (List.nodup_cons.mp nd).1 (List.of_mem_zip hv).1, if_pos hk]
    simp
  | p :: P, w :: vs, i + 1, m, nd, h1, h2, hk => by
    show bindL kindOf ((p, w) :: P.zip vs) m x = _
    unfold bindL
    exact bindL_get (i := i) (List.nodup_cons.mp nd).2 (by simpa using h1) (by simpa using h2) hk
theorem bindC_get {kindOf : Str → Option NameKind} {x : Str} {v : Value} : ∀ {P : List Str} {vs : List Value} {i : Nat} {m : Str → Option Value}, P.Nodup → P[i]? = some x → vs[i]? = some v → kindOf x ≠ some .local →
    bindC kindOf (P.zip vs) m x = some v
  | [], _, _, _, _, h, _, _ => by simp at h
  | _ :: _, [], _, _, _, _, h, _ => by simp at h
  | p :: P, w :: vs, 0, m, nd, h1, h2, hk => by
    simp at h1 h2; subst h1; subst h2
    show bindC kindOf ((p, w) :: P.zip vs) m p = _
    unfold bindC
    rw [bindC_out fun v hv => (List.nodup_cons.mp nd).1 (List.of_mem_zip hv).1, if_neg hk]
    simp
  | p :: P, w :: vs, i + 1, m, nd, h1, h2, hk => by
    show bindC kindOf ((p, w) :: P.zip vs) m x = _
    unfold bindC
    exact bindC_get (i := i) (List.nodup_cons.mp nd).2 (by simpa using h1) (by simpa using h2) hk

/-- the names' values at the entry -/
def start (N : List Str) (vs : List V) : St := vs.map some ++ List.replicate (N.length - vs.length) none

/-- the context of a def's body, at its entry; an exception leaves the frame, then lies as CX says -/
def cxOf (CX : CXT) (P : Program) (w : World) (K : PySem.W.Frag) (mg : Str → Option Value) (base : Heap) (N : List Str) (qual : Str) (scope : Scope) (f : Addr) (cd : Value) (A : Around) (outer : List Env) (s : Shared) (H : Hp) (E : XK) : Cx where
  prog := P
  w := w
  K := K
  mg := mg
  base := base
  A := A.deeper (envOfC qual scope s.heap.objs.size f cd)
  N := N
  s₀ := s
  H₀ := H
  env := envOfC qual scope s.heap.objs.size f cd
  outer := outer
  stack := envOfC qual scope s.heap.objs.size f cd :: outer
  ex := []
  calm := true
  fn := fun _ => true
  pn := []
  xe := fun e s' => wpAny (model P w) (A.deeper (envOfC qual scope s.heap.objs.size f cd)) (leaving (envOfC qual scope s.heap.objs.size f cd) e) (fun _ s'' => CX outer H s E e s'') (fun e' s'' => CX outer H s E e' s'') s'

theorem cell_has {sc : Scope} {n : Nat} {x : Str} (h : sc.names.lookup x = some .cell) : ∃ c, (cellsFrom n sc.names []).lookup x = some c := by
  have q := PySem.W.cellsFrom_some sc.names n [] (.inl h)
  exact Option.isSome_iff_exists.mp q

theorem inv_start {CX : CXT} {P : Program} {w : World} {K : PySem.W.Frag} {mg : Str → Option Value} {base : Heap} {N ps : List Str} {qual : Str} {scope : Scope} {f : Addr} {cd : Value} {A : Around} {outer : List Env} {s s1 : Shared} {H : Hp} {E : XK} {us : List Value} {vs : List V}
    (S : FnScope N ps scope) (hd : A.handled = none) (e0 : Env0 P w K mg base A outer s H) (hl : vs.length = ps.length) (r : Vals vs us)
    (x : InCallC s s.heap.objs.size (bindL (envOfC qual scope s.heap.objs.size f cd).kindOf (ps.zip us) fun _ => none) (cellsFrom (s.heap.objs.size + 1) scope.names []) (bindC (envOfC qual scope s.heap.objs.size f cd).kindOf (ps.zip us) fun _ => none) s1) :
    Inv (cxOf CX P w K mg base N qual scope f cd A outer s H E) [] (start N vs) H s1 := by
  have hpl : ps.length ≤ N.length := by have := congrArg List.length S.pre; rw [List.length_take] at this; omega
  obtain ⟨h1, tk, rfl, hk⟩ := x.done
  have noA : ∀ b : Addr, b ∉ (cxOf CX P w K mg base N qual scope f cd A outer s H E).ex := fun b z => absurd (show b ∈ ([] : List Addr) from z) (by simp)
  refine ⟨⟨e0.mod, S.kind, rfl, rfl, Nat.le_refl _, fun y z c h1 h2 => ?_, fun y hy => ?_, fun y c _ h => ?_, fun _ => hd, Around.frames_deeper e0.frames, .inr ⟨rfl, rfl⟩, fun b z => absurd z (noA b), e0.bs, e0.bsz, fun b _ _ => noA b, fun b z => absurd z (noA b), e0.funs, e0.frf⟩,
    rfl, e0.bare, Un.kept hk, ⟨_, x.toInCall.ns, fun i y v h1 h2 h3 => ?_⟩, fun y c h => ⟨_, x.cell y c h⟩, e0.hok.fresh (Nat.le_refl _), fun y c h => ?_, fun p hp => absurd (show p ∈ ([] : List (Addr × Obj)) from hp) (by simp), e0.hok.kept hk, ?_⟩
  · exact name_of_addr x.apart (PySem.mem_of_lookup h1) (PySem.mem_of_lookup h2)
  · have hy : scope.names.lookup y = some .cell ∨ scope.names.lookup y = some .free := hy
    rcases hy with hy | hy
    · exact cell_has hy
    · exact absurd rfl (S.nofree _ (PySem.mem_of_lookup hy))
  · exact Nat.le_of_lt (x.above y c (PySem.mem_of_lookup h))
  · have hi : i < vs.length := by
      unfold start at h2
      by_cases hi : i < vs.length
      · exact hi
      · rw [List.getElem?_append_right (by simpa using hi)] at h2
        rw [List.getElem?_replicate] at h2
        split at h2 <;> cases h2
    have ha : vs[i]? = some v := by
      unfold start at h2
      rw [List.getElem?_append_left (by simpa using hi), List.getElem?_map] at h2
      cases e : vs[i]? with
      | none => rw [e] at h2; cases h2
      | some a => rw [e] at h2; cases h2; rfl
    obtain ⟨u, hu, rv⟩ := r.get ha
    have hp : ps[i]? = some y := by
      rw [← S.pre, List.getElem?_take_of_lt (by omega)]; exact h1
    have ndP : ps.Nodup := by rw [← S.pre]; exact S.nd.sublist (List.take_sublist _ _)
    refine ⟨u, rv, ?_⟩
    rcases S.par y (List.mem_of_getElem? hp) with k | k
    · exact .inl ⟨k, bindL_get ndP hp hu k⟩
    · obtain ⟨c, e⟩ := cell_has (n := s.heap.objs.size + 1) k
      refine .inr ⟨.inl k, c, e, ?_⟩
      have q := x.cell y c e
      rw [bindC_get ndP hp hu (by show scope.names.lookup y ≠ _; rw [k]; decide)] at q
      exact q
  · exact e0.hok.fresh (Nat.le_of_lt (x.above y c (PySem.mem_of_lookup h)))
  · unfold start
    show _ = N.length
    rw [List.length_append, List.length_map, List.length_replicate]
    omega

/-- THE RULE: a def (or a method) of the text, by its body. The body's reading t is chosen for each entry; it is run at the parameters' values -/
theorem fn_of {CX : CXT} {P : Program} {w : World} {K : PySem.W.Frag} {mg : Str → Option Value} {base : Heap} {k : Nat} {f : Addr} {name qual : Str} {params : Arguments} {body : List Stmt} {scope : Scope} {dV kV doc pm cdv ct oc : Value} {an od : Option Addr}
    {osl : Array (Option Value)} {N ps : List Str} {sp : Sp} (lk : K.lookup f = some ⟨oc, od, .func (PySem.W.fnOf name qual params body scope dV kV doc pm an cdv ct), osl⟩) (hcd : PySem.W.codeIn K cdv qual = true) (S : FnScope N ps scope)
    (len : ∀ vs H Q E, sp vs H Q E → vs.length = ps.length)
    (hbody : ∀ (A : Around) (outer : List Env) (s : Shared) (H : Hp) (vs : List V) (Q : VK) (E : XK), Room k (A.deeper (envOfC qual scope s.heap.objs.size f cdv)) → sp vs H Q E →
      ∃ t, PSs (cxOf CX P w K mg base N qual scope f cdv A outer s H E) body t ∧ t { nx := fun _ H' => Q .non H', rt := Q } (start N vs) H) :
    FnOk P w K mg base CX (k + 1) f (PySem.W.fnOf name qual params body scope dV kV doc pm an cdv ct) ps sp := by
  refine ⟨len, fun A outer s H args us vs Q E hr e0 hb r hsp => ?_⟩
  have hl := len _ _ _ _ hsp
  have KX : K.In s.heap := e0.mod.kin.keeps fun b o e => (e0.bs b o e).1
  have lim : s.heap.NoLimit := e0.mod.nolimit.keeps fun b o e => (e0.bs b o e).1
  have hkind : ∀ y ∈ ps.zip us, scope.names.lookup y.1 = some .local ∨ (scope.names.lookup y.1 = some .cell ∧ ((cellsFrom (s.heap.objs.size + 1) scope.names []).lookup y.1).isSome = true) := fun ⟨n, v⟩ hy => by
    rcases S.par n (List.of_mem_zip hy).1 with q | q
    · exact .inl q
    · exact .inr ⟨q, PySem.W.cellsFrom_some _ _ _ (.inl q)⟩
  refine codeAny_call_function hr.depth (KX _ _ lk) rfl S.co S.gen rfl (PySem.W.codeRec_of KX hcd) (hb _ _ _ _ ?_)
  refine wpAny_newFunctionEnv_cells S.kind hkind fun env he s1 x => ?_
  subst he
  refine ⟨lim.keeps x.toInCall.keep, codeAny_func ?_⟩
  obtain ⟨t, ht, hq⟩ := hbody A outer s H vs Q E (hr.deeper _) hsp
  have I : Inv (cxOf CX P w K mg base N qual scope f cdv A outer s H E) [] (start N vs) H s1 := inv_start S hr.hd e0 hl r x
  refine wpAny_mono (ht [] s1 (start N vs) H _ I hq) (fun fl s' hs => ?_) fun e s' hs => hs
  have fin : ∀ {σ' : St} {H' : Hp} {v : V} {u : Value}, Inv (cxOf CX P w K mg base N qual scope f cdv A outer s H E) [] σ' H' s' → RelV v u → Q v H' → CE outer P w H s Q u s' :=
    fun {σ' H' v u} J rv q => ⟨v, H', J.os, J.bare, J.base, J.hok, rv, q⟩
  cases fl with
  | ret u =>
    obtain ⟨v, σ', H', J, rv, q⟩ := hs
    exact fin J rv q
  | next =>
    obtain ⟨σ', H', J, q⟩ := hs
    exact fin (v := V.non) (u := Value.none) J rfl q
  | brk =>
    obtain ⟨_, _, _, q⟩ := hs
    exact False.elim q
  | cont =>
    obtain ⟨_, _, _, q⟩ := hs
    exact False.elim q
end L2

namespace L2
open PySem PySem.Spec PyProof.Rows
section
variable {X : Cx} {x : Str} {p pos : Pos} {e : Expr} {es : List Expr} {t : TA} {id T : String} {r : List V → Hp → VK → Prop}

def tCB (r : List V → Hp → VK → Prop) (t : TA) : TE := fun σ H Q => t σ H fun vs H1 => r vs H1 Q
/-- f(e, ..), f a built-in function -/
theorem pe_callB (hc : CallR X (.builtin id) r) (hg : Gl X x) (hm : X.mg x = none) (hv : bootBuiltins x = some (.builtin id)) (ha : PA X (e :: es) t) (hn : x ≠ "__name__" := by decide) (hdb : (x == ("__debug__" : Str)) = false := by decide)
    (he : starEach (e :: es) X.env = (false, eval e X.env) :: starEach es X.env := by rfl) (hpl : (backTo pos (starEach es X.env)).any (·.1) = false := by rfl) : PE X (.Call (.Name x p) (e :: es) [] pos) (tCB r t) := by
  intro pins s σ H Q I h
  refine wpAny_Call_Name_kw (ld_blt I hg hm hv ?_ hn hdb)
  exact PyProof.Rows.callWith_builtin1 (thn (ha pos pins s σ H _ I h) fun us s1 ⟨vs, H1, I1, r1, q1⟩ => hc pins s1 σ H1 vs us Q I1 r1 q1) he hpl
/-- T(e, ..), T a built-in type -/
theorem pe_callTy (hc : CallR X (.type T) r) (hg : Gl X x) (hm : X.mg x = none) (hv : bootBuiltins x = some (.type T)) (ha : PA X (e :: es) t) (hn : x ≠ "__name__" := by decide) (hdb : (x == ("__debug__" : Str)) = false := by decide)
    (he : starEach (e :: es) X.env = (false, eval e X.env) :: starEach es X.env := by rfl) (hpl : (backTo pos (starEach es X.env)).any (·.1) = false := by rfl) : PE X (.Call (.Name x p) (e :: es) [] pos) (tCB r t) := by
  intro pins s σ H Q I h
  refine wpAny_Call_Name_kw (ld_blt I hg hm hv ?_ hn hdb)
  exact PyProof.Rows.callWith_type1 (thn (ha pos pins s σ H _ I h) fun us s1 ⟨vs, H1, I1, r1, q1⟩ => hc pins s1 σ H1 vs us Q I1 r1 q1) he hpl
end
end L2

namespace HT
open PySem PyProof.Rows

section
open PySem.SeqAt
open PySem.AutoSeq1 (wpAny_loadPart')
open PySem.MeetsSeq PySem.MeetsSeq2 PySem.MeetsSeq3

end

section
variable {prog : Program} {w : World} {A : Around} {E : Value → Shared → Prop} {s : Shared}

/-- t + u, t not empty -/
theorem cat_tup {t b : Addr} {vs ws : List Value} {Q : Value → Shared → Prop} (ht : IsTup s.heap t vs.toArray) (hb : IsTup s.heap b ws.toArray) (hv : vs ≠ [])
    (h1 : ws = [] → Q (.ref t) s) (h2 : ws ≠ [] → Q (.ref s.heap.objs.size) { s with heap := s.heap.push { cls := .type "tuple", data := .seq (vs ++ ws).toArray } })
    (hsz : vs.length + ws.length ≤ sizeLine) : wpAny (model prog w) A (binaryOp .Add (.ref t) (.ref b)) Q E s := by
  obtain ⟨⟨cls, dd, data, sl⟩, ho, hc, n, hd⟩ := id ht
  obtain ⟨⟨cls2, dd2, data2, sl2⟩, ho2, hc2, n2, hd2⟩ := id hb
  simp only at hc hd hc2 hd2
  subst hc hd hc2 hd2
  have e : vs.toArray ++ ws.toArray = (vs ++ ws).toArray := by simp
  by_cases hw : ws = []
  · exact concat_meets ⟨_, ho, rfl⟩ ⟨_, ho2, rfl⟩ noFill_tuple_add seq_tuple_add PySem.F.slot_tuple_add PySem.F.entry_tuple_add (PySem.F.args_tuple_add_2 _ _)
      (tuple_addW1 t b vs.toArray ws.toArray n n2 dd dd2 sl sl2 (by simpa using hv) (by simp [hw])) ⟨ho, ho2, h1 hw⟩
  · refine concat_meets ⟨_, ho, rfl⟩ ⟨_, ho2, rfl⟩ noFill_tuple_add seq_tuple_add PySem.F.slot_tuple_add PySem.F.entry_tuple_add (PySem.F.args_tuple_add_2 _ _)
      (tuple_addW2 t b vs.toArray ws.toArray n n2 dd dd2 sl sl2 (by simpa using hv) (by simpa using hw) (by rw [List.size_toArray, List.size_toArray]; exact hsz)) ⟨ho, ho2, ?_⟩
    rw [e]
    exact h2 hw

/-- a slice's bound as a place among n (d where it is left out) -/
def sIx (n d : Nat) : Option Int → Nat
  | none => d
  | some v => if v < 0 then (v + (n : Int)).toNat else min v.toNat n
theorem sIx_none (n d : Nat) : sIx n d none = d := rfl
theorem sIx_nat (n d k : Nat) : sIx n d (some (k : Int)) = min k n := by
  show (if (k : Int) < 0 then ((k : Int) + (n : Int)).toNat else min (k : Int).toNat n) = min k n
  rw [if_neg (by omega), Int.toNat_natCast]
theorem sIx_le (n d : Nat) (hd : d ≤ n) (o : Option Int) : sIx n d o ≤ n := by
  cases o with
  | none => exact hd
  | some v =>
    show (if v < 0 then (v + (n : Int)).toNat else min v.toNat n) ≤ n
    by_cases hv : v < 0
    · rw [if_pos hv]; omega
    · rw [if_neg hv]; exact Nat.min_le_right _ _
theorem clip_eq (v : Int) (n d : Nat) : (if v < 0 then max (v + (n : Int)) 0 else min v (n : Int)) = ((sIx n d (some v) : Nat) : Int) := by
  show (if v < 0 then max (v + (n : Int)) 0 else min v (n : Int)) = (((if v < 0 then (v + (n : Int)).toNat else min v.toNat n) : Nat) : Int)
  by_cases hv : v < 0
  · simp only [if_pos hv]; omega
  · simp only [if_neg hv]; omega
theorem adjust_gen (lo hi : Option Int) (n : Nat) : Builtin.Slice.sliceAdjust lo hi 1 (n : Int) = (((sIx n 0 lo : Nat) : Int), ((sIx n n hi : Nat) : Int)) := by
  have h1 : ¬ ((1 : Int) < 0) := by omega
  unfold Builtin.Slice.sliceAdjust
  simp only [h1, if_false]
  refine Prod.ext ?_ ?_
  · cases lo with
    | none => rfl
    | some v => exact clip_eq v n 0
  · cases hi with
    | none => rfl
    | some v => exact clip_eq v n n
theorem places_gen (i j : Nat) : Builtin.Slice.slicePlaces (i : Int) (j : Int) 1 = j - i := by
  unfold Builtin.Slice.slicePlaces
  have h1 : (1 : Int) > 0 := by omega
  simp only [h1, if_true, Int.ediv_one]
  split <;> omega
theorem slicePart_ {v : Value} {o : Option Int} {Q : Option Int → Shared → Prop} (p : IsPart v o) (h : Q o s) : wpAny (model prog w) A (Builtin.Slice.slicePartIndex v) Q E s := by
  cases p with
  | none => exact slicePart_none h
  | int i t => exact slicePart_int h
theorem sliceApplied_gen {sl : Addr} {vl vu : Value} {lo hi : Option Int} {n : Nat} {Q : Int × Int × Nat → Shared → Prop} (hs : s.heap.IsSliceOf sl vl vu .none) (pl : IsPart vl lo) (pu : IsPart vu hi)
    (h : Q (((sIx n 0 lo : Nat) : Int), 1, sIx n n hi - sIx n 0 lo) s) : wpAny (model prog w) A (Builtin.Slice.sliceApplied (.ref sl) (pure (n : Int))) Q E s := by
  obtain ⟨os, hos, hcs, hds⟩ := id hs
  unfold Builtin.Slice.sliceApplied Builtin.Slice.sliceFields
  refine wpAny_bind (wpAny_bind (wpAny_field hos hds (x := vl) rfl (wpAny_bind (wpAny_field hos hds (x := vu) rfl (wpAny_bind (wpAny_field hos hds (x := .none) rfl (wpAny_pure ?_)))))))
  refine wpAny_bind (slicePart_none ?_)
  show wpAny _ _ (if ((1 : Int) == 0) = true then _ else _) _ _ s
  rw [if_neg (by decide)]
  refine wpAny_bind (slicePart_ pl (wpAny_bind (slicePart_ pu (wpAny_bind (wpAny_pure ?_)))))
  show wpAny _ _ (match Builtin.Slice.sliceAdjust lo hi 1 (n : Int) with | (lo, hi) => pure (lo, (1 : Int), Builtin.Slice.slicePlaces lo hi 1)) _ _ s
  rw [adjust_gen lo hi n]
  show wpAny _ _ (pure (((sIx n 0 lo : Nat) : Int), (1 : Int), Builtin.Slice.slicePlaces ((sIx n 0 lo : Nat) : Int) ((sIx n n hi : Nat) : Int) 1)) _ _ s
  rw [places_gen]
  exact wpAny_pure h
theorem pick_gen (xs : Array Value) (i k : Nat) : ((List.range k).filterMap fun (m : Nat) => xs[((i : Int) + (m : Int) * 1).toNat]?).toArray = ((xs.toList.drop i).take k).toArray := by
  have e : (fun (m : Nat) => xs[((i : Int) + (m : Int) * 1).toNat]?) = fun m => xs[i + m]? := by
    funext m
    have : ((i : Int) + (m : Int) * 1).toNat = i + m := by omega
    rw [this]
  rw [e]
  have := pick_run xs i k
  rw [List.filterMap_map] at this
  have e2 : ((fun x => xs[x]?) ∘ fun x => i + x) = fun m => xs[i + m]? := rfl
  rw [e2] at this
  rw [this]

theorem getItem_tuple_cut {t sl : Addr} {items : Array Value} {vl vu : Value} {lo hi : Option Int} {Q : Value → Shared → Prop} (ht : IsTup s.heap t items) (hs : s.heap.IsSliceOf sl vl vu .none) (pl : IsPart vl lo) (pu : IsPart vu hi)
    (hw : ¬ (sIx items.size 0 lo = 0 ∧ sIx items.size items.size hi = items.size))
    (h : Q (.ref s.heap.objs.size) { s with heap := s.heap.push { cls := .type "tuple", data := .seq ((items.toList.drop (sIx items.size 0 lo)).take (sIx items.size items.size hi - sIx items.size 0 lo)).toArray } })
    (hsz : items.size ≤ sizeLine) : wpAny (model prog w) A (getItem (.ref t) (.ref sl)) Q E s := by
  have htake : sizeOk (.seq ((items.toList.drop (sIx items.size 0 lo)).take (sIx items.size items.size hi - sIx items.size 0 lo)).toArray) := by
    show ((items.toList.drop (sIx items.size 0 lo)).take (sIx items.size items.size hi - sIx items.size 0 lo)).toArray.size ≤ sizeLine
    rw [List.size_toArray, List.length_take, List.length_drop, Array.length_toList]
    omega
  have hj : sIx items.size items.size hi ≤ items.size := sIx_le _ _ (Nat.le_refl _) hi
  obtain ⟨os, hos, hcs, hds⟩ := id hs
  have hTs : s.TypeIs (.ref sl) "slice" := ⟨os, hos, hcs⟩
  unfold getItem
  try with_reducible refine wpAny_holding ?_
  first | refine wpAny_bind (wpAny_pure ?_) | skip
  refine wpAny_bind (wpAny_sequenceKey ht.typeIs (by decide) ?_)
  refine wpAny_bind (wpAny_callSpecial?_slot (name := Str.ofString "__getitem__") ht.typeIs PyProof.Rows.slot_tuple_getitem
    (wpAny_call_entry PyProof.Rows.slot_tuple_getitem ht.typeIs entry_tuple_getitem ?_ (args_tuple_getitem _ _)))
  show wpAny _ _ (Builtin.Tuple.tupleItemsOf (.ref t) >>= _) _ _ s
  refine wpAny_bind (tupleItemsOf_ ht ?_)
  refine wpAny_bind (wpAny_typeOf hTs ?_)
  rw [if_pos (by decide)]
  refine wpAny_bind (sliceApplied_gen hs pl pu ?_)
  have hno : ¬ ((((sIx items.size 0 lo : Nat) : Int) == 0 && (1 : Int) == 1 && (sIx items.size items.size hi - sIx items.size 0 lo) == items.size) = true) := by
    intro q
    rw [Bool.and_eq_true, Bool.and_eq_true] at q
    have q1 : ((sIx items.size 0 lo : Nat) : Int) = 0 := eq_of_beq q.1.1
    have q2 : sIx items.size items.size hi - sIx items.size 0 lo = items.size := eq_of_beq q.2
    exact hw ⟨by omega, by omega⟩
  show wpAny _ _ (if (((sIx items.size 0 lo : Nat) : Int) == 0 && (1 : Int) == 1 && (sIx items.size items.size hi - sIx items.size 0 lo) == items.size) = true then _ else _) _ _ s
  rw [if_neg hno, pick_gen]
  first
    | exact wpAny_bind (m := Builtin.Tuple.tupleExact _) (wpAny_newObj_type (wpAny_pure ⟨_, rfl, wpAny_pure h⟩) htake)
    | exact wpAny_bind (m := Builtin.Tuple.tupleExact _) (wpAny_newObj_type (wpAny_bind (wpAny_pure (wpAny_pure ⟨_, rfl, wpAny_pure h⟩))) htake)
    | exact wpAny_bind (wpAny_bind (m := Builtin.Tuple.tupleExact _) (wpAny_newObj_type (wpAny_pure (wpAny_pure ⟨_, rfl, wpAny_pure h⟩)) htake))
    | exact wpAny_bind (wpAny_bind (m := Builtin.Tuple.tupleExact _) (wpAny_newObj_type (wpAny_pure ⟨_, rfl, wpAny_pure h⟩) htake))
end
end HT

namespace L2
open PySem PySem.Spec PyProof.Rows

abbrev TO := St → Hp → (Option Int → Hp → Prop) → Prop
/-- a slice's part (left out, or an int) -/
def PO (X : Cx) (e : Option Expr) (t : TO) : Prop :=
  ∀ (pins : List (Addr × Obj)) (s : Shared) (σ : St) (H : Hp) (Q : Option Int → Hp → Prop), Inv X pins σ H s → t σ H Q →
    wpAny (model X.prog X.w) X.A (evalPart e X.env) (fun u s' => ∃ o H', Inv X pins σ H' s' ∧ IsPart u o ∧ Q o H') X.xe s
def tNoPart : TO := fun _ H Q => Q none H
def tPart (t : TE) : TO := fun σ H Q => t σ H fun x H1 => ∃ i, x = .int i ∧ Q (some i) H1

section
variable {X : Cx} {e : Expr} {te : TE} {lo hi : Option Expr} {tl th : TO} {pos p2 : Pos}

theorem po_none : PO X none tNoPart := by
  intro pins s σ H Q I h
  rw [evalPart_none]
  exact wpAny_pure ⟨none, H, I, .none, h⟩
theorem po_some (h : PE X e te) : PO X (some e) (tPart te) := by
  intro pins s σ H Q I hw
  rw [evalPart_some]
  refine thn (h pins s σ H _ I hw) fun u s1 ⟨x, H1, I1, r1, q1⟩ => ?_
  obtain ⟨i, rfl, q⟩ := q1
  obtain ⟨t, rfl⟩ := r1
  exact ⟨some i, H1, I1, .int i t, q⟩

/-- what a slice of a value is, by values: the slice object stands at sl -/
def SlR (X : Cx) (r : V → Option Int → Option Int → Hp → VK → Prop) : Prop :=
  ∀ (pins : List (Addr × Obj)) (s : Shared) (σ : St) (H : Hp) (x : V) (v vl vu : Value) (lo hi : Option Int) (sl : Addr) (Q : VK), Inv X pins σ H s → RelV x v → s.heap.IsSliceOf sl vl vu .none → IsPart vl lo → IsPart vu hi → r x lo hi H Q →
    ∃ T id, typeLookup (.type T) "__getitem__" = pure (some (.builtin id)) ∧ s.TypeIs v T ∧ wpAny (model X.prog X.w) X.A (getItem v (.ref sl)) (EP X pins σ Q) X.xe s
theorem SlR.or {r r' : V → Option Int → Option Int → Hp → VK → Prop} (h : SlR X r) (h' : SlR X r') : SlR X (fun x lo hi H Q => r x lo hi H Q ∨ r' x lo hi H Q) := by
  intro pins s σ H x v vl vu lo hi sl Q I rx hs pl pu q
  rcases q with q | q
  · exact h pins s σ H x v vl vu lo hi sl Q I rx hs pl pu q
  · exact h' pins s σ H x v vl vu lo hi sl Q I rx hs pl pu q
def tSl (r : V → Option Int → Option Int → Hp → VK → Prop) (te : TE) (tl th : TO) : TE := fun σ H Q => te σ H fun x H1 => tl σ H1 fun l H2 => th σ H2 fun u H3 => r x l u H3 Q
/-- a[lo:hi], any a -/
theorem pe_slice {r : V → Option Int → Option Int → Hp → VK → Prop} (hr : SlR X r) (he : PE X e te) (hl : PO X lo tl) (hu : PO X hi th) : PE X (.Subscript e (.Slice lo hi none p2) pos) (tSl r te tl th) := by
  intro pins s σ H Q I h
  refine Subscript_ (thn (he pins s σ H _ I h) fun v s1 ⟨x, H1, I1, r1, q1⟩ => ?_)
  refine wpAny_Slice (thn (hl pins s1 σ H1 _ I1 q1) fun vl s2 ⟨l, H2, I2, pl, q2⟩ => thn (hu pins s2 σ H2 _ I2 q2) fun vu s3 ⟨u, H3, I3, pu, q3⟩ => ?_)
  rw [evalPart_none]
  refine wpAny_pure ?_
  have I4 : Inv X pins σ H3 { s3 with heap := s3.heap.push { cls := .type "slice", data := .fields #[vl, vu, .none] } } := I3.kept (t' := s3.toks) fun b ob q => Heap.get?_push_of_some _ q
  obtain ⟨T, id, hT, ht, hg⟩ := hr pins { s3 with heap := s3.heap.push { cls := .type "slice", data := .fields #[vl, vu, .none] } } σ H3 x v vl vu l u s3.heap.objs.size Q I4 r1 (Heap.IsSliceOf.new ..) pl pu q3
  show wpAny (model X.prog X.w) X.A (subscriptTail e (.Slice lo hi none p2) v (.ref s3.heap.objs.size)) (EP X pins σ Q) X.xe { s3 with heap := s3.heap.push { cls := .type "slice", data := .fields #[vl, vu, .none] } }
  exact tail_any (ops := [.ref s3.heap.objs.size, v]) ht hT hg (by with_unfolding_all rfl)

/-- the items of xs[lo:hi] -/
def cutV (xs : List V) (lo hi : Option Int) : List V := (xs.drop (HT.sIx xs.length 0 lo)).take (HT.sIx xs.length xs.length hi - HT.sIx xs.length 0 lo)
theorem cutV_length (xs : List V) (lo hi : Option Int) : (cutV xs lo hi).length ≤ xs.length := by
  unfold cutV
  rw [List.length_take, List.length_drop]
  omega
/-- t[lo:hi], not the whole of it (the whole would be t itself) -/
def rSlT (K : PySem.W.Frag) : V → Option Int → Option Int → Hp → VK → Prop := fun x lo hi H Q => ∃ a xs, x = .ref a ∧ SqT K H a xs ∧
  ¬ (HT.sIx xs.length 0 lo = 0 ∧ HT.sIx xs.length xs.length hi = xs.length) ∧ ∀ p, H p = none → Q (.ref p) (upd H p (.tup (cutV xs lo hi)))
theorem sl_tup : SlR X (rSlT X.K) := by
  intro pins s σ H x v vl vu lo hi sl Q I rx hs pl pu h
  obtain ⟨a, xs, rfl, hx, hw, q⟩ := h
  cases rx
  obtain ⟨its, r, ht, hz⟩ := I.tuple hx
  have hlen : its.toArray.size = xs.length := by rw [List.size_toArray]; exact r.length.symm
  refine ⟨"tuple", _, PyProof.Rows.slot_tuple_getitem.lookup, ht.typeIs, ?_⟩
  refine HT.getItem_tuple_cut ht hs pl pu (by rw [hlen]; exact hw) ?_ (by rw [hlen]; exact hz)
  rw [hlen]
  refine ⟨.ref s.heap.objs.size, _, I.laid (t' := s.toks) (o := .tup (cutV xs lo hi)) (fun b ob q => Heap.get?_push_of_some _ q) (Nat.le_refl _) ?_, rfl, q _ (I.hok.fresh (Nat.le_refl _))⟩
  exact ⟨Nat.le_trans (cutV_length xs lo hi) hz, _, (r.drop (HT.sIx xs.length 0 lo)).take (HT.sIx xs.length xs.length hi - HT.sIx xs.length 0 lo), IsTup.new _ _⟩

/-- t + u, t not empty: u empty gives t itself -/
def rCatT (K : PySem.W.Frag) : R2 := fun x y H Q => ∃ a b xs ys, x = .ref a ∧ y = .ref b ∧ SqT K H a xs ∧ SqT K H b ys ∧ xs ≠ [] ∧ xs.length + ys.length ≤ sizeLine ∧
  (ys = [] → Q (.ref a) H) ∧ (ys ≠ [] → ∀ p, H p = none → Q (.ref p) (upd H p (.tup (xs ++ ys))))
theorem Vals.nil_iff {xs : List V} {us : List Value} (r : Vals xs us) : us = [] ↔ xs = [] := by
  cases r with
  | nil => simp
  | cons _ _ => simp
theorem op_catT : OpR X (binaryOp .Add) (rCatT X.K) := by
  intro pins s σ H x y v u Q I rx ry h
  obtain ⟨a, b, xs, ys, rfl, rfl, ha, hb, hx, hz, q1, q2⟩ := h
  cases rx
  cases ry
  obtain ⟨its, r1, p1, _⟩ := I.tuple ha
  obtain ⟨its2, r2, p2, _⟩ := I.tuple hb
  refine HT.cat_tup p1 p2 (fun z => hx (r1.nil_iff.mp z)) (fun z => ⟨.ref a, H, I, rfl, q1 (r2.nil_iff.mp z)⟩) (fun z => ?_) (by rw [← r1.length, ← r2.length]; exact hz)
  refine ⟨.ref s.heap.objs.size, _, I.laid (t' := s.toks) (o := .tup (xs ++ ys)) (fun b ob q => Heap.get?_push_of_some _ q) (Nat.le_refl _) ?_, rfl, q2 (fun w => z (r2.nil_iff.mpr w)) _ (I.hok.fresh (Nat.le_refl _))⟩
  exact ⟨by rw [List.length_append]; exact hz, _, r1.append r2, IsTup.new _ _⟩
end
end L2

namespace L2
open PySem PySem.Spec PyProof.Rows

/-- the place that an index of any sign means -/
def ixN (n : Nat) (i : Int) : Option Nat := if 0 ≤ i then (if i < n then some i.toNat else none) else if -(n : Int) ≤ i then some (i + n).toNat else none
def atI {α : Type} (xs : List α) (i : Int) : Option α := (ixN xs.length i).bind fun j => xs[j]?
theorem ixN_seq {n : Nat} {i : Int} {j : Nat} (h : ixN n i = some j) : seqIndex? i n = some j ∧ j < n ∧ -(n : Int) ≤ i ∧ i < n := by
  unfold ixN at h
  by_cases h0 : 0 ≤ i
  · rw [if_pos h0] at h
    by_cases h1 : i < n
    · rw [if_pos h1] at h
      have e : i.toNat = j := Option.some.inj h
      exact ⟨by rw [seqIndex_of h0 h1, e], by omega, by omega, h1⟩
    · rw [if_neg h1] at h; cases h
  · rw [if_neg h0] at h
    by_cases h1 : -(n : Int) ≤ i
    · rw [if_pos h1] at h
      have e : (i + n).toNat = j := Option.some.inj h
      exact ⟨by rw [seqIndex_neg (by omega) h1, e], by omega, h1, by omega⟩
    · rw [if_neg h1] at h; cases h
theorem atI_get {α : Type} {xs : List α} {i : Int} {v : α} (h : atI xs i = some v) : ∃ j, seqIndex? i xs.length = some j ∧ xs[j]? = some v ∧ j < xs.length ∧ -(xs.length : Int) ≤ i ∧ i < xs.length := by
  unfold atI at h
  cases e : ixN xs.length i with
  | none => rw [e] at h; cases h
  | some j =>
    rw [e] at h
    obtain ⟨h1, h2, h3, h4⟩ := ixN_seq e
    exact ⟨j, h1, h, h2, h3, h4⟩
theorem atI_nat {α : Type} {xs : List α} {j : Nat} {v : α} (h : xs[j]? = some v) : atI xs (j : Int) = some v := by
  have hj : j < xs.length := (List.getElem?_eq_some_iff.mp h).1
  have e : ixN xs.length (j : Int) = some j := by
    unfold ixN
    rw [if_pos (by omega), if_pos (by omega)]; simp
  unfold atI; rw [e]; exact h
/-- what stands as an index of a plain subscript -/
def PlainIx (b : Expr) : Prop := ∀ o i, subscripted b false o i = operate [o, i] (getItem o i)
/-- a subscript by values -/
def IxR (X : Cx) (r : R2) : Prop :=
  ∀ (value slice : Expr) (pins : List (Addr × Obj)) (s : Shared) (σ : St) (H : Hp) (x y : V) (v u : Value) (Q : VK), Inv X pins σ H s → RelV x v → RelV y u → r x y H Q →
    subscripted slice false v u = operate [v, u] (getItem v u) → wpAny (model X.prog X.w) X.A (subscriptTail value slice v u) (EP X pins σ Q) X.xe s
/-- a call of a builtin's method by values: the receiver, the arguments -/
def MtR (X : Cx) (id : String) (r : V → List V → Hp → VK → Prop) : Prop :=
  ∀ (pins : List (Addr × Obj)) (s : Shared) (σ : St) (H : Hp) (x : V) (xs : List V) (v : Value) (us : List Value) (Q : VK), Inv X pins σ H s → RelV x v → Vals xs us → r x xs H Q →
    wpAny (model X.prog X.w) X.A (call (.builtin id) (v :: us)) (EP X pins σ Q) X.xe s
section
variable {X : Cx} {a b : Expr} {ta tb : TE} {pos : Pos}
theorem IxR.or {r r' : R2} (h : IxR X r) (h' : IxR X r') : IxR X (fun x y H Q => r x y H Q ∨ r' x y H Q) := by
  intro value slice pins s σ H x y v u Q I rx ry q hs
  rcases q with q | q
  · exact h value slice pins s σ H x y v u Q I rx ry q hs
  · exact h' value slice pins s σ H x y v u Q I rx ry q hs
theorem MtR.or {id : String} {r r' : V → List V → Hp → VK → Prop} (h : MtR X id r) (h' : MtR X id r') : MtR X id (fun x xs H Q => r x xs H Q ∨ r' x xs H Q) := by
  intro pins s σ H x xs v us Q I rx rs q
  rcases q with q | q
  · exact h pins s σ H x xs v us Q I rx rs q
  · exact h' pins s σ H x xs v us Q I rx rs q
/-- a[b] -/
theorem pe_ix {r : R2} (hr : IxR X r) (ha : PE X a ta) (hb : PE X b tb) (hs : PlainIx b) : PE X (.Subscript a b pos) (tOp r ta tb) := by
  intro pins s σ H Q I h
  exact Subscript_ (binT ha hb I h fun v u s2 x y H2 I2 rx ry q => hr a b pins s2 σ H2 x y v u Q I2 rx ry q (hs _ _))

def rIxL (K : PySem.W.Frag) : R2 := fun x y H Q => ∃ p xs i v, x = .ref p ∧ y = .int i ∧ SqL K H p xs ∧ atI xs i = some v ∧ Q v H
def rIxT (K : PySem.W.Frag) : R2 := fun x y H Q => ∃ p xs i v, x = .ref p ∧ y = .int i ∧ SqT K H p xs ∧ atI xs i = some v ∧ Q v H
def rIxS : R2 := fun x y H Q => ∃ z i c, x = .str z ∧ y = .int i ∧ z.length ≤ sizeLine ∧ atI z.cps.toList i = some c ∧ Q (.str ⟨#[c]⟩) H
theorem ix_list : IxR X (rIxL X.K) := by
  intro value slice pins s σ H x y v u Q I rx ry h hs
  obtain ⟨p, xs, i, z, rfl, rfl, hq, he, q⟩ := h
  cases rx
  obtain ⟨t, rfl⟩ := ry
  obtain ⟨its, r, pl, hz⟩ := I.list hq
  obtain ⟨j, h1, h2, h3, h4, h5⟩ := atI_get he
  obtain ⟨w, ew, rw'⟩ := r.get h2
  have hl := r.length
  have hn := line63
  have fin : EP X pins σ Q w s := ⟨z, H, I, rw', q⟩
  by_cases h0 : 0 ≤ i
  · have hj : i.toNat = j := by
      rw [seqIndex_of h0 h5] at h1
      exact Option.some.inj h1
    exact item_listR pl.isList h0 (by omega) (by rw [hj]; simpa using ew) fin hs
  · have hj : (i + (its.toArray.size : Int)).toNat = j := by
      rw [seqIndex_neg (by omega) h4] at h1
      rw [List.size_toArray, ← hl]
      exact Option.some.inj h1
    exact subscriptTail_builtinR (x := w) pl.isList.typeIs slot_list_getitem.lookup
      (wpAny_getItem_list_neg (Q := fun r s' => r = w ∧ EP X pins σ Q r s') pl.isList (by omega) (by rw [List.size_toArray] <;> omega) (by omega) (by rw [hj]; simpa using ew) ⟨rfl, fin⟩) hs
theorem ix_tup : IxR X (rIxT X.K) := by
  intro value slice pins s σ H x y v u Q I rx ry h hs
  obtain ⟨p, xs, i, z, rfl, rfl, hq, he, q⟩ := h
  cases rx
  obtain ⟨t, rfl⟩ := ry
  obtain ⟨its, r, pl, hz⟩ := I.tuple hq
  obtain ⟨j, h1, h2, h3, h4, h5⟩ := atI_get he
  obtain ⟨w, ew, rw'⟩ := r.get h2
  have hl := r.length
  have hn := line63
  have fin : EP X pins σ Q w s := ⟨z, H, I, rw', q⟩
  exact subscriptTail_builtinR (x := w) pl.typeIs slot_tuple_getitem.lookup
    (getItem_tuple (j := j) (Q := fun r s' => r = w ∧ EP X pins σ Q r s') pl (by omega) (by omega) (by rw [List.size_toArray, ← hl]; exact h1) (by simpa using ew) ⟨rfl, fin⟩) hs
theorem ix_str : IxR X rIxS := by
  intro value slice pins s σ H x y v u Q I rx ry h hs
  obtain ⟨z, i, c, rfl, rfl, hz, he, q⟩ := h
  obtain ⟨t, rfl⟩ := rx
  obtain ⟨t', rfl⟩ := ry
  obtain ⟨j, h1, h2, h3, h4, h5⟩ := atI_get he
  have hl : z.cps.toList.length = z.length := by simp [Str.length]
  rw [hl] at h1 h4 h5
  have hn := line63
  exact tail_any (typeIs_str s z t) slot_str_getitem.lookup (getItem_str (c := c) (by
    have e1 : decide (i < -(2 ^ 63 : Int)) = false := decide_eq_false (by omega)
    have e2 : decide (i ≥ 2 ^ 63) = false := decide_eq_false (by omega)
    rw [e1, e2, Bool.or_false]) (by rw [h1]; simpa using h2) ⟨.str ⟨#[c]⟩, H, I.tok _, ⟨_, rfl⟩, q⟩) hs
/-- the list's object behind a store -/
theorem mapSeq_set (its : List Value) (n j : Nat) (u : Value) : Obj.mapSeq (·.setIfInBounds j u) { cls := .type "list", data := .seq its.toArray n } = { cls := .type "list", data := .seq (its.set j u).toArray n } := by
  simp [Obj.mapSeq]
theorem Inv.lst {pins : List (Addr × Obj)} {σ : St} {H : Hp} {s : Shared} {p : Addr} {xs : List V} (I : Inv X pins σ H s) (h : H p = some (.lst xs)) :
    ∃ (its : List Value) (n : Nat), Vals xs its ∧ s.heap.get? p = some { cls := .type "list", data := .seq its.toArray n } ∧ xs.length ≤ sizeLine := by
  obtain ⟨z, its, n, r, e⟩ := I.hok p _ h
  exact ⟨its, n, r, e, z⟩
/-- the list at p is written by an update of its object -/
theorem Inv.lstUpd {pins : List (Addr × Obj)} {σ : St} {H : Hp} {s : Shared} {p : Addr} {xs ys : List V} {its its' : List Value} {n n' : Nat} {f : Obj → Obj} (I : Inv X pins σ H s) (h : H p = some (.lst xs))
    (ho : s.heap.get? p = some { cls := .type "list", data := .seq its.toArray n }) (hf : f { cls := .type "list", data := .seq its.toArray n } = { cls := .type "list", data := .seq its'.toArray n' }) (r : Vals ys its') (hz : ys.length ≤ sizeLine) (t : Nat) :
    Inv X pins σ (upd H p (.lst ys)) { s with heap := s.heap.update p f, toks := t } := by
  have e : (s.heap.update p f).get? p = some { cls := .type "list", data := .seq its'.toArray n' } := by
    rw [Heap.get?_update_self f ho (by rw [hf] <;> rfl), hf]
  refine I.write (x := p) (e := p) (by rw [h]; trivial) (.inl rfl) (fun b u hb q => (Heap.get?_update_other _ _ (Ne.symm hb)).trans q) ⟨_, e⟩ ?_
  exact ⟨hz, its', n', r, e⟩
def rSetL : V → V → V → Hp → (Hp → Prop) → Prop := fun o i v H Q => ∃ p xs k j, o = .ref p ∧ i = .int k ∧ H p = some (.lst xs) ∧ ixN xs.length k = some j ∧ Q (upd H p (.lst (xs.set j v)))
theorem set_list : PSet X rSetL := by
  intro pins s σ H o i v ov iv u Q I ro ri rv h
  obtain ⟨p, xs, k, j, rfl, rfl, hp, hj, q⟩ := h
  cases ro
  obtain ⟨t, rfl⟩ := ri
  obtain ⟨its, n, r, ho, hz⟩ := I.lst hp
  obtain ⟨h1, h2, h3, h4⟩ := ixN_seq hj
  have hl := r.length
  have hn := line63
  have I' : Inv X pins σ (upd H p (.lst (xs.set j v))) { s with heap := s.heap.update p (Obj.mapSeq (·.setIfInBounds j u)) } :=
    I.lstUpd hp ho (mapSeq_set its n j u) (r.set rv j) (by rw [List.length_set]; exact hz) s.toks
  by_cases h0 : 0 ≤ k
  · have hk : k.toNat = j := by
      rw [seqIndex_of h0 h4] at h1
      exact Option.some.inj h1
    exact PySem.W.ki_setAt ho h0 (by omega) (by rw [List.size_toArray, ← hl]; exact h4) (by rw [hk]; exact ⟨_, I', q⟩)
  · have hk : (k + (its.toArray.size : Int)).toNat = j := by
      rw [seqIndex_neg (by omega) h3] at h1
      rw [List.size_toArray, ← hl]
      exact Option.some.inj h1
    exact PySem.W.ki_setBack ho (by omega) (by rw [List.size_toArray, ← hl]; exact h3) (by omega) (by rw [hk]; exact ⟨_, I', q⟩)

theorem slice_bounds (lo hi : Option Int) (n : Nat) : (sliceBounds lo hi none n).1 = ((HT.sIx n 0 lo : Nat) : Int) ∧ (sliceBounds lo hi none n).2.1 = ((HT.sIx n n hi : Nat) : Int) ∧ (sliceBounds lo hi none n).2.2 = 1 := by
  refine ⟨?_, ?_, rfl⟩
  · cases lo with
    | none => simp [sliceBounds, HT.sIx]
    | some i =>
      simp only [sliceBounds, HT.sIx, Option.getD_none, show (1 : Int) > 0 by decide, if_true]
      by_cases h : i < 0
      · simp only [h, if_true] <;> omega
      · simp only [h, if_false] <;> omega
  · cases hi with
    | none => simp [sliceBounds, HT.sIx]
    | some i =>
      simp only [sliceBounds, HT.sIx, Option.getD_none, show (1 : Int) > 0 by decide, if_true]
      by_cases h : i < 0
      · simp only [h, if_true] <;> omega
      · simp only [h, if_false] <;> omega
theorem slicePick_cut (its : List Value) (lo hi : Option Int) : slicePick its.toArray lo hi none = ((its.drop (HT.sIx its.length 0 lo)).take (HT.sIx its.length its.length hi - HT.sIx its.length 0 lo)).toArray := by
  obtain ⟨h1, h2, h3⟩ := slice_bounds lo hi its.toArray.size
  unfold slicePick
  rw [h1, h2, h3]
  simp only [sliceRange_one, pick_run, List.size_toArray] <;> rfl
/-- xs[lo:hi] of a list: a new list -/
def rSlL (K : PySem.W.Frag) : V → Option Int → Option Int → Hp → VK → Prop := fun x lo hi H Q => ∃ a xs, x = .ref a ∧ SqL K H a xs ∧ ∀ p, H p = none → Q (.ref p) (upd H p (.lst (cutV xs lo hi)))
theorem sl_list : SlR X (rSlL X.K) := by
  intro pins s σ H x v vl vu lo hi sl Q I rx hs pl pu h
  obtain ⟨a, xs, rfl, hx, q⟩ := h
  cases rx
  obtain ⟨its, r, ht, hz⟩ := I.list hx
  have hlen := r.length
  refine ⟨"list", _, slot_list_getitem.lookup, ht.isList.typeIs, ?_⟩
  refine wpAny_getItem_list_slice ht.isList hs pl pu .none (by simp) ?_ (by rw [List.size_toArray] <;> omega)
  rw [slicePick_cut, ← hlen]
  refine ⟨.ref s.heap.objs.size, _, I.laid (t' := s.toks) (o := .lst (cutV xs lo hi)) (fun b ob q => Heap.get?_push_of_some _ q) (Nat.le_refl _) ?_, rfl, q _ (I.hok.fresh (Nat.le_refl _))⟩
  exact ⟨Nat.le_trans (cutV_length xs lo hi) hz, _, 0, (r.drop (HT.sIx xs.length 0 lo)).take (HT.sIx xs.length xs.length hi - HT.sIx xs.length 0 lo), Heap.get?_push_size _ rfl⟩

def flatV : V → Bool
  | .non => true
  | .bl _ => true
  | .int _ => true
  | .str _ => true
  | _ => false
/-- == of flat values -/
def eqV : V → V → Bool
  | .non, .non => true
  | .bl a, .bl b => a == b
  | .bl a, .int b => (if a then 1 else 0) == b
  | .int a, .bl b => a == (if b then 1 else 0)
  | .int a, .int b => a == b
  | .str a, .str b => a == b
  | _, _ => false
theorem eqAt_V {A : Around} {s : Shared} {y x : V} {u v : Value} (ry : RelV y u) (rx : RelV x v) (fy : flatV y = true) (fx : flatV x = true) : SeqAt.EqAt A s u v (eqV y x) := by
  cases y with
  | non =>
    cases ry
    cases x with
    | non => cases rx; exact SeqAt.EqAt.same _
    | bl b => cases rx; exact SeqAt.EqAt.none_bool b
    | int b => obtain ⟨t, rfl⟩ := rx; exact SeqAt.EqAt.none_int b t
    | str b => obtain ⟨t, rfl⟩ := rx; exact SeqAt.EqAt.none_str b t
    | _ => exact absurd (show false = true from fx) Bool.false_ne_true
  | bl a =>
    cases ry
    cases x with
    | non => cases rx; exact SeqAt.EqAt.bool_none a
    | bl b => cases rx; exact SeqAt.EqAt.bool_bool a b
    | int b => obtain ⟨t, rfl⟩ := rx; exact SeqAt.EqAt.bool_int a b t
    | str b => obtain ⟨t, rfl⟩ := rx; exact SeqAt.EqAt.bool_str a b t
    | _ => exact absurd (show false = true from fx) Bool.false_ne_true
  | int a =>
    obtain ⟨t', rfl⟩ := ry
    cases x with
    | non => cases rx; exact SeqAt.EqAt.int_none a t'
    | bl b => cases rx; exact SeqAt.EqAt.int_bool a t' b
    | int b => obtain ⟨t, rfl⟩ := rx; exact SeqAt.EqAt.int_int a t' b t
    | str b => obtain ⟨t, rfl⟩ := rx; exact SeqAt.EqAt.int_str a t' b t
    | _ => exact absurd (show false = true from fx) Bool.false_ne_true
  | str a =>
    obtain ⟨t', rfl⟩ := ry
    cases x with
    | non => cases rx; exact SeqAt.EqAt.str_none a t'
    | bl b => cases rx; exact SeqAt.EqAt.str_bool a t' b
    | int b => obtain ⟨t, rfl⟩ := rx; exact SeqAt.EqAt.str_int a t' b t
    | str b => obtain ⟨t, rfl⟩ := rx; exact SeqAt.EqAt.str_str a t' b t
    | _ => exact absurd (show false = true from fx) Bool.false_ne_true
  | _ => exact absurd (show false = true from fy) Bool.false_ne_true
/-- the items' answers, read off the values (a value's own answer does not lean on its token) -/
def eqU (x : V) (u : Value) : Bool := match u with
  | .none => eqV .non x
  | .bool b => eqV (.bl b) x
  | .int i _ => eqV (.int i) x
  | .str z _ => eqV (.str z) x
  | _ => false
theorem eqU_of {x y : V} {u : Value} (r : RelV y u) (f : flatV y = true) : eqU x u = eqV y x := by
  cases y with
  | non => cases r; rfl
  | bl b => cases r; rfl
  | int i => obtain ⟨t, rfl⟩ := r; rfl
  | str z => obtain ⟨t, rfl⟩ := r; rfl
  | _ => exact absurd (show false = true from f) Bool.false_ne_true
theorem any_eqU {x : V} : ∀ {xs : List V} {us : List Value}, Vals xs us → xs.all flatV = true → us.any (eqU x) = xs.any fun y => eqV y x
  | _, _, .nil, _ => rfl
  | y :: xs, u :: us, .cons r t, f => by
    rw [List.all_cons, Bool.and_eq_true] at f
    rw [List.any_cons, List.any_cons, eqU_of r f.1, any_eqU t f.2]
theorem mem_eqAt {A : Around} {s : Shared} {x : V} {v : Value} (rx : RelV x v) (fx : flatV x = true) : ∀ {xs : List V} {us : List Value}, Vals xs us → xs.all flatV = true → ∀ u ∈ us, SeqAt.EqAt A s u v (eqU x u)
  | _, _, .nil, _ => fun u hu => by cases hu
  | y :: xs, u :: us, .cons r t, f => fun u' hu => by
    rw [List.all_cons, Bool.and_eq_true] at f
    rcases List.mem_cons.mp hu with rfl | hu
    · rw [eqU_of r f.1]; exact eqAt_V r rx f.1 fx
    · exact mem_eqAt rx fx t f.2 u' hu
def inV (x : V) (xs : List V) : Bool := xs.any fun y => eqV y x
/-- x in a list or tuple of flat items -/
def rIn (K : PySem.W.Frag) (neg : Bool) : R2 := fun x y H Q => ∃ p xs, y = .ref p ∧ (SqL K H p xs ∨ SqT K H p xs) ∧ flatV x = true ∧ xs.all flatV = true ∧ Q (.bl (if neg then !inV x xs else inV x xs)) H
theorem op_in_seq : OpR X (compareOp .In) (rIn X.K false) := by
  intro pins s σ H x y v u Q I rx ry h
  obtain ⟨p, xs, rfl, hq, fx, fs, q⟩ := h
  cases ry
  rcases hq with hq | hq
  · obtain ⟨its, r, pl, hz⟩ := I.list hq
    refine SeqAt.in_listAt (eqU x) pl.isList (fun w hw => mem_eqAt rx fx r fs w (by simpa using hw)) ⟨.bl _, H, I, rfl, ?_⟩
    rw [show its.toArray.any (eqU x) = its.any (eqU x) by simp, any_eqU r fs]
    exact q
  · obtain ⟨its, r, pl, hz⟩ := I.tuple hq
    refine SeqAt.in_tupleAt (eqU x) pl (fun w hw => mem_eqAt rx fx r fs w (by simpa using hw)) ⟨.bl _, H, I, rfl, ?_⟩
    rw [show its.toArray.any (eqU x) = its.any (eqU x) by simp, any_eqU r fs]
    exact q
theorem op_notIn_seq : OpR X (compareOp .NotIn) (rIn X.K true) := by
  intro pins s σ H x y v u Q I rx ry h
  obtain ⟨p, xs, rfl, hq, fx, fs, q⟩ := h
  cases ry
  rcases hq with hq | hq
  · obtain ⟨its, r, pl, hz⟩ := I.list hq
    refine SeqAt.notIn_listAt (eqU x) pl.isList (fun w hw => mem_eqAt rx fx r fs w (by simpa using hw)) ⟨.bl _, H, I, rfl, ?_⟩
    rw [show its.toArray.any (eqU x) = its.any (eqU x) by simp, any_eqU r fs]
    exact q
  · obtain ⟨its, r, pl, hz⟩ := I.tuple hq
    refine SeqAt.notIn_tupleAt (eqU x) pl (fun w hw => mem_eqAt rx fx r fs w (by simpa using hw)) ⟨.bl _, H, I, rfl, ?_⟩
    rw [show its.toArray.any (eqU x) = its.any (eqU x) by simp, any_eqU r fs]
    exact q
theorem call_len_seq : CallR X (.builtin "len") (fun xs H Q => ∃ p ys, xs = [.ref p] ∧ (SqL X.K H p ys ∨ SqT X.K H p ys) ∧ Q (.int ys.length) H) := by
  intro pins s σ H xs us Q I r h
  obtain ⟨p, ys, rfl, hq, q⟩ := h
  obtain ⟨u, rfl, rx⟩ := vals1 r
  cases rx
  have hn := line63
  rcases hq with hq | hq
  · obtain ⟨its, r', pl, hz⟩ := I.list hq
    have hlen := r'.length
    exact Calls.call_len_list pl.isList (by simp only [List.size_toArray] <;> omega) ⟨.int ys.length, H, I.tok _, ⟨s.toks + 1, by rw [List.size_toArray, hlen]⟩, q⟩
  · obtain ⟨its, r', pl, hz⟩ := I.tuple hq
    have hlen := r'.length
    exact len_tuple pl (by simp only [List.size_toArray] <;> omega) ⟨.int ys.length, H, I.tok _, ⟨s.toks + 1, by rw [List.size_toArray, hlen]⟩, q⟩
theorem call_len_str : CallR X (.builtin "len") (fun xs H Q => ∃ z, xs = [.str z] ∧ z.length ≤ sizeLine ∧ Q (.int z.length) H) := by
  intro pins s σ H xs us Q I r h
  obtain ⟨z, rfl, hz, q⟩ := h
  obtain ⟨u, rfl, t, rfl⟩ := vals1 r
  have hn := line63
  exact len_str (by omega) ⟨.int z.length, H, I.tok _, ⟨_, rfl⟩, q⟩
theorem CallR.or {f : Value} {r r' : List V → Hp → VK → Prop} (h : CallR X f r) (h' : CallR X f r') : CallR X f (fun xs H Q => r xs H Q ∨ r' xs H Q) := by
  intro pins s σ H xs us Q I rs q
  rcases q with q | q
  · exact h pins s σ H xs us Q I rs q
  · exact h' pins s σ H xs us Q I rs q
theorem call_list_of : CallR X (.type "list") (fun xs H Q => ∃ p ys, xs = [.ref p] ∧ (SqL X.K H p ys ∨ SqT X.K H p ys) ∧ ∀ l, H l = none → Q (.ref l) (upd H l (.lst ys))) := by
  intro pins s σ H xs us Q I r h
  obtain ⟨p, ys, rfl, hq, q⟩ := h
  obtain ⟨u, rfl, rx⟩ := vals1 r
  cases rx
  have fin : ∀ (its : List Value), Vals ys its → ys.length ≤ sizeLine → ∀ (h' : Heap) (c' : Nat), (∀ b o', s.heap.get? b = some o' → h'.get? b = some o') →
      h'.get? s.heap.objs.size = some { cls := .type "list", dict := none, data := .seq its.toArray c', slots := #[] } → EP X pins σ Q (.ref s.heap.objs.size) { s with heap := h' } := fun its r' hz h' c' kp e =>
    ⟨.ref s.heap.objs.size, _, I.laid (t' := s.toks) kp (Nat.le_refl _) (show ObjOk X.prog X.w _ h' _ (.lst ys) from ⟨hz, its, c', r', e⟩), rfl, q _ (I.hok.fresh (Nat.le_refl _))⟩
  rcases hq with hq | hq
  · obtain ⟨its, r', pl, hz⟩ := I.list hq
    have hlen := r'.length
    obtain ⟨o, ho, hc, n, hd⟩ := pl.isList
    exact call_list_seq p (.inl rfl) ho hc hd (fun h' c' kp e => fin its r' hz h' c' kp e) (by simp only [List.size_toArray] <;> omega)
  · obtain ⟨its, r', pl, hz⟩ := I.tuple hq
    have hlen := r'.length
    obtain ⟨o, ho, hc, n, hd⟩ := pl
    exact call_list_seq p (.inr rfl) ho hc hd (fun h' c' kp e => fin its r' hz h' c' kp e) (by simp only [List.size_toArray] <;> omega)
/-- the value is of that builtin type -/
def tyV (K : PySem.W.Frag) (T : String) (x : V) (H : Hp) : Prop := match x with
  | .str _ => T = "str"
  | .int _ => T = "int"
  | .ref p => (T = "list" ∧ ∃ xs, SqL K H p xs) ∨ (T = "tuple" ∧ ∃ o, K.lookup p = some o ∧ o.cls = .type "tuple" ∧ o.dict = none) ∨
      (T = "dict" ∧ ((∃ kvs, H p = some (.dK kvs)) ∨ ∃ kvs, H p = some (.dT kvs))) ∨ (T = "set" ∧ ∃ S n, H p = some (.set S n))
  | _ => False
theorem tyV_is {pins : List (Addr × Obj)} {σ : St} {H : Hp} {s : Shared} {T : String} {x : V} {v : Value} (I : Inv X pins σ H s) (r : RelV x v) (ty : tyV X.K T x H) :
    s.TypeIs v T ∧ ∀ a, v = .ref a → ∃ ob, s.heap.get? a = some ob ∧ ob.dict = none := by
  cases x with
  | str z =>
    obtain ⟨t, rfl⟩ := r
    cases (show T = "str" from ty)
    exact ⟨typeIs_str s z t, fun _ e => nomatch e⟩
  | int i =>
    obtain ⟨t, rfl⟩ := r
    cases (show T = "int" from ty)
    exact ⟨typeIs_int s i t, fun _ e => nomatch e⟩
  | ref p =>
    cases r
    rcases ty with ⟨rfl, xs, hq⟩ | ⟨rfl, o, hk, hc, hd⟩ | ⟨rfl, hk⟩ | ⟨rfl, S, n, hk⟩
    · obtain ⟨its, _, pl, _⟩ := I.list hq
      refine ⟨pl.isList.typeIs, fun a e => ?_⟩
      cases e
      obtain ⟨o, n, e, c, hd, _⟩ := pl
      exact ⟨o, e, hd⟩
    · refine ⟨⟨o, I.kIn p o hk, hc⟩, fun a e => ?_⟩
      cases e
      exact ⟨o, I.kIn _ o hk, hd⟩
    · have z : ∃ o, s.heap.get? p = some o ∧ o.ExactDict := by
        rcases hk with ⟨kvs, hk⟩ | ⟨kvs, hk⟩
        · obtain ⟨_, _, _, _, o, _, _, e, ex, _⟩ := I.hok p _ hk
          exact ⟨o, e, ex⟩
        · obtain ⟨_, _, _, _, o, _, _, e, ex, _⟩ := I.hok p _ hk
          exact ⟨o, e, ex⟩
      obtain ⟨o, e, ex⟩ := z
      refine ⟨⟨o, e, ex.1⟩, fun a e2 => ?_⟩
      cases e2
      exact ⟨o, e, ex.2.1⟩
    · obtain ⟨o, _, _, _, e, ex, _⟩ := I.hok p _ hk
      refine ⟨⟨o, e, ex.1⟩, fun a e2 => ?_⟩
      cases e2
      exact ⟨o, e, ex.2.1⟩
  | _ => exact False.elim ty
def tBM0 (K : PySem.W.Frag) (T : String) (r : V → List V → Hp → VK → Prop) (to : TE) : TE := fun σ H Q => to σ H fun x H1 => tyV K T x H1 ∧ r x [] H1 Q
def tBM (K : PySem.W.Frag) (T : String) (r : V → List V → Hp → VK → Prop) (to : TE) (t : TA) : TE := fun σ H Q => to σ H fun x H1 => tyV K T x H1 ∧ t σ H1 fun xs H2 => r x xs H2 Q
variable {o e : Expr} {es : List Expr} {to : TE} {t : TA} {name : Str} {apos cpos : Pos} {T id : String} {r : V → List V → Hp → VK → Prop}
theorem pe_bm0 (pa : PlainAttrs T) (slot : Slot T name id) (hty : typeOf (.builtin id) = pure (.type "method_descriptor")) (hm : MtR X id r) (ho : PE X o to)
    (hbase : attributeBase o name X.env (eval o X.env) = eval o X.env := by rfl) (hline : (apos.endLine == cpos.line) = true := by rfl) : PE X (.Call (.Attribute o name apos) [] [] cpos) (tBM0 X.K T r to) := by
  intro pins s σ H Q I h
  refine wpAny_Call_method0_late hbase hline (thn (ho pins s σ H _ I h) fun v s1 ⟨x, H1, I1, r1, ty, q1⟩ => ?_)
  obtain ⟨h1, h2⟩ := tyV_is I1 r1 ty
  exact ⟨T, id, pa, slot, hty, h1, h2, Calls.callWith_builtin rfl (PySem.evalArgs_none (hm pins s1 σ H1 x [] v [] Q I1 r1 .nil q1))⟩
theorem pe_bm (pa : PlainAttrs T) (slot : Slot T name id) (hty : typeOf (.builtin id) = pure (.type "method_descriptor")) (hm : MtR X id r) (ho : PE X o to) (ha : PA X (e :: es) t)
    (hbase : attributeBase o name X.env (eval o X.env) = eval o X.env := by rfl)
    (hfew : ((backTo cpos (starEach (e :: es) X.env)).all (fun x => !x.1) && (backToKw cpos (keywordEach [] X.env)).all (fun x => x.1.isSome)
      && decide ((e :: es).length + ([] : List Keyword).length + (if ([] : List Keyword).isEmpty then 0 else 1) < 30)) = true := by rfl)
    (hline : (apos.endLine == cpos.line) = true := by rfl) (hs : starEach (e :: es) X.env = (false, eval e X.env) :: starEach es X.env := by rfl) (hplain : (backTo cpos (starEach es X.env)).any (·.1) = false := by rfl) :
    PE X (.Call (.Attribute o name apos) (e :: es) [] cpos) (tBM X.K T r to t) := by
  intro pins s σ H Q I h
  refine wpAny_Call_method_late hbase hfew hline rfl (thn (ho pins s σ H _ I h) fun v s1 ⟨x, H1, I1, r1, ty, q1⟩ => ?_)
  obtain ⟨h1, h2⟩ := tyV_is I1 r1 ty
  refine ⟨T, id, pa, slot, hty, h1, h2, ?_⟩
  have hA := ha cpos pins s1 σ H1 _ I1 q1
  rw [hs] at hA ⊢
  refine Calls.callWith_builtin (by show (false || (backTo cpos (starEach es X.env)).any (·.1)) = false; rw [hplain] <;> rfl) (Calls.evalArgs_plain ?_)
  exact thn hA fun us s2 ⟨vs, H2, I2, r2, q2⟩ => hm pins s2 σ H2 x vs v us Q I2 r1 r2 q2
/- xs.append(e), list.index on a module's tuple .. are MtR facts of 06m -/
end
end L2

namespace L2
open PySem PySem.Spec PyProof.Rows

def MtM (X : Cx) (id : String) (r : V → List V → Hp → VK → Prop) : Prop :=
  ∀ (pins : List (Addr × Obj)) (s : Shared) (σ : St) (H : Hp) (x : V) (xs : List V) (v : Value) (us : List Value) (Q : VK), Inv X pins σ H s → RelV x v → Vals xs us → r x xs H Q →
    wpAny (model X.prog X.w) X.A (call (.builtin id) (v :: us)) (EP X pins σ Q) X.xe s

theorem Vals.one : ∀ {x : V} {us : List Value}, Vals [x] us → ∃ u, us = [u] ∧ RelV x u
  | _, _, .cons r .nil => ⟨_, rfl, r⟩
theorem Vals.two : ∀ {x y : V} {us : List Value}, Vals [x, y] us → ∃ u v, us = [u, v] ∧ RelV x u ∧ RelV y v
  | _, _, _, .cons r (.cons q .nil) => ⟨_, _, rfl, r, q⟩
theorem Vals.zero : ∀ {us : List Value}, Vals [] us → us = []
  | _, .nil => rfl
theorem Vals.eraseIdx : ∀ {xs : List V} {us : List Value} (i : Nat), Vals xs us → Vals (xs.eraseIdx i) (us.eraseIdx i)
  | _, _, _, .nil => .nil
  | _, _, 0, .cons _ t => t
  | _, _, i + 1, .cons r t => .cons r (Vals.eraseIdx i t)
theorem Vals.reverse {xs : List V} {us : List Value} (h : Vals xs us) : Vals xs.reverse us.reverse := by
  induction h with
  | nil => exact .nil
  | cons r t ih => rw [List.reverse_cons, List.reverse_cons]; exact Vals.append ih (.cons r .nil)
theorem Vals.rep {xs : List V} {us : List Value} (h : Vals xs us) : ∀ k : Nat, Vals (List.replicate k xs).flatten (List.replicate k us).flatten
  | 0 => .nil
  | k + 1 => by
    rw [List.replicate_succ, List.replicate_succ, List.flatten_cons, List.flatten_cons]
    exact Vals.append h (Vals.rep h k)
theorem len_erase {α : Type} : ∀ (l : List α) (i : Nat), (l.eraseIdx i).length ≤ l.length
  | [], _ => Nat.le_refl _
  | _ :: _, 0 => Nat.le_succ _
  | _ :: r, i + 1 => Nat.succ_le_succ (len_erase r i)
section
variable {X : Cx} {pins : List (Addr × Obj)} {σ : St} {H : Hp} {s : Shared} {l b : Addr} {xs ys zs : List V}

theorem Inv.lset {its its' : List Value} {n : Nat} {f : Array Value → Array Value} {t' : Nat} (I : Inv X pins σ H s) (hH : H l = some (.lst xs))
    (e : s.heap.get? l = some { cls := .type "list", data := .seq its.toArray n }) (hf : f its.toArray = its'.toArray) (hv : Vals ys its') (hz : ys.length ≤ sizeLine) :
    Inv X pins σ (upd H l (.lst ys)) { s with heap := s.heap.update l (Obj.mapSeq f), toks := t' } := by
  have q := PySem.IsL.update e f
  rw [hf] at q
  refine I.write (x := l) (e := l) (by rw [hH]; exact trivial) (.inl rfl) (fun b' u hb hu => (Heap.get?_update_other s.heap (Obj.mapSeq f) (Ne.symm hb)).trans hu) ⟨_, q⟩ ?_
  exact ⟨hz, its', _, hv, q⟩
theorem Inv.lnew {its : List Value} {t' : Nat} (I : Inv X pins σ H s) (hv : Vals ys its) (hz : ys.length ≤ sizeLine) :
    Inv X pins σ (upd H s.heap.objs.size (.lst ys)) { s with heap := s.heap.push { cls := .type "list", data := .seq its.toArray }, toks := t' } :=
  I.laid (fun _ _ q => Heap.get?_push_of_some _ q) (Nat.le_refl _) ⟨hz, its, 0, hv, Heap.get?_push_size _ rfl⟩
theorem Inv.fresh (I : Inv X pins σ H s) : H s.heap.objs.size = none := I.hok.fresh (Nat.le_refl _)
theorem Inv.lstM (I : Inv X pins σ H s) (hH : H l = some (.lst xs)) : xs.length ≤ sizeLine ∧ ∃ (its : List Value) (n : Nat), Vals xs its ∧ xs.length = its.length ∧ s.heap.get? l = some { cls := .type "list", data := .seq its.toArray n } := by
  obtain ⟨z, its, n, r, e⟩ := I.hok l _ hH
  exact ⟨z, its, n, r, r.length, e⟩

end

section
variable {X : Cx}

def rAppend : V → List V → Hp → VK → Prop := fun x vs H Q => ∃ l xs y, x = .ref l ∧ vs = [y] ∧ H l = some (.lst xs) ∧ xs.length < sizeLine ∧ Q .non (upd H l (.lst (xs ++ [y])))
theorem mt_append : MtM X "list.append" rAppend := by
  intro pins s σ H x vs v us Q I rx rv h
  obtain ⟨l, xs, y, rfl, rfl, hH, hz, q⟩ := h
  cases rx
  obtain ⟨u, rfl, ru⟩ := rv.one
  obtain ⟨z, its, n, r, hl, e⟩ := I.lstM hH
  refine call_meets F.slot_list_append ⟨_, e, rfl⟩ F.entry_list_append (F.args_list_append_2 _ _) (PySem.list_append l its.toArray n u (by rw [List.size_toArray]; omega)) ⟨e, ?_⟩
  refine ⟨.non, _, I.lset (its' := its ++ [u]) hH e (by simp) (r.append (.cons ru .nil)) ?_, rfl, q⟩
  rw [List.length_append, List.length_singleton]
  omega

def rPopAt : V → List V → Hp → VK → Prop := fun x vs H Q => ∃ l xs i k y, x = .ref l ∧ vs = [.int i] ∧ H l = some (.lst xs) ∧ -(2 ^ 63) ≤ i ∧ i < 2 ^ 63 ∧ seqIndex? i xs.length = some k ∧ xs[k]? = some y ∧ Q y (upd H l (.lst (xs.eraseIdx k)))
theorem mt_popAt : MtM X "list.pop" rPopAt := by
  intro pins s σ H x vs v us Q I rx rv h
  obtain ⟨l, xs, i, k, y, rfl, rfl, hH, h1, h2, hk, hy, q⟩ := h
  cases rx
  obtain ⟨u, rfl, ru⟩ := rv.one
  obtain ⟨t, rfl⟩ := ru
  obtain ⟨z, its, n, r, hl, e⟩ := I.lstM hH
  obtain ⟨w, hw, rw'⟩ := r.get hy
  refine call_meets F.slot_list_pop ⟨_, e, rfl⟩ F.entry_list_pop (F.args_list_pop_2 _ _)
    (MeetsSeq.list_pop_at l its.toArray n i t k w (fitsIndex_both h1 h2) (by rw [List.size_toArray, ← hl]; exact hk) (by rw [← Array.getElem?_toList]; exact hw) (by rw [List.size_toArray]; omega)) ⟨e, ?_⟩
  refine ⟨y, _, I.lset (its' := its.eraseIdx k) hH e ?_ (r.eraseIdx k) ?_, rw', q⟩
  · show its.toArray.eraseIdxIfInBounds k = (its.eraseIdx k).toArray
    rw [List.eraseIdxIfInBounds_toArray]
  · have := len_erase xs k
    omega

def rReverse : V → List V → Hp → VK → Prop := fun x vs H Q => ∃ l xs, x = .ref l ∧ vs = [] ∧ H l = some (.lst xs) ∧ Q .non (upd H l (.lst xs.reverse))
theorem mt_reverse : MtM X "list.reverse" rReverse := by
  intro pins s σ H x vs v us Q I rx rv h
  obtain ⟨l, xs, rfl, rfl, hH, q⟩ := h
  cases rx
  have hus := rv.zero
  subst hus
  obtain ⟨z, its, n, r, hl, e⟩ := I.lstM hH
  refine call_meets F.slot_list_reverse ⟨_, e, rfl⟩ F.entry_list_reverse (F.args_list_reverse_1 _) (AutoSeq1.list_reverse_list_0 l its.toArray n (by rw [List.size_toArray]; omega)) ⟨e, ?_⟩
  refine ⟨.non, _, I.lset (its' := its.reverse) hH e (by simp) r.reverse ?_, rfl, q⟩
  rw [List.length_reverse]
  omega

def rCat : R2 := fun x y H Q => ∃ l b xs zs, x = .ref l ∧ y = .ref b ∧ H l = some (.lst xs) ∧ H b = some (.lst zs) ∧ xs.length + zs.length ≤ sizeLine ∧ ∀ p, H p = none → Q (.ref p) (upd H p (.lst (xs ++ zs)))
theorem op_cat : OpR X (binaryOp .Add) rCat := by
  intro pins s σ H x y v u Q I rx ry h
  obtain ⟨l, b, xs, zs, rfl, rfl, hH, hB, hz, q⟩ := h
  cases rx
  cases ry
  obtain ⟨z, its, n, r, hl, e⟩ := I.lstM hH
  obtain ⟨z2, its2, n2, r2, hl2, e2⟩ := I.lstM hB
  refine PySem.P.add_list e e2 ?_ (by rw [List.size_toArray, List.size_toArray]; omega)
  have ea : its.toArray ++ its2.toArray = (its ++ its2).toArray := by simp
  rw [ea]
  exact ⟨.ref _, _, I.lnew (t' := s.toks) (r.append r2) (by rw [List.length_append]; omega), rfl, q _ I.fresh⟩
end

section
variable {prog : Program} {w : World} {A : Around} {E : Value → Shared → Prop} {s : Shared}
set_option maxRecDepth 100000 in
end

section
variable {X : Cx}
end
end L2

namespace Att
open PySem PySem.W PySem.Calls PyProof.Rows

theorem ints_of_wellAll {P : Params} {h : Heap} : ∀ (ns : List Int) (vs : List Value), WellAll P h vs (ns.map WData.int) → IntsAre vs ns := by
  intro ns
  induction ns with
  | nil =>
    intro vs w
    rw [List.map_nil] at w
    cases w
    exact .nil
  | cons n ns ih =>
    intro vs w
    rw [List.map_cons] at w
    cases w with
    | cons a b =>
      cases a
      exact .cons _ _ (ih _ b)

theorem script_of {l : OpenLaw} {n : Nat} (hn : l.most = some n) {P : Params} {h : Heap} {args : List WData} {vals : List Value}
    (hpre : l.row.toRowW.claim.pre args = true) (hwl : WellAll P h vals args) :
    ∃ a vs ns, vals = [Value.ref a] ∧ args = [WData.list (ns.map WData.int)] ∧ h.get? a = some { cls := .type "list", data := .seq vs.toArray } ∧ IntsAre vs ns ∧ ns.length ≤ n := by
  have hsh : WShape.hasAll [] args [.list .int] = true := (pre_splitW hpre).1
  have hc : l.pre.holds [] { args := args } = true := (pre_splitW hpre).2
  obtain ⟨d, r, rfl, h1, h2⟩ := hasAllW_cons hsh
  obtain rfl := hasAllW_nil h2
  obtain ⟨xs, rfl, h3⟩ := hasW_list h1
  obtain ⟨ns, rfl⟩ := items_int h3
  have hlen : ns.length ≤ n := by
    unfold OpenLaw.pre at hc
    have h4 : (WTm.not (.lt (.lit (.int (n : Int))) (.len (.arg 0)))).holds [] { args := [.list (ns.map .int)] } = true := by
      have h4 := (holds_andW hc).1
      rw [hn] at h4
      exact h4
    have h5 := condW_of h4 (w_not (w_lt w_lit (w_len_list (w_arg rfl))))
    rw [List.length_map] at h5
    refine Nat.le_of_not_lt fun q => ?_
    have q' : (n : Int) < ((ns.length : Nat) : Int) := by omega
    first
      | (rw [decide_eq_true q'] at h5; exact absurd h5 (by decide))
      | (simp at h5; omega)
  cases hwl with
  | cons w1 w2 =>
    cases w2
    cases w1 with
    | list ho hall => exact ⟨_, _, ns, rfl, rfl, ho, ints_of_wellAll ns _ hall, hlen⟩

theorem post_true (l : OpenLaw) (args : List WData) : l.row.toRowW.claim.post args (.bool true) args = true :=
  postW_of (r := l.row.toRowW) (X := (true == true))
    (show WShape.has [] (.bool true) .bool = true by first | rfl | decide | simp [WShape.has, WShape.arms, WShape.armsAll])
    (show (WTm.eq .res (.lit (.bool true))).value [] { args := args, res := some (.bool true), after := args } = some (.bool (true == true)) from w_eq_bool (w_res rfl) w_lit) rfl

/-- the same from a codeAny of the CALL (for a layer whose function contracts speak of calls) -/
theorem attach_call {l : OpenLaw} {n : Nat} {q : Program} {loose : List Str} {XP : (Str → Option Value) → Heap → Prop} {YP : World → Heap → Prop} {d : DefRec}
    (hn : l.most = some n) (hdf : d.params.defaults = [])
    (call : ∀ (w : World) (s₀ s₁ : Shared) (mg mb : Str → Option Value) (fa : Addr) (o : Obj) (pm cd doc : Value) (a : Addr) (vs : List Value) (ns : List Int),
      Ground q loose [] XP w s₀ mg mb s₁.heap → YP w s₁.heap →
      s₁.heap.get? fa = some o → o.data = .func (docDef d.name d.params d.body d.scope pm cd doc) → s₁.heap.CodeRec cd d.name → mg d.name = some (.ref fa) →
      s₁.heap.get? a = some { cls := .type "list", data := .seq vs.toArray } → IntsAre vs ns → ns.length ≤ n → s₁.gens = #[] →
      codeAny (model l.prog w) callerA (.call (.ref fa) ⟨[.ref a], []⟩) (fun r s' => r = .ok (.ret (.bool true)) ∧ OldK s₁.heap s'.heap ∧ s'.os = s₁.os ∧ AllBare s'.gens) s₁) :
    WalkO q loose XP YP l.row.toRowW d [] (fun f vs => PySem.call f vs) := by
  intro w s₀ s₁ mg mb G Y fa o pm cd doc dV kV ho hd hcd hD hmg hg args vals as hpre hlay hrd hwl hlo
  obtain rfl : dV = .none := Dflts.none hD hdf
  obtain rfl : kV = .none := Dflts.noKw hD
  obtain ⟨a, vs, ns, rfl, rfl, hobj, hints, hlen⟩ := script_of hn hpre hwl
  refine enter_call (codeAny_mono (call w s₀ s₁ mg mb fa o pm cd doc a vs ns G Y ho (fd_plain hd) hcd hmg hobj hints hlen hg) fun r s' hq => ?_)
  obtain ⟨rfl, h2, h3, h4⟩ := hq
  exact ⟨.inl ⟨.bool true, .bool true, [], rfl, fun _ => rfl, .bool true, post_true l _, fun _ => ⟨List.Pairwise.nil, fun _ hm => (nomatch hm)⟩⟩, h2, h3, h4⟩

section
variable {prog : Program} {w : World} {A : Around} {E : Value → Shared → Prop} {s : Shared} {K : Frag}

end
end Att

namespace L2
open PySem PySem.Spec PyProof.Rows

theorem vals_ints : ∀ {vs : List Value} {ns : List Int}, IntsAre vs ns → Vals (ns.map V.int) vs
  | _, _, .nil => .nil
  | _, _, .cons n t h => .cons ⟨t, rfl⟩ (vals_ints h)

/-- nothing is tracked but the script, known to the object (or it is an object of the module) -/
def Only (H : Hp) : Prop := ∀ b, H b = none ∨ ∃ o xs, H b = some (.frz o (.lst xs))

/-- THE HEAD: the law's promise, at the heap behind the top. F, the promise of the law's def, may use that base is part of the heap (so K.In base, base.Ns mainGlobals mg stand in Mod) -/
theorem law_call {P : Program} {w : World} {K : PySem.W.Frag} {mg mb : Str → Option Value} {CX : CXT} {k : Nat} {fa a : Addr} {fd : FuncData} {x : Str} {sp : Sp} {s₁ : Shared} {vs : List Value} {ns : List Int}
    (KX : K.In s₁.heap) (hns : s₁.heap.Ns mainGlobals mg) (hb : s₁.heap.Ns builtinsNs mb) (hbb : ∀ x : Str, x ≠ "__name__" → mb x = bootBuiltins x) (hlim : s₁.heap.NoLimit) (hg : s₁.gens = #[])
    (ha : s₁.heap.get? a = some { cls := .type "list", data := .seq vs.toArray }) (hi : IntsAre vs ns) (hl : ns.length ≤ sizeLine) (hr : Room k callerA)
    (F : ∀ base : Heap, K.In base → base.Ns mainGlobals mg → FnOk P w K mg base CX k fa fd [x] sp) (hbind : ∀ (s : Shared) (u : Value), BindsTo s fd ⟨[u], []⟩ [(x, u)])
    (hsp : ∀ H : Hp, Only H → SqL K H a (ns.map V.int) → sp [.ref a] H (fun v _ => v = .bl true) fun _ _ _ => False)
    (hCX : ∀ H e s', CX [] H s₁ (fun _ _ _ => False) e s' → False) :
    codeAny (model P w) callerA (.call (.ref fa) ⟨[.ref a], []⟩) (fun r s' => r = .ok (.ret (.bool true)) ∧ OldK s₁.heap s'.heap ∧ s'.os = s₁.os ∧ AllBare s'.gens) s₁ := by
  have rv := vals_ints hi
  have lenV := hi.length
  -- from an abstract heap in which nothing but the script may be tracked
  have core : ∀ H : Hp, Only H → SqL K H a (ns.map V.int) → HOk P w H s₁.heap → (∀ b, H b ≠ none → b = a) → (H a ≠ none → K.lookup a = none) →
      codeAny (model P w) callerA (.call (.ref fa) ⟨[.ref a], []⟩) (fun r s' => r = .ok (.ret (.bool true)) ∧ OldK s₁.heap s'.heap ∧ s'.os = s₁.os ∧ AllBare s'.gens) s₁ := by
    intro H hO hS hok hA hK
    have base_of : ∀ {b : Addr} {o : Obj}, s₁.heap.get? b = some o → H b = none → (hidT s₁.heap H).get? b = some o := fun e n => hidT_get e n
    have noA : ∀ {b : Addr} {o : Obj} {es : Array DictEntry} {ep : Nat}, s₁.heap.get? b = some o → o.data = .dict es ep → H b = none := fun {b o es ep} e d => by
      cases q : H b with
      | none => rfl
      | some u =>
        have e' : b = a := hA b (by rw [q]; simp)
        subst e'
        rw [ha] at e; cases e
        have d' : Data.seq vs.toArray _ = Data.dict es ep := d
        cases d'
    have nsK : ∀ {b : Addr} {m : Str → Option Value}, s₁.heap.Ns b m → (hidT s₁.heap H).Ns b m := fun {b m} ⟨o, es, ep, e, d, r⟩ => ⟨o, es, ep, base_of e (noA e d), d, r⟩
    have hKb : K.In (hidT s₁.heap H) := fun b o e => base_of (KX b o e) (by
      cases q : H b with
      | none => rfl
      | some u =>
        have e' : b = a := hA b (by rw [q]; simp)
        subst e'
        rw [hK (by rw [q]; simp)] at e; cases e)
    have hM : Mod K mg (hidT s₁.heap H) := ⟨hKb, nsK hns, ⟨mb, nsK hb, hbb⟩, let ⟨mc, h1, h2⟩ := hlim; ⟨mc, nsK h1, h2⟩⟩
    have e0 : Env0 P w K mg (hidT s₁.heap H) callerA [] s₁ H := ⟨rfl, hM, fun b o e => of_hidT e, Nat.le_of_eq (hidT_size _ _), trivial, fun b hb => absurd (show b ∈ ([] : List Addr) from hb) (by simp), hok, .of_eq hg⟩
    refine codeAny_mono ((F _ hKb (nsK hns)).run callerA [] s₁ H ⟨[.ref a], []⟩ [.ref a] [.ref a] _ _ hr e0 (hbind s₁ (.ref a)) (.cons rfl .nil) (hsp H hO hS)) fun r s' h => ?_
    cases r with
    | error e => exact (hCX H e s' h).elim
    | ok fl =>
      cases fl with
      | next => exact False.elim h
      | brk => exact False.elim h
      | cont => exact False.elim h
      | ret u =>
        obtain ⟨v, H', os, bare, un, hok', r', q⟩ := h
        have q' : v = .bl true := q
        subst q'
        obtain rfl : u = Value.bool true := r'
        refine ⟨rfl, OldK.of_keep fun b o e => ?_, os, bare⟩
        cases q : H b with
        | none => exact un.keep b o e q (by intro z; exact absurd (show b ∈ ([] : List Addr) from z) (by simp)) (by simp)
        | some u =>
          rcases hO b with z | ⟨ob, xs, z⟩
          · rw [q] at z; cases z
          · have z2 := un.frzs b ob _ z
            obtain ⟨e1, _⟩ := hok b _ z
            obtain ⟨e2, _⟩ := hok' b _ z2
            rw [e] at e1; cases e1
            exact e2
  cases hk : K.lookup a with
  | some o =>
    -- the script is one of the module's own objects
    have e := KX a o hk
    rw [ha] at e
    cases e
    refine core (fun _ => none) (fun _ => .inl rfl) (.inr ⟨_, vs.toArray, _, hk, rfl, rfl, rfl, by rw [List.size_toArray, lenV]; exact hl, by simpa using rv⟩) (fun b u z => by have z' : (none : Option HO) = some u := z; cases z') (fun b z => absurd rfl z) fun z => absurd rfl z
  | none =>
    refine core (fun b => if b = a then some (.frz { cls := .type "list", data := .seq vs.toArray } (.lst (ns.map V.int))) else none) (fun b => ?_) (.inl (.inr ⟨{ cls := .type "list", data := .seq vs.toArray }, if_pos rfl⟩)) (fun b u z => ?_) (fun b z => ?_) fun _ => hk
    · by_cases hb : b = a
      · exact .inr ⟨_, _, if_pos hb⟩
      · exact .inl (if_neg hb)
    · by_cases hb : b = a
      · have z' := (if_pos hb).symm.trans z
        cases z'
        subst hb
        exact ⟨ha, by rw [List.length_map]; exact hl, vs, _, rv, ha⟩
      · have z' := (if_neg hb).symm.trans z
        cases z'
    · by_cases hb : b = a
      · exact hb
      · exact absurd (if_neg hb) z
end L2

namespace L2
open PySem PySem.Spec PyProof.Rows

abbrev KOf {K : PySem.W.Frag} {h : Heap} (_ : K.In h) : PySem.W.Frag := K

/-- the goal that k_head leaves (case hc), from the law's promise. F gives the function object fd (K's own) once, then the promise over every base -/
theorem walk_of {l : PySem.W.OpenLaw} {n k : Nat} {q : Program} {loose : List Str} {XP : (Str → Option Value) → Heap → Prop} {YP : World → Heap → Prop} {d : DefRec} {K : Params → PySem.W.Frag} {CX : World → CXT} {sp : World → Sp} {x : Str}
    (hn : l.most = some n) (hn2 : n ≤ sizeLine) (hdf : d.params.defaults = []) (hr : Room k callerA)
    (hY : ∀ (w : World) (h : Heap), YP w h → (K w.params).In h)
    (F : ∀ (w : World) (mg : Str → Option Value) (fa : Addr) (h : Heap), (K w.params).In h → h.Ns mainGlobals mg → mg d.name = some (.ref fa) →
      ∃ fd : FuncData, (∀ (s : Shared) (u : Value), BindsTo s fd ⟨[u], []⟩ [(x, u)]) ∧
        ∀ base : Heap, (K w.params).In base → base.Ns mainGlobals mg → FnOk l.prog w (K w.params) mg base (CX w) k fa fd [x] (sp w))
    (hsp : ∀ (w : World) (H : Hp) (a : Addr) (ns : List Int), ns.length ≤ n → Only H → SqL (K w.params) H a (ns.map V.int) → sp w [.ref a] H (fun v _ => v = .bl true) fun _ _ _ => False)
    (hCX : ∀ (w : World) (H : Hp) (s : Shared) (e : Value) (s' : Shared), CX w [] H s (fun _ _ _ => False) e s' → False) :
    PySem.W.WalkO q loose XP YP l.row.toRowW d [] (fun f vs => PySem.call f vs) := by
  refine Att.attach_call hn hdf fun w s₀ s₁ mg mb fa o pm cd doc a vs ns G Y ho hd hcd hmg hobj hints hlen hg => ?_
  have KX := hY w _ Y
  obtain ⟨fd, hb, hF⟩ := F w mg fa _ KX G.T.g hmg
  exact law_call KX G.T.g G.T.b G.T.builtins G.T.nolimit hg hobj hints (Nat.le_trans hlen hn2) hr hF hb (fun H hO hS => hsp w H a ns hlen hO hS) fun H e s' => hCX w H s₁ e s'
end L2

/- THE LAST THEOREM (shape; LID, My.* are yours):
   My.Adr: a structure of the addresses that your layer names (classes, functions); My.Txt K t: a structure (Prop) of the equations over K;
   My.txt_mk : {K} {implicit addresses ..} (e1 : nsIn K mainGlobals "law" = some (some (.ref f))) (e2 : K.lookup f = some ⟨oc, od, .func (fnOf "law" "law" params body scope dV kV doc pm an cdv ct), sl⟩) (e3 : codeIn K cdv "law" = true) .. : ∃ t, My.Txt K t

set_option maxRecDepth 100000 in
set_option maxHeartbeats 0 in
theorem PySem.Challenge.cw_LID_holds : PySem.Challenge.rw_LID.Holds := by
  w_on; o_law; k_head; (case hw => w_witness2)
  k_fill
  refine L2.walk_of (l := PySem.Challenge.rw_LID) (n := 63) (k := 40) (x := "script") (CX := fun w => ..) (sp := fun _ => My.sp_law) rfl (by decide) rfl ⟨rfl, by decide, by decide⟩ (fun w h Y => PySem.W.kIn_of Y) ?F ?S ?C
  case F =>
    intro w mg fa h KX G hmg
    have T : ∃ t, My.Txt (L2.KOf KX) t := by
      dsimp only [L2.KOf]                          -- K must stand as «<heap const> w.params» for k_is
      refine' My.txt_mk ?e1 ?e2 ?e3 ..
      (case e1 => PySem.W.k_is)                    -- in the order: a name -> its address -> its object -> its parts
      (case e2 => PySem.W.k_is)
      ..
    obtain ⟨t, T⟩ := T
    have e0 := hmg.symm.trans (PySem.W.mg_of KX G T.law)
    cases e0                                       -- fa is the law's own address
    exact ⟨_, fun s u => .of_eq rfl, fun base kb nb => My.law_fn T kb nb⟩     -- if «.of_eq rfl» comes too early: refine' ⟨_, ?b, fun base kb nb => My.law_fn T kb nb⟩; exact fun s u => .of_eq rfl
  case S => exact fun w H a ns hl hO hS => ..
  case C => exact ..
(the tactic k_is has no namespace: write k_is) -/

namespace L2
open PySem PySem.Spec PyProof.Rows

/-- the j-th statement of a class's body -/
def inClass (s : Stmt) (j : Nat) : Stmt := match s with
  | .ClassDef _ _ _ body _ _ _ _ _ _ _ => body.getD j (.Pass ⟨0, 0, 0, 0⟩)
  | _ => .Pass ⟨0, 0, 0, 0⟩
def defArgs (s : Stmt) : Arguments := match s with
  | .FunctionDef _ a _ _ _ _ _ _ _ _ => a
  | _ => { posonlyargs := [], args := [], vararg := none, kwonlyargs := [], kw_defaults := [], kwarg := none, defaults := [] }
def defBody (s : Stmt) : List Stmt := match s with
  | .FunctionDef _ _ b _ _ _ _ _ _ _ => b
  | _ => []
def defScope (s : Stmt) : Scope := match s with
  | .FunctionDef _ _ _ _ _ _ sc _ _ _ => sc
  | _ => { kind := .function, names := [], isGenerator := false, isCoroutine := false }

abbrev CX0 : CXT := fun _ _ _ _ _ _ => False
abbrev E0 : XK := fun _ _ _ => False
structure Fun (K : PySem.W.Frag) (x qual : Str) (st : Stmt) (f : Addr) (fd : FuncData) : Prop where
  ex : ∃ (oc : Value) (od : Option Addr) (kV doc pm : Value) (an : Option Addr) (cdv ct : Value) (osl : Array (Option Value)),
    fd = PySem.W.fnOf x qual (defArgs st) (defBody st) (defScope st) .none kV doc pm an cdv ct ∧ K.lookup f = some ⟨oc, od, .func fd, osl⟩ ∧ PySem.W.codeIn K cdv qual = true
  kp : PySem.W.keepIn K (.ref f) = true
section
variable {P : Program} {w : World} {K : PySem.W.Frag} {mg : Str → Option Value} {base : Heap}
/-- THE RULE for a def: its body as a term of rules, and the reading of that term -/
theorem Fun.ok {x qual : Str} {st : Stmt} {f : Addr} {fd : FuncData} {N ps : List Str} {k : Nat} {sp : Sp} (F : Fun K x qual st f fd) (S : FnScope N ps (defScope st)) (len : ∀ vs H Q E, sp vs H Q E → vs.length = ps.length)
    (hbody : ∀ (cdv : Value) (A : Around) (outer : List Env) (s : Shared) (H : Hp) (vs : List V) (Q : VK) (E : XK), Room k (A.deeper (envOfC qual (defScope st) s.heap.objs.size f cdv)) → sp vs H Q E →
      ∃ t, PSs (cxOf CX0 P w K mg base N qual (defScope st) f cdv A outer s H E).nox (defBody st) t ∧ t { nx := fun _ H' => Q .non H', rt := Q } (start N vs) H) : FnOk P w K mg base CX0 (k + 1) f fd ps sp := by
  obtain ⟨oc, od, kV, doc, pm, an, cdv, ct, osl, rfl, lk, hcd⟩ := F.ex
  refine fn_of lk hcd S len fun A outer s H vs Q E hr hsp => ?_
  obtain ⟨t, h, q⟩ := hbody cdv A outer s H vs Q E hr hsp
  exact ⟨t, h.nox, q⟩
/-- how its arguments bind (no defaults): h is «fun _ _ _ _ _ _ us hl => match us, hl with | [_, _], _ => rfl», one _ a parameter -/
theorem Fun.binds {x qual : Str} {st : Stmt} {f : Addr} {fd : FuncData} {ps : List Str} (F : Fun K x qual st f fd)
    (h : ∀ (kV doc pm : Value) (an : Option Addr) (cdv ct : Value) (us : List Value), us.length = ps.length → bindArgs (PySem.W.fnOf x qual (defArgs st) (defBody st) (defScope st) .none kV doc pm an cdv ct) ⟨us, []⟩ = pure (ps.zip us)) : Binds K fd ps [] := by
  obtain ⟨oc, od, kV, doc, pm, an, cdv, ct, osl, rfl, lk, hcd⟩ := F.ex
  exact .all (h kV doc pm an cdv ct)
end
section
variable {X : Cx}
theorem pv (i : Nat) {x : Str} {pos : Pos} (hN : X.N[i]? = some x := by rfl) (hv : Vis X.env.scope x := by first | exact Or.inl rfl | exact Or.inr (Or.inl rfl) | exact Or.inr (Or.inr rfl)) (hd : (x == ("__debug__" : Str)) = false := by decide)
    (hcd : (x == ("__classdict__" : Str)) = false := by decide) : PE X (.Name x pos) (tVar i) := pe_var hN hv hd hcd
end

/-- all that was tracked is as it was -/
def Same (H H' : Hp) : Prop := ∀ b o, H b = some o → H' b = some o
theorem Same.refl (H : Hp) : Same H H := fun _ _ h => h
theorem Same.trans {H H1 H2 : Hp} (a : Same H H1) (b : Same H1 H2) : Same H H2 := fun c o h => b c o (a c o h)
theorem Same.free {H H' : Hp} (e : Same H H') {l : Addr} (h : H' l = Option.none) : H l = Option.none := by
  cases q : H l with
  | none => rfl
  | some o =>
    rw [e l o q] at h
    cases h
theorem Same.seq {K : PySem.W.Frag} {H H' : Hp} {a : Addr} {xs : List V} (e : Same H H') (h : SqL K H a xs) : SqL K H' a xs := by
  rcases h with (h | ⟨o, h⟩) | h
  · exact .inl (.inl (e _ _ h))
  · exact .inl (.inr ⟨o, e _ _ h⟩)
  · exact .inr h

end L2

set_option Elab.async false
set_option linter.all false
set_option maxRecDepth 100000
set_option maxHeartbeats 4000000
namespace L2
open PySem PySem.Spec PyProof.Rows

section
variable {κ : Type} [DecidableEq κ]
def valV (kvs : List (κ × V)) (k : κ) : Option V := (kvs.find? fun kv => decide (kv.1 = k)).map (·.2)
/-- in its place, or at the end -/
def putK (kvs : List (κ × V)) (k : κ) (v : V) : List (κ × V) :=
  if (kvs.any fun kv => decide (kv.1 = k)) = true then kvs.map (fun kv => if kv.1 = k then (kv.1, v) else kv) else kvs ++ [(k, v)]
def dropK (kvs : List (κ × V)) (k : κ) : List (κ × V) := kvs.filter fun kv => decide (kv.1 ≠ k)

theorem valV_pos {p : κ × V} {r : List (κ × V)} {k : κ} (e : p.1 = k) : valV (p :: r) k = some p.2 := by simp [valV, List.find?_cons, e]
theorem valV_neg {p : κ × V} {r : List (κ × V)} {k : κ} (e : ¬ p.1 = k) : valV (p :: r) k = valV r k := by simp [valV, List.find?_cons, e]
theorem valV_any (k : κ) : ∀ kvs : List (κ × V), (kvs.any fun kv => decide (kv.1 = k)) = (valV kvs k).isSome
  | [] => rfl
  | p :: r => by
    rw [List.any_cons]
    by_cases e : p.1 = k
    · simp only [valV_pos e, decide_eq_true e, Bool.true_or, Option.isSome_some]
    · rw [valV_neg e, decide_eq_false e, Bool.false_or]; exact valV_any k r
theorem valV_map (k j : κ) (y : V) : ∀ kvs : List (κ × V), valV (kvs.map fun kv => if kv.1 = k then (kv.1, y) else kv) j = (valV kvs j).map fun x => if j = k then y else x
  | [] => rfl
  | p :: r => by
    have ih := valV_map k j y r
    rw [List.map_cons]
    by_cases h : p.1 = k
    · rw [if_pos h]
      by_cases e : p.1 = j
      · rw [valV_pos (p := (p.1, y)) e, valV_pos e, Option.map_some, if_pos (e.symm.trans h)]
      · rw [valV_neg (p := (p.1, y)) e, valV_neg e, ih]
    · rw [if_neg h]
      by_cases e : p.1 = j
      · rw [valV_pos (p := p) e, valV_pos e, Option.map_some, if_neg (fun z => h (e.trans z))]
      · rw [valV_neg (p := p) e, valV_neg e, ih]
theorem valV_snoc (k j : κ) (y : V) : ∀ kvs : List (κ × V), valV kvs k = none → valV (kvs ++ [(k, y)]) j = if j = k then some y else valV kvs j
  | [], _ => by
    by_cases e : k = j
    · rw [if_pos e.symm]; exact valV_pos (p := (k, y)) e
    · rw [if_neg (fun z => e z.symm)]; exact valV_neg (p := (k, y)) e
  | p :: r, hn => by
    rw [List.cons_append]
    have hk : ¬ p.1 = k := fun z => by rw [valV_pos z] at hn; cases hn
    rw [valV_neg hk] at hn
    have ih := valV_snoc k j y r hn
    by_cases e : p.1 = j
    · rw [valV_pos e, valV_pos e, if_neg (fun z => hk (e.trans z))]
    · rw [valV_neg e, valV_neg e, ih]
theorem valV_put (kvs : List (κ × V)) (k j : κ) (y : V) : valV (putK kvs k y) j = if j = k then some y else valV kvs j := by
  unfold putK
  by_cases a : (kvs.any fun kv => decide (kv.1 = k)) = true
  · rw [if_pos a, valV_map]
    rw [valV_any] at a
    by_cases e : j = k
    · obtain ⟨x, hx⟩ := Option.isSome_iff_exists.mp a
      rw [if_pos e, e, hx, Option.map_some, if_pos rfl]
    · rw [if_neg e]
      cases valV kvs j with
      | none => rfl
      | some x => rw [Option.map_some, if_neg e]
  · rw [if_neg a]
    refine valV_snoc k j y kvs ?_
    rw [valV_any] at a
    cases q : valV kvs k with
    | none => rfl
    | some x => rw [q] at a; exact (a rfl).elim
theorem length_putK (kvs : List (κ × V)) (k : κ) (v : V) : (putK kvs k v).length ≤ kvs.length + 1 := by
  unfold putK
  split
  · rw [List.length_map]; omega
  · rw [List.length_append, List.length_cons, List.length_nil]; omega
theorem RelO.isSome_eq {o : Option V} {u : Option Value} (r : RelO o u) : o.isSome = u.isSome := by
  cases o with
  | none => cases u with
    | none => rfl
    | some _ => exact (show False from r).elim
  | some _ => cases u with
    | none => exact (show False from r).elim
    | some _ => rfl
theorem RelO.getD {o : Option V} {u : Option Value} {d : V} {d' : Value} (r : RelO o u) (rd : RelV d d') : RelV (o.getD d) (u.getD d') := by
  cases o with
  | none => cases u with
    | none => exact rd
    | some _ => exact (show False from r).elim
  | some _ => cases u with
    | none => exact (show False from r).elim
    | some _ => exact r

/-- raw tables of the same keys -/
theorem KV.val {kvs : List (κ × V)} {vs : List (κ × Value)} (r : KV kvs vs) (k : κ) : RelO (valV kvs k) (valueAt vs k) := by
  unfold KV at r
  induction r with
  | nil => exact True.intro
  | @cons p q ps qs h t ih =>
    obtain ⟨h1, h2⟩ := h
    by_cases e : p.1 = k
    · have e' : q.1 = k := h1.symm.trans e
      have b : valueAt (q :: qs) k = some q.2 := by simp [valueAt, List.find?_cons, e']
      rw [valV_pos e, b]; exact h2
    · have e' : ¬ q.1 = k := fun z => e (h1.trans z)
      have b : valueAt (q :: qs) k = valueAt qs k := by simp [valueAt, List.find?_cons, e']
      rw [valV_neg e, b]; exact ih
theorem KV.any {kvs : List (κ × V)} {vs : List (κ × Value)} (r : KV kvs vs) (k : κ) : (kvs.any fun kv => decide (kv.1 = k)) = vs.any fun kv => decide (kv.1 = k) := by
  unfold KV at r
  induction r with
  | nil => rfl
  | cons h t ih => rw [List.any_cons, List.any_cons, ih, h.1]
theorem KV.repl {kvs : List (κ × V)} {vs : List (κ × Value)} (r : KV kvs vs) (k : κ) {y : V} {u : Value} (ry : RelV y u) :
    KV (kvs.map fun kv => if kv.1 = k then (kv.1, y) else kv) (vs.map fun kv => if kv.1 = k then (kv.1, u) else kv) := by
  unfold KV at r ⊢
  induction r with
  | nil => exact .nil
  | @cons p q ps qs h t ih =>
    rw [List.map_cons, List.map_cons]
    refine .cons ?_ ih
    obtain ⟨h1, h2⟩ := h
    by_cases e : p.1 = k
    · rw [if_pos e, if_pos (h1.symm.trans e)]; exact ⟨h1, ry⟩
    · rw [if_neg e, if_neg (fun z => e (h1.trans z))]; exact ⟨h1, h2⟩
theorem KV.put {kvs : List (κ × V)} {vs : List (κ × Value)} (r : KV kvs vs) (k : κ) {y : V} {u : Value} (ry : RelV y u) : KV (putK kvs k y) (stored vs k u) := by
  unfold putK stored
  rw [r.any k]
  by_cases e : (vs.any fun kv => decide (kv.1 = k)) = true
  · rw [if_pos e, if_pos e]; exact r.repl k ry
  · rw [if_neg e, if_neg e]; exact Paired.snoc r ⟨rfl, ry⟩
theorem KV.drop {kvs : List (κ × V)} {vs : List (κ × Value)} (r : KV kvs vs) (k : κ) : KV (dropK kvs k) (without vs k) := by
  unfold KV at r ⊢
  unfold dropK without
  induction r with
  | nil => exact .nil
  | @cons p q ps qs h t ih =>
    obtain ⟨h1, h2⟩ := h
    rw [List.filter_cons, List.filter_cons]
    by_cases e : p.1 = k
    · have a : ¬ decide (p.1 ≠ k) = true := by simp [e]
      have b : ¬ decide (q.1 ≠ k) = true := by simp [h1.symm.trans e]
      rw [if_neg a, if_neg b]; exact ih
    · have e' : ¬ q.1 = k := fun z => e (h1.trans z)
      have a : decide (p.1 ≠ k) = true := by simp [e]
      have b : decide (q.1 ≠ k) = true := by simp [e']
      rw [if_pos a, if_pos b]; exact .cons ⟨h1, h2⟩ ih
theorem KV.keys {kvs : List (κ × V)} {vs : List (κ × Value)} (r : KV kvs vs) : kvs.map (·.1) = vs.map (·.1) := by
  unfold KV at r
  induction r with
  | nil => rfl
  | cons h t ih => rw [List.map_cons, List.map_cons, ih, h.1]
theorem KV.length {kvs : List (κ × V)} {vs : List (κ × Value)} (r : KV kvs vs) : kvs.length = vs.length := Paired.length r
theorem dropK_le (kvs : List (κ × V)) (k : κ) : (dropK kvs k).length ≤ kvs.length := List.length_filter_le _ _
end


theorem kV_is {P : Program} {w : World} {k : Key} {u : Value} (r : RelV (kV k) u) : (mixKind P w).is k u = true := by
  cases k with
  | inl i => have e := (show u = Value.bool i from r); subst e; exact mixKind_bool P w i
  | inr x => obtain ⟨t, e⟩ := (show ∃ t, u = Value.str x t from r); subst e; exact mixKind_str P w x t
theorem items_are {P : Program} {w : World} : ∀ {ks : List Key} {us : List Value}, Vals (ks.map kV) us → ItemsAre (mixKind P w) ks us
  | [], _, r => by rw [List.map_nil] at r; cases r; exact .nil
  | k :: ks, _, r => by
    rw [List.map_cons] at r
    cases r with
    | cons h t => exact .cons (kV_is h) (items_are t)

/-- raw entries of a dict with tuple keys -/
abbrev KT (H : Hp) : List (List Key × V) → List (List Key × Addr × Value) → Prop := Paired fun p q => p.1 = q.1 ∧ H q.2.1 = some (.tup (p.1.map kV)) ∧ RelV p.2 q.2.2
theorem KT.val {H : Hp} {kvs : List (List Key × V)} {xs : List (List Key × Addr × Value)} (r : KT H kvs xs) (k : List Key) : RelO (valV kvs k) ((atKey xs k).map (·.2)) := by
  induction r with
  | nil => exact True.intro
  | @cons p q ps qs h t ih =>
    obtain ⟨h1, _, h2⟩ := h
    by_cases e : p.1 = k
    · have e' : q.1 = k := h1.symm.trans e
      have b : atKey (q :: qs) k = some q.2 := by simp [atKey, List.find?_cons, e']
      rw [valV_pos e, b]; exact h2
    · have e' : ¬ q.1 = k := fun z => e (h1.trans z)
      have b : atKey (q :: qs) k = atKey qs k := by simp [atKey, List.find?_cons, e']
      rw [valV_neg e, b]; exact ih
theorem KT.repl {H : Hp} {kvs : List (List Key × V)} {xs : List (List Key × Addr × Value)} (r : KT H kvs xs) (k : List Key) {y : V} {u : Value} (ry : RelV y u) :
    KT H (kvs.map fun kv => if kv.1 = k then (kv.1, y) else kv) (xs.map (putAt k u)) := by
  induction r with
  | nil => exact .nil
  | @cons p q ps qs h t ih =>
    rw [List.map_cons, List.map_cons]
    refine .cons ?_ ih
    obtain ⟨h1, h2, h3⟩ := h
    unfold putAt
    by_cases e : p.1 = k
    · rw [if_pos e, if_pos (h1.symm.trans e)]; exact ⟨h1, h2, ry⟩
    · rw [if_neg e, if_neg (fun z => e (h1.trans z))]; exact ⟨h1, h2, h3⟩
theorem KT.put {H : Hp} {kvs : List (List Key × V)} {xs : List (List Key × Addr × Value)} (r : KT H kvs xs) (k : List Key) {b : Addr} {y : V} {u : Value} (hb : H b = some (.tup (k.map kV))) (ry : RelV y u) :
    KT H (putK kvs k y) (storedH xs k b u) := by
  have e : (kvs.any fun kv => decide (kv.1 = k)) = (atKey xs k).isSome := by
    rw [valV_any, (r.val k).isSome_eq, Option.isSome_map]
  unfold putK storedH
  rw [e]
  by_cases q : (atKey xs k).isSome = true
  · rw [if_pos q, if_pos q]; exact r.repl k ry
  · rw [if_neg q, if_neg q]; exact Paired.snoc r ⟨rfl, hb, ry⟩
theorem KT.keeps {H H' : Hp} {kvs : List (List Key × V)} {xs : List (List Key × Addr × Value)} (r : KT H kvs xs) (ht : ∀ b ys, H b = some (.tup ys) → H' b = some (.tup ys)) : KT H' kvs xs :=
  Paired.mapP r fun _ _ z => ⟨z.1, ht _ _ z.2.1, z.2.2⟩

section
variable {P : Program} {w : World} {H : Hp} {h : Heap} {a : Addr}
theorem y68y {u : HO} (ok : HOk P w H h) (e : Rd H a u) : ObjOk P w H h a u := e.ok ok
theorem dk_rd {kvs : List (Key × V)} (ok : HOk P w H h) (e : Rd H a (.dK kvs)) : kvs.length ≤ sizeLine ∧ (a == sysModules) = false ∧ ∃ vs, KV kvs vs ∧ h.DictOf (mixKind P w) a vs :=
  show ObjOk P w H h a (.dK kvs) from y68y ok e
theorem dk_of {kvs : List (Key × V)} (ok : HOk P w H h) (e : H a = some (.dK kvs)) : kvs.length ≤ sizeLine ∧ (a == sysModules) = false ∧ ∃ vs, KV kvs vs ∧ h.DictOf (mixKind P w) a vs := dk_rd ok (.inl e)
/-- a tracked tuple of ints and texts is a key -/
theorem key_of {ks : List Key} (ok : HOk P w H h) (e : H a = some (.tup (ks.map kV))) : (tupleKind (mixKind P w)).is h ks a := by
  obtain ⟨_, its, r, o, h1, h2, n, h3⟩ := (show ObjOk P w H h a (.tup (ks.map kV)) from ok a _ e)
  exact ⟨o, its.toArray, n, h1, h2, h3, by simpa using items_are r⟩
theorem dt_rd {kvs : List (List Key × V)} (ok : HOk P w H h) (e : Rd H a (.dT kvs)) : kvs.length ≤ sizeLine ∧ (a == sysModules) = false ∧
    ∃ xs, KT H kvs xs ∧ h.DictOfH (tupleKind (mixKind P w)) a xs := by
  obtain ⟨z, y, xs, r, o, es, ep, h1, h2, h3, h4, h5⟩ := (show ObjOk P w H h a (.dT kvs) from y68y ok e)
  refine ⟨z, y, xs, r, o, es, ep, h1, h2, h3, h4, fun x hx => ?_, h5⟩
  have all : ∀ {l : List (List Key × V)} {m : List (List Key × Addr × Value)}, KT H l m → ∀ x ∈ m, (tupleKind (mixKind P w)).is h x.1 x.2.1 := by
    intro l m q
    induction q with
    | nil => intro x hx; exact nomatch hx
    | @cons p q ps qs hq t ih =>
      intro x hx
      rcases List.mem_cons.mp hx with e | hx
      · subst e
        exact key_of ok (by rw [← hq.1]; exact hq.2.1)
      · exact ih x hx
  exact all r x hx
theorem dt_of {kvs : List (List Key × V)} (ok : HOk P w H h) (e : H a = some (.dT kvs)) : kvs.length ≤ sizeLine ∧ (a == sysModules) = false ∧
    ∃ xs, KT H kvs xs ∧ h.DictOfH (tupleKind (mixKind P w)) a xs := dt_rd ok (.inl e)
end

/-- what the dict at a holds at the key y -/
def DGet (H : Hp) (a : Addr) (y : V) (r : Option V) : Prop :=
  (∃ kvs k, Rd H a (.dK kvs) ∧ y = kV k ∧ r = valV kvs k) ∨ ∃ kvs k b, Rd H a (.dT kvs) ∧ y = .ref b ∧ H b = some (.tup (k.map kV)) ∧ r = valV kvs k
/-- the heap behind a[y] = v -/
def DPut (H : Hp) (a : Addr) (y v : V) (H' : Hp) : Prop :=
  (∃ kvs k, H a = some (.dK kvs) ∧ y = kV k ∧ kvs.length < sizeLine ∧ H' = upd H a (.dK (putK kvs k v))) ∨
  ∃ kvs k b, H a = some (.dT kvs) ∧ y = .ref b ∧ H b = some (.tup (k.map kV)) ∧ kvs.length < sizeLine ∧ H' = upd H a (.dT (putK kvs k v))
theorem DGet.k {H : Hp} {a : Addr} {kvs : List (Key × V)} {k : Key} (e : H a = some (.dK kvs)) : DGet H a (kV k) (valV kvs k) := .inl ⟨kvs, k, .inl e, rfl, rfl⟩
theorem DGet.t {H : Hp} {a b : Addr} {kvs : List (List Key × V)} {k : List Key} (e : H a = some (.dT kvs)) (eb : H b = some (.tup (k.map kV))) : DGet H a (.ref b) (valV kvs k) := .inr ⟨kvs, k, b, .inl e, rfl, eb, rfl⟩
theorem DPut.k {H : Hp} {a : Addr} {kvs : List (Key × V)} {k : Key} {v : V} (e : H a = some (.dK kvs)) (hl : kvs.length < sizeLine) : DPut H a (kV k) v (upd H a (.dK (putK kvs k v))) := .inl ⟨kvs, k, e, rfl, hl, rfl⟩
theorem DPut.t {H : Hp} {a b : Addr} {kvs : List (List Key × V)} {k : List Key} {v : V} (e : H a = some (.dT kvs)) (eb : H b = some (.tup (k.map kV))) (hl : kvs.length < sizeLine) :
    DPut H a (.ref b) v (upd H a (.dT (putK kvs k v))) := .inr ⟨kvs, k, b, e, rfl, eb, hl, rfl⟩


section
variable {X : Cx} {pins : List (Addr × Obj)} {σ : St} {H : Hp} {s : Shared} {a : Addr} {y v : V} {u r : Value} {o : Option V} {A : Around} {E : Value → Shared → Prop}

theorem Inv.big (I : Inv X pins σ H s) : sysModules < s.heap.objs.size := by
  have h : mainGlobals < s.heap.objs.size := (I.mod.glob.keeps I.bk).lt
  exact Nat.lt_trans (by decide) h

/-- y in d -/
theorem d_in {Q : Value → Shared → Prop} (hu : A.units + 1 < cLine) (I : Inv X pins σ H s) (g : DGet H a y o) (ry : RelV y u) (h : ∀ s', Inv X pins σ H s' → Q (.bool o.isSome) s') :
    wpAny (model X.prog X.w) A (compareOp .In u (.ref a)) Q E s := by
  rcases g with ⟨kvs, k, e, ey, l⟩ | ⟨kvs, k, b, e, ey, eb, l⟩
  · subst ey
    obtain ⟨z, hd, vs, rel, dd⟩ := dk_rd I.hok e
    refine wpAny_in_of (kV_is ry) hd dd.mapOf ?_
    rw [← (rel.val k).isSome_eq, ← l]
    exact h _ (I.tok _)
  · subst ey
    cases (show u = Value.ref b from ry)
    obtain ⟨z, hd, xs, rel, dd⟩ := dt_rd I.hok e
    refine wpAny_in_heap (tupleKind_room_in1 hu) (key_of I.hok eb) hd dd ?_
    have q := (rel.val k).isSome_eq
    rw [Option.isSome_map] at q
    rw [← q, ← l]
    exact h _ (I.tok _)
theorem d_notIn {Q : Value → Shared → Prop} (hu : A.units + 1 < cLine) (I : Inv X pins σ H s) (g : DGet H a y o) (ry : RelV y u) (h : ∀ s', Inv X pins σ H s' → Q (.bool (!o.isSome)) s') :
    wpAny (model X.prog X.w) A (compareOp .NotIn u (.ref a)) Q E s := by
  rcases g with ⟨kvs, k, e, ey, l⟩ | ⟨kvs, k, b, e, ey, eb, l⟩
  · subst ey
    obtain ⟨z, hd, vs, rel, dd⟩ := dk_rd I.hok e
    refine wpAny_notIn_of (kV_is ry) hd dd.mapOf ?_
    rw [← (rel.val k).isSome_eq, ← l]
    exact h _ (I.tok _)
  · subst ey
    cases (show u = Value.ref b from ry)
    obtain ⟨z, hd, xs, rel, dd⟩ := dt_rd I.hok e
    refine wpAny_notIn_heap (tupleKind_room_in1 hu) (key_of I.hok eb) hd dd ?_
    have q := (rel.val k).isSome_eq
    rw [Option.isSome_map] at q
    rw [← q, ← l]
    exact h _ (I.tok _)
/-- a dict's object is replaced -/
theorem d_write {h' : Heap} {t' : Nat} {ob : HO} (I : Inv X pins σ H s) (mu : Mut (H a)) (hs : Heap.SameBut a s.heap h') (he : ∃ q, h'.get? a = some q) (new : ObjOk X.prog X.w (upd H a ob) h' a ob) :
    Inv X pins σ (upd H a ob) { s with heap := h', toks := t' } :=
  I.write (x := a) (e := a) mu (.inl rfl) (fun b q hb z => (hs.2 b hb).trans z) he new
theorem dk_new {P : Program} {w : World} {H' : Hp} {h' : Heap} {kvs : List (Key × V)} {vs : List (Key × Value)} (z : kvs.length ≤ sizeLine) (hd : (a == sysModules) = false) (rel : KV kvs vs) (dd : h'.DictOf (mixKind P w) a vs) :
    ObjOk P w H' h' a (.dK kvs) := ⟨z, hd, vs, rel, dd⟩
/-- d[y] = v -/
theorem d_setItem {H' : Hp} {Q : Unit → Shared → Prop} (hu : A.units + 1 < cLine) (I : Inv X pins σ H s) (g : DPut H a y v H') (ry : RelV y u) (rv : RelV v r) (h : ∀ s', Inv X pins σ H' s' → Q () s') :
    wpAny (model X.prog X.w) A (setItem (.ref a) u r) Q E s := by
  rcases g with ⟨kvs, k, e, ey, l, eH⟩ | ⟨kvs, k, b, e, ey, eb, l, eH⟩
  · subst ey eH
    obtain ⟨z, hd, vs, rel, dd⟩ := dk_of I.hok e
    have hz : vs.length ≤ sizeLine := by rw [← rel.length]; exact z
    have hl : (putK kvs k v).length ≤ sizeLine := by have := length_putK kvs k v; omega
    refine wpAny_setItem_pairs (hsz := hz) (kV_is ry) dd fun h' dd' hs => h _ ?_
    have he : ∃ q, h'.get? a = some q := let ⟨q, _, _, hq, _⟩ := dd'; ⟨q, hq⟩
    exact d_write I (by rw [e]; exact True.intro) hs he (dk_new hl hd (rel.put k rv) dd')
  · subst ey eH
    cases (show u = Value.ref b from ry)
    obtain ⟨z, hd, xs, rel, dd⟩ := dt_of I.hok e
    have hz : xs.length ≤ sizeLine := by rw [← Paired.length rel]; exact z
    have hl : (putK kvs k v).length ≤ sizeLine := by have := length_putK kvs k v; omega
    refine wpAny_setItem_heap (hsz := hz) (tupleKind_room_in1 hu) (key_of I.hok eb) dd fun h' dd' hs => h _ ?_
    obtain ⟨q, es, ep, hq, h2, h3, h4, _, h5⟩ := dd'
    refine d_write I (by rw [e]; exact True.intro) hs ⟨q, hq⟩ ⟨hl, hd, _, (rel.put k eb rv).keeps fun c ys ec => ?_, q, es, ep, hq, h2, h3, h4, h5⟩
    rw [upd_ne (ne_of ec e (fun z => nomatch z))]
    exact ec
end

section
variable {X : Cx} {pins : List (Addr × Obj)} {σ : St} {H : Hp} {s : Shared} {a : Addr} {kvs : List (Key × V)} {k : Key} {u : Value} {A : Around} {E : Value → Shared → Prop}
/-- d.pop(k[, x]), there -/
theorem d_pop {v : V} {more : List Value} {Q : Value → Shared → Prop} (I : Inv X pins σ H s) (e : H a = some (.dK kvs)) (ry : RelV (kV k) u) (l : valV kvs k = some v) (hm : more = [] ∨ ∃ x, more = [x])
    (h : ∀ w' s', Inv X pins σ (upd H a (.dK (dropK kvs k))) s' → RelV v w' → Q w' s') : wpAny (model X.prog X.w) A (call (.builtin "dict.pop") (.ref a :: u :: more)) Q E s := by
  obtain ⟨z, hd, vs, rel, dd⟩ := dk_of I.hok e
  obtain ⟨w', hw, rw'⟩ := RelO.some_of (v := v) (o := valueAt vs k) (by rw [← l]; exact rel.val k)
  have hp : (keyPart u).isSome = true := by
    cases k with
    | inl i => have q := (show u = Value.bool i from ry); subst q; cases i <;> rfl
    | inr x => obtain ⟨t, q⟩ := (show ∃ t, u = Value.str x t from ry); subst q; rfl
  have ha : argsOk "dict.pop" ⟨.ref a :: u :: more, []⟩ := by
    rcases hm with q | ⟨x, q⟩
    · subst q; exact PySem.F.args_dict_pop_2 _ _
    · subst q; exact PySem.F.args_dict_pop_3 _ _ _
  refine call_meetsIn PySem.F.slot_dict_pop dd.typeIs PySem.F.entry_dict_pop ha (meets_dict_pop_there (mixKind X.prog X.w) a (kV_is ry) more hm hp)
    ⟨vs, w', dd, by rw [← rel.length]; exact z, hw, fun h' dd' hs => h w' _ ?_ rw'⟩
  have he : ∃ q, h'.get? a = some q := let ⟨q, _, _, hq, _⟩ := dd'; ⟨q, hq⟩
  exact d_write I (by rw [e]; exact True.intro) hs he (dk_new (Nat.le_trans (dropK_le kvs k) z) hd (rel.drop k) dd')
end


/-- d[y] -/
def tDGet (td ty : TE) : TE := fun σ H Q => td σ H fun x H1 => ty σ H1 fun y H2 => ∃ a v, x = .ref a ∧ DGet H2 a y (some v) ∧ Q v H2
/-- y in d, y not in d -/
def tDIn (ty td : TE) : TE := fun σ H Q => ty σ H fun y H1 => td σ H1 fun x H2 => ∃ a o, x = .ref a ∧ DGet H2 a y o ∧ Q (.bl o.isSome) H2
def tDNotIn (ty td : TE) : TE := fun σ H Q => ty σ H fun y H1 => td σ H1 fun x H2 => ∃ a o, x = .ref a ∧ DGet H2 a y o ∧ Q (.bl (!o.isSome)) H2
/-- d[y] = v -/
def sDPut (td ty tv : TE) : TS := fun D σ H => tv σ H fun v H1 => td σ H1 fun x H2 => ty σ H2 fun y H3 => ∃ a H4, x = .ref a ∧ DPut H3 a y v H4 ∧ D.nx σ H4
section
variable {X : Cx} {o i e value : Expr} {pos pos' tpos : Pos} {td ty tv : TE}
theorem pc_din (hu : X.A.units + 1 < cLine) (hi : PE X i ty) (ho : PE X o td) : PC X .In i o (tDIn ty td) := by
  intro pins s σ H Q I h
  refine thn (hi pins s σ H _ I h) fun iv s1 ⟨y, H1, I1, ry, q1⟩ => thn (ho pins s1 σ H1 _ I1 q1) fun u s2 ⟨x, H2, I2, rx, a, ov, ex, g, q2⟩ => ?_
  subst ex
  obtain rfl : u = Value.ref a := rx
  exact d_in hu I2 g ry fun s3 I3 => ⟨.bl ov.isSome, H2, I3, rfl, q2⟩
theorem pc_dnotin (hu : X.A.units + 1 < cLine) (hi : PE X i ty) (ho : PE X o td) : PC X .NotIn i o (tDNotIn ty td) := by
  intro pins s σ H Q I h
  refine thn (hi pins s σ H _ I h) fun iv s1 ⟨y, H1, I1, ry, q1⟩ => thn (ho pins s1 σ H1 _ I1 q1) fun u s2 ⟨x, H2, I2, rx, a, ov, ex, g, q2⟩ => ?_
  subst ex
  obtain rfl : u = Value.ref a := rx
  exact d_notIn hu I2 g ry fun s3 I3 => ⟨.bl (!ov.isSome), H2, I3, rfl, q2⟩
theorem ps_dput (hu : X.A.units + 1 < cLine) (ho : PE X o td) (hi : PE X i ty) (hv : PE X value tv) (hs : swapsWith value (some (.Subscript o i pos')) pos.line X.env = pure false) :
    PS X (.Assign [.Subscript o i pos'] value pos) (sDPut td ty tv) := by
  intro pins s σ H D I h
  refine wpAny_Assign_Subscript (thn (hv pins s σ H _ I h) fun r s1 ⟨v, H1, I1, rv, q1⟩ => thn (ho pins s1 σ H1 _ I1 q1) fun u s2 ⟨x, H2, I2, rx, q2⟩ => thn (hi pins s2 σ H2 _ I2 q2) fun iv s3 ⟨y, H3, I3, ry, a, H4, ex, g, q3⟩ => ?_) hs
  subst ex
  obtain rfl : u = Value.ref a := rx
  exact d_setItem hu I3 g ry rv fun s4 I4 => ⟨σ, H4, I4, q3⟩
end


theorem dk_empty {P : Program} {w : World} {H : Hp} (h : Heap) (hb : sysModules < h.objs.size) : ObjOk P w H (h.push { cls := .type "dict", data := .dict #[] }) h.objs.size (.dK []) :=
  ⟨Nat.zero_le _, beq_eq_false_iff_ne.mpr (Ne.symm (Nat.ne_of_lt hb)), [], .nil, Heap.DictOf.new h⟩
/-- {}, to be a dict of the kind that is wanted -/
def tDNewK : TE := fun _ H Q => ∀ p, H p = none → Q (.ref p) (upd H p (.dK []))
def tDNewT : TE := fun _ H Q => ∀ p, H p = none → Q (.ref p) (upd H p (.dT []))
section
variable {X : Cx} {pos : Pos}
theorem pe_dnewK : PE X (.Dict [] [] pos) tDNewK := fun pins s σ H Q I h =>
  wpAny_Dict_empty ⟨.ref s.heap.objs.size, _, I.laid (a := s.heap.objs.size) (o := .dK []) (t' := s.toks) (fun _ _ q => Heap.get?_push_of_some _ q) (Nat.le_refl _) (dk_empty s.heap I.big), rfl, h _ (I.hok.fresh (Nat.le_refl _))⟩
end

/-- a method call o.m(e) of a built-in, with one argument: what must be seen of the text -/
structure M1 (X : Cx) (o : Expr) (m : Str) (apos : Pos) (e : Expr) (cpos : Pos) : Prop where
  base : attributeBase o m X.env (eval o X.env) = eval o X.env
  few : ((backTo cpos (starEach [e] X.env)).all (fun x => !x.1) && (backToKw cpos (keywordEach [] X.env)).all (fun x => x.1.isSome)
    && decide (([e] : List Expr).length + ([] : List Keyword).length + (if ([] : List Keyword).isEmpty then 0 else 1) < 30)) = true
  line : (apos.endLine == cpos.line) = true
  trees : backTo cpos (starEach [e] X.env) = [(false, eval e X.env)]
/-- a is a dict, whatever its keys -/
def IsD (H : Hp) (a : Addr) : Prop := (∃ kvs, Rd H a (.dK kvs)) ∨ ∃ kvs, Rd H a (.dT kvs)
theorem isD_at {X : Cx} {pins : List (Addr × Obj)} {σ : St} {H : Hp} {s : Shared} {a : Addr} (I : Inv X pins σ H s) (d : IsD H a) :
    s.TypeIs (.ref a) "dict" ∧ (∀ b, Value.ref a = .ref b → ∃ ob, s.heap.get? b = some ob ∧ ob.dict = none) ∧ (a == sysModules) = false := by
  rcases d with ⟨kvs, e⟩ | ⟨kvs, e⟩
  · obtain ⟨_, hd, vs, _, dd⟩ := dk_rd I.hok e
    refine ⟨dd.typeIs, fun b q => ?_, hd⟩
    cases q
    obtain ⟨ob, _, _, h1, h2, _⟩ := dd
    exact ⟨ob, h1, h2.2.1⟩
  · obtain ⟨_, hd, xs, _, dd⟩ := dt_rd I.hok e
    refine ⟨dd.typeIs, fun b q => ?_, hd⟩
    cases q
    obtain ⟨ob, _, _, h1, h2, _⟩ := dd
    exact ⟨ob, h1, h2.2.1⟩

section
variable {X : Cx} {pins : List (Addr × Obj)} {σ : St} {H : Hp} {s : Shared} {a : Addr} {y d : V} {u r : Value} {o : Option V} {A : Around} {E : Value → Shared → Prop}
end

def tDGet1 (td ty : TE) : TE := fun σ H Q => td σ H fun x H1 => ∃ a, x = .ref a ∧ IsD H1 a ∧ ty σ H1 fun y H2 => ∃ o, DGet H2 a y o ∧ Q (o.getD .non) H2
/-- d.pop(k): there; d.pop(k, x): there or not -/
def tDPop1 (td ty : TE) : TE := fun σ H Q => td σ H fun x H1 => ∃ a, x = .ref a ∧ IsD H1 a ∧ ty σ H1 fun y H2 => ∃ kvs k v, H2 a = some (.dK kvs) ∧ y = kV k ∧ valV kvs k = some v ∧ Q v (upd H2 a (.dK (dropK kvs k)))
section
variable {X : Cx} {o e f : Expr} {apos cpos : Pos} {td ty tx : TE}
theorem pe_dpop1 (ho : PE X o td) (he : PE X e ty) (m : M1 X o "pop" apos e cpos) : PE X (.Call (.Attribute o "pop" apos) [e] [] cpos) (tDPop1 td ty) := by
  intro pins s σ H Q I h
  refine wpAny_Call_method m.base m.few m.line PySem.F.plainAttrs_dict PySem.F.slot_dict_pop PySem.F.type_dict_pop (thn (ho pins s σ H _ I h) fun u s1 ⟨x, H1, I1, rx, a, ex, d, q1⟩ => ?_)
  subst ex
  obtain rfl : u = Value.ref a := rx
  obtain ⟨t1, t2, _⟩ := isD_at I1 d
  refine ⟨t1, t2, ?_⟩
  rw [m.trees]
  refine Calls.callWith_builtin rfl (Calls.evalArgs_plain (Calls.spliced_cons (thn (he pins s1 σ H1 _ I1 q1) fun iv s2 ⟨y, H2, I2, ry, kvs, k, v, ea, ey, l, q2⟩ => Calls.spliced_nil ?_)))
  subst ey
  exact d_pop I2 ea ry l (.inl rfl) fun w' s3 I3 rw' => ⟨v, _, I3, rw', q2⟩
end

section
variable {X : Cx} {pins : List (Addr × Obj)} {σ : St} {H : Hp} {s : Shared} {a : Addr} {kvs : List (Key × V)} {A : Around} {E : Value → Shared → Prop}
end


section
variable {X : Cx} {pins : List (Addr × Obj)} {σ : St} {H : Hp} {s : Shared} {a : Addr} {y : V} {u : Value} {A : Around} {E : Value → Shared → Prop}
end
end L2

namespace L2
open PySem PySem.Spec PyProof.Rows
section
variable {κ : Type} [DecidableEq κ]
end
end L2

set_option Elab.async false
set_option linter.all false
set_option maxRecDepth 100000
set_option maxHeartbeats 4000000

namespace L2
open PySem PySem.Spec PyProof.Rows

theorem ObjOk.is_there {P : Program} {w : World} {H : Hp} {h : Heap} {a : Addr} {o : HO} (x : ObjOk P w H h a o) : ∃ ob, h.get? a = some ob := by
  cases o with
  | lst xs => obtain ⟨_, _, _, _, e⟩ := x; exact ⟨_, e⟩
  | tup xs => obtain ⟨_, _, _, p⟩ := x; obtain ⟨o, e, _⟩ := p; exact ⟨_, e⟩
  | dK kvs => obtain ⟨_, _, _, _, o, _, _, e, _⟩ := x; exact ⟨_, e⟩
  | dT kvs => obtain ⟨_, _, _, _, o, _, _, e, _⟩ := x; exact ⟨_, e⟩
  | set S n =>
    obtain ⟨o, _, _, _, e, _⟩ := x
    exact ⟨_, e⟩
  | ins C dx fs => obtain ⟨_, _, _, e, _⟩ := x; exact ⟨_, e⟩
  | own y => exact x
  | xd fs => obtain ⟨mA, n, _⟩ := x; obtain ⟨od, e, _⟩ := lookIn_ns n; exact ⟨_, e⟩
  | rng lo hi => obtain ⟨_, _, _, e⟩ := x; exact ⟨_, e⟩
  | frz ob u => exact ⟨_, x.1⟩
  | tbl ps => exact ⟨_, x⟩
  | met f y => exact ⟨_, x⟩
  | ext φ => exact x.2.1
theorem HOk.isnone {P : Program} {w : World} {H : Hp} {h : Heap} {a : Addr} (x : HOk P w H h) (e : h.get? a = none) : H a = none := by
  cases q : H a with
  | none => rfl
  | some u =>
    obtain ⟨ob, z⟩ := (x a u q).is_there
    rw [e] at z
    cases z

/-- an exception in flight over the frames l: B holds all that was there ahead (h0) and all that is tracked -/
structure Fly (l : List Env) (H' : Hp) (h0 : Heap) (ea : Addr) (cls a0 : Value) (B h : Heap) : Prop where
  fly : Heap.FlyingW B l ea cls a0 h
  free : H' ea = none
  new : h0.get? ea = none
  kept : ∀ b o, h.get? b = some o → ((∃ o', h0.get? b = some o') ∨ ∃ u, H' b = some u) → b ∉ frs l → B.get? b = some o

/-- how an exception lies behind a call -/
def CX1 (P : Program) (w : World) : CXT := fun outer H s E e s' =>
  ∃ (ea : Addr) (cls a0 : Value) (B : Heap) (H' : Hp), e = .ref ea ∧ s'.os = s.os ∧ AllBare s'.gens ∧ Un (frs outer) [] H H' s.heap s'.heap ∧ HOk P w H' s'.heap ∧
    Fly outer H' s.heap ea cls a0 B s'.heap ∧ E cls none H'

section
variable {P : Program} {w : World} {l l' : List Env} {H H' : Hp} {h0 h h' B : Heap} {ea : Addr} {cls a0 : Value}
/-- the flight goes on: what matters is kept -/
theorem Fly.next (u : Un (frs l) [] H H' h0 h) (hok : HOk P w H' h) (F : Fly l H' h0 ea cls a0 B h) (fr : ∀ b ∈ frs l, H' b = none) (k : B.StaysIn h') (sl : h.UpToSlots h') :
    HOk P w H' h' ∧ Un (frs l) [] H H' h0 h' ∧ ∀ b o, h.get? b = some o → ((∃ o', h0.get? b = some o') ∨ ∃ u, H' b = some u) → b ∉ frs l → h'.get? b = some o := by
  have keepB : ∀ b o, h.get? b = some o → ((∃ o', h0.get? b = some o') ∨ ∃ u, H' b = some u) → b ∉ frs l → h'.get? b = some o := fun b o q r n => k b o (F.kept b o q r n)
  have frame : ∀ b o, b ∈ frs l → h.get? b = some o → ∃ s2, h'.get? b = some { o with slots := s2 } := fun b o m q => by
    obtain ⟨_, o', q', nf⟩ := F.fly.2.2.1.mem m
    rw [q] at q'
    cases q'
    exact sl b o q nf
  refine ⟨fun a o e => ?_, ⟨fun b o q n nb _ => ?_, fun b o q n m _ => ?_, u.free, fun b o q nx => ?_, u.tups, u.frzs, u.tbls⟩, keepB⟩
  · have tr : ∀ b u, H' b = some u → b ∉ frs l := fun b u q m => by
      rw [fr b m] at q
      cases q
    refine (hok a o e).stay (fun b v hb q => ?_) (fun _ r => r) (fun _ _ r => r)
    rcases hb with rfl | hb
    · exact keepB _ _ q (.inr ⟨_, e⟩) (tr _ _ e)
    · exact keepB _ _ q (.inr ⟨_, hb⟩) (tr _ _ hb)
  · exact keepB b o (u.keep b o q n nb (by simp)) (.inl ⟨o, q⟩) nb
  · obtain ⟨s1, e1⟩ := u.slot b o q n m (by simp)
    obtain ⟨s2, e2⟩ := frame b _ m e1
    exact ⟨s2, e2⟩
  · obtain ⟨o', e1⟩ := u.there b o q (by simp)
    by_cases m : b ∈ frs l
    · obtain ⟨s2, e2⟩ := frame b _ m e1
      exact ⟨_, e2⟩
    · exact ⟨o', keepB b o' e1 (.inl ⟨o, q⟩) m⟩
end

section
variable {X : Cx} {pins : List (Addr × Obj)} {σ : St} {H H' : Hp} {s : Shared} {h h' B : Heap} {ea : Addr} {cls a0 : Value}
/-- from this frame's state to the callers': the frame itself is new -/
theorem Inv.out (I : Inv X pins σ H s) (hex : X.ex = []) (u : Un (frs X.stack) [] H H' s.heap h') : Un X.fs [] X.H₀ H' X.s₀.heap h' := by
  have J := I.base
  rw [hex] at J
  have nL : ∀ b o, X.s₀.heap.get? b = some o → b ≠ X.env.locals := fun b o q z => by
    have h1 := Heap.lt_size q
    have h2 := I.ok.above
    rw [z] at h1
    exact absurd (Nat.lt_of_lt_of_le h1 h2) (Nat.lt_irrefl _)
  have nS : ∀ b o, X.s₀.heap.get? b = some o → b ∉ X.fs → b ∉ frs X.stack := fun b o q nb m => by
    rcases List.mem_cons.mp (I.stkSub b m) with z | z
    · exact nL b o q z
    · exact nb z
  refine ⟨fun b o q n nb _ => ?_, fun b o q n m _ => ?_, fun b o q n _ => ?_, fun b o q _ => ?_, fun b xs q => u.tups b xs (J.tups b xs q), fun b o v q => u.frzs b o v (J.frzs b o v q), fun b ps q => ?_⟩
  · exact u.keep b o (J.keep b o q n nb (by simp)) (J.free b o q n (by simp)) (nS b o q nb) (by simp)
  · obtain ⟨s1, e1⟩ := J.slot b o q n m (by simp)
    obtain ⟨s2, e2⟩ := u.any e1 (J.free b o q n (by simp)) (by simp)
    exact ⟨s2, e2⟩
  · obtain ⟨o', e1⟩ := J.there b o q (by simp)
    exact u.free b o' e1 (J.free b o q n (by simp)) (by simp)
  · obtain ⟨o', e1⟩ := J.there b o q (by simp)
    exact u.there b o' e1 (by simp)
  · obtain ⟨m1, e1⟩ := J.tbls b ps q
    obtain ⟨m2, e2⟩ := u.tbls b _ e1
    exact ⟨m1 ++ m2, by rw [e2, Array.append_assoc]⟩
theorem Inv.stkFree' (I : Inv X pins σ H s) (u : Un (frs X.stack) [] H H' s.heap h) : ∀ b ∈ frs X.stack, H' b = none := fun b m => by
  obtain ⟨_, o, q, _⟩ := I.stack.mem m
  exact u.free b o q (I.stkFree b m) (by simp)
end

section
variable {P : Program} {w : World} {K : PySem.W.Frag} {mg : Str → Option Value} {base : Heap} {N : List Str} {qual : Str} {scope : Scope} {f : Addr} {cdv : Value} {A : Around} {outer : List Env} {s0 : Shared} {H0 : Hp} {E : XK}
/-- an exception of a callee goes through this def -/
theorem pass1 : Passes (CX1 P w) (cxOf (CX1 P w) P w K mg base N qual scope f cdv A outer s0 H0 E) E := by
  intro pins σ H s e s' I hx
  obtain ⟨ea, cls, a0, B, H', rfl, hos, hg, u, hok, F, he⟩ := hx
  have fr := I.stkFree' u
  show wpAny (model P w) (A.deeper (envOfC qual scope s0.heap.objs.size f cdv)) (leaving (envOfC qual scope s0.heap.objs.size f cdv) (.ref ea)) (fun _ s'' => CX1 P w outer H0 s0 E (.ref ea) s'') (fun e' s'' => CX1 P w outer H0 s0 E e' s'') s'
  refine wpAny_leaves_onW (base := B) (cls := cls) (a0 := a0) I.ok.frames rfl F.fly fun h' hfl hup => ?_
  obtain ⟨hok', u', kB⟩ := F.next u hok fr hfl.1 hup
  have new0 : s0.heap.get? ea = none := by
    cases q : s0.heap.get? ea with
    | none => rfl
    | some o =>
      obtain ⟨o', e1⟩ := I.base.there ea o q (by intro z; cases z)
      have := F.new
      rw [e1] at this
      cases this
  refine ⟨ea, cls, a0, B, H', rfl, hos.trans I.os, hg, I.out rfl u', hok', ⟨hfl, F.free, new0, fun b o q r nb => ?_⟩, he⟩
  have nL : b ≠ s0.heap.objs.size := fun z => by
    rcases r with ⟨o', q'⟩ | ⟨v, q'⟩
    · have := Heap.lt_size q'
      rw [z] at this
      exact absurd this (Nat.lt_irrefl _)
    · have e0 := fr s0.heap.objs.size (by
        show s0.heap.objs.size ∈ frs (envOfC qual scope s0.heap.objs.size f cdv :: outer)
        exact List.mem_filterMap.mpr ⟨_, List.mem_cons_self .., rfl⟩)
      rw [z, e0] at q'
      cases q'
  have nS : b ∉ frs (envOfC qual scope s0.heap.objs.size f cdv :: outer) := fun m => by
    rcases List.mem_cons.mp (I.stkSub b m) with z | z
    · exact nL z
    · exact nb z
  have r' : (∃ o', s.heap.get? b = some o') ∨ ∃ v, H' b = some v := by
    rcases r with ⟨o', q'⟩ | r
    · exact .inl (I.base.there b o' q' (by intro z; cases z))
    · exact .inr r
  have there' : ∃ o', s'.heap.get? b = some o' := by
    rcases r' with ⟨o', q'⟩ | ⟨v, q'⟩
    · exact u.there b o' q' (by simp)
    · exact (hok b v q').is_there
  obtain ⟨o', q'⟩ := there'
  have z := F.kept b o' q' r' nS
  have z2 := hfl.1 b o' z
  rw [show h'.get? b = some o from q] at z2
  cases z2
  exact z
end
theorem passF {P : Program} {w : World} {X : Cx} : Passes (CX1 P w) X E0 := fun _ _ _ _ _ _ _ h => by
  obtain ⟨_, _, _, _, _, _, _, _, _, _, _, z⟩ := h
  exact False.elim z

theorem exc_obj {K : PySem.W.Frag} {h : Heap} {C : Addr} {bmB : List Value} {newId : String} (X : K.In h) (q : PySem.W.excIn K C bmB newId = true) :
    ∃ (bm : List Value) (N : Addr) (nm qn : Str) (bs : List Value) (hdct : Bool) (sn : List Str) (sub : List Value) (ab : Bool) (col : Option Bool) (dd : Option Addr) (k0 k1 k2 k3 k5 : Option Value) (mN : Str → Option Value),
      h.get? C = some (excClassObj nm qn C N bs bm hdct sn sub ab col dd k0 k1 k2 k3 k5 newId) ∧ h.Ns N mN ∧ mN "__init__" = none ∧ OwnTail h bmB bm := by
  unfold PySem.W.excIn at q
  split at q
  next dd cd sl ho =>
    split at q
    next C' bm k0 k1 k2 k3 n k5 hm hs =>
      have q' : ((((C' = C ∧ n = newId) ∧ cd.hasDel = false) ∧ PySem.W.tailIn K bmB bm = true) ∧ PySem.W.nsOkIn K cd.ns = true) ∧ PySem.W.nsIn K cd.ns "__init__" = some none := by simpa using q
      obtain ⟨⟨⟨⟨⟨e1, e2⟩, e3⟩, e4⟩, e5⟩, e6⟩ := q'
      obtain ⟨nm, bs, mro, ns, qn, hd, sn, sub, ab, col, del⟩ := cd
      have hl : sl = #[k0, k1, k2, k3, some (.builtin n), k5] := by
        cases sl
        exact congrArg Array.mk hs
      subst e1
      subst e2
      subst hl
      have hm' : mro = .ref C' :: bm := hm
      subst hm'
      have hd' : del = false := e3
      subst hd'
      exact ⟨bm, ns, nm, qn, bs, hd, sn, sub, ab, col, dd, k0, k1, k2, k3, k5, _, X _ _ ho, .of_isNs (PySem.W.isNs_of_in X e5), PySem.W.nsMap_none_of_in X e5 e6, PySem.W.tail_of_in X e4⟩
    next => cases q
  next => cases q

section
variable {P : Program} {w : World} {K : PySem.W.Frag} {mg : Str → Option Value} {base : Heap} {N : List Str} {qual : Str} {scope : Scope} {f : Addr} {cdv : Value} {A : Around} {outer : List Env} {s0 : Shared} {H0 : Hp} {E : XK}
/-- an exception that was just made leaves the def -/
theorem leave1 {pins : List (Addr × Obj)} {σ : St} {H : Hp} {s : Shared} {h' : Heap} {e : Addr} {cls : Value} {us : List Value}
    (I : Inv (cxOf (CX1 P w) P w K mg base N qual scope f cdv A outer s0 H0 E) pins σ H s) (hm : Heap.MadeExcOf s.heap h' e cls us) (q : E cls none H) :
    (cxOf (CX1 P w) P w K mg base N qual scope f cdv A outer s0 H0 E).xe (.ref e) { s with heap := h' } := by
  show wpAny (model P w) (A.deeper (envOfC qual scope s0.heap.objs.size f cdv)) (leaving (envOfC qual scope s0.heap.objs.size f cdv) (.ref e)) (fun _ s'' => CX1 P w outer H0 s0 E (.ref e) s'') (fun e' s'' => CX1 P w outer H0 s0 E e' s'') { s with heap := h' }
  have fr := I.stkFree
  have hin : ∀ env ∈ (envOfC qual scope s0.heap.objs.size f cdv :: outer), ∀ b, env.frame = some b → b ∈ frs (envOfC qual scope s0.heap.objs.size f cdv :: outer) := fun env he b hb => List.mem_filterMap.mpr ⟨env, he, hb⟩
  refine wpAny_leaves_madeW (base := PySem.W.hideAll s.heap (frs (envOfC qual scope s0.heap.objs.size f cdv :: outer))) (h := s.heap) (cls := cls) (args := us) I.ok.frames rfl (fun b o z => PySem.W.of_hideAll _ z) (PySem.W.funFrames_hide I.stack hin) hm fun h2 t hfl _ _ hup => ?_
  have enone : H e = none := I.hok.isnone hm.new
  have keepB : ∀ b o, s.heap.get? b = some o → b ∉ frs (envOfC qual scope s0.heap.objs.size f cdv :: outer) → h2.get? b = some o := fun b o z n => hfl.1 b o (PySem.W.hideAll_get _ z n)
  have u : Un (frs (envOfC qual scope s0.heap.objs.size f cdv :: outer)) [] H H s.heap h2 := by
    refine ⟨fun b o z _ n _ => keepB b o z n, fun b o z _ m _ => ?_, fun _ _ _ n _ => n, fun b o z _ => ?_, fun _ _ z => z, fun _ _ _ z => z, fun _ ps z => ⟨#[], by rw [z]; simp⟩⟩
    · obtain ⟨_, o', z', nf⟩ := I.stack.mem m
      rw [z] at z'
      cases z'
      exact hup b o (hm.keeps b o z) nf
    · by_cases m : b ∈ frs (envOfC qual scope s0.heap.objs.size f cdv :: outer)
      · obtain ⟨_, o', z', nf⟩ := I.stack.mem m
        rw [z] at z'
        cases z'
        obtain ⟨s2, e2⟩ := hup b o (hm.keeps b o z) nf
        exact ⟨_, e2⟩
      · exact ⟨o, keepB b o z m⟩
  have tr : ∀ b v, H b = some v → b ∉ frs (envOfC qual scope s0.heap.objs.size f cdv :: outer) := fun b v z m => by
    rw [fr b m] at z
    cases z
  have hok : HOk P w H h2 := fun a o z => by
    refine (I.hok a o z).stay (fun b v hb z2 => ?_) (fun _ r => r) (fun _ _ r => r)
    rcases hb with rfl | hb
    · exact keepB _ _ z2 (tr _ _ z)
    · exact keepB _ _ z2 (tr _ _ hb)
  have new0 : s0.heap.get? e = none := by
    cases z : s0.heap.get? e with
    | none => rfl
    | some o =>
      obtain ⟨o', e1⟩ := I.base.there e o z (by intro z; cases z)
      have := hm.new
      rw [e1] at this
      cases this
  refine ⟨e, cls, .ref t, _, H, rfl, I.os, I.bare, I.out rfl u, hok, ⟨hfl, enone, new0, fun b o z r nb => ?_⟩, q⟩
  have r' : ∃ o', s.heap.get? b = some o' := by
    rcases r with ⟨o', z'⟩ | ⟨v, z'⟩
    · exact I.base.there b o' z' (by intro z; cases z)
    · exact (I.hok b v z').is_there
  have nS : b ∉ frs (envOfC qual scope s0.heap.objs.size f cdv :: outer) := fun m => by
    rcases List.mem_cons.mp (I.stkSub b m) with y | y
    · rcases r with ⟨o', z'⟩ | ⟨v, z'⟩
      · have h1 := Heap.lt_size z'
        rw [y] at h1
        exact absurd h1 (Nat.lt_irrefl _)
      · exact tr b v z' m
    · exact nb y
  obtain ⟨o', z'⟩ := r'
  have z2 := keepB b o' z' nS
  rw [show h2.get? b = some o from z] at z2
  cases z2
  exact PySem.W.hideAll_get _ z' nS
/-- raise C(e, ..): C an own error class without an __init__ of its own -/
def tRaise (E : XK) (C : Addr) (ta : TA) : TS := fun _ σ H => ta σ H fun vs H1 => vs.length ≤ sizeLine ∧ E (.ref C) none H1
theorem ps_raise {x : Str} {np cpos pos : Pos} {e : Expr} {es : List Expr} {C : Addr} {B newId initId : String} {bmB : List Value} {ta : TA} (FB : ExcBaseFacts B newId initId bmB) (hx : PySem.W.excIn K C bmB newId = true)
    (hg : Gl (cxOf (CX1 P w) P w K mg base N qual scope f cdv A outer s0 H0 E) x) (hm : mg x = some (.ref C)) (ha : PA (cxOf (CX1 P w) P w K mg base N qual scope f cdv A outer s0 H0 E) (e :: es) ta)
    (he : starEach (e :: es) (envOfC qual scope s0.heap.objs.size f cdv) = (false, eval e (envOfC qual scope s0.heap.objs.size f cdv)) :: starEach es (envOfC qual scope s0.heap.objs.size f cdv) := by rfl)
    (hpl : (backTo cpos (starEach es (envOfC qual scope s0.heap.objs.size f cdv))).any (·.1) = false := by rfl) (hdb : (x == ("__debug__" : Str)) = false := by decide) :
    PS (cxOf (CX1 P w) P w K mg base N qual scope f cdv A outer s0 H0 E) (.Raise (some (.Call (.Name x np) (e :: es) [] cpos)) none pos) (tRaise E C ta) := by
  intro pins s σ H D I h
  obtain ⟨bm, N', nm, qn, bs, hdct, sn, sub, ab, col, dd, k0, k1, k2, k3, k5, mN, hC, hN, hni, T⟩ := exc_obj I.mod.kin hx
  have hh : (A.deeper (envOfC qual scope s0.heap.objs.size f cdv)).handled = none := I.ok.hd rfl
  refine wpAny_Raise_call_subT (C := C) (nm := nm) (q := qn) (N := N') (bs := bs) (bm := bm) (hdct := hdct) (sn := sn) (sub := sub) (ab := ab) (col := col) (dd := dd) (k0 := k0) (k1 := k1) (k2 := k2) (k3 := k3) (k5 := k5)
    FB (mN := mN) (T.hasType FB.hasBase) hh ?_ hni (ld_glob I hg hm ⟨rfl, ?_⟩ hdb)
  · show (backTo cpos (starEach (e :: es) (envOfC qual scope s0.heap.objs.size f cdv))).any (·.1) = false
    rw [he]
    show (false || (backTo cpos (starEach es (envOfC qual scope s0.heap.objs.size f cdv))).any (·.1)) = false
    rw [hpl]
    rfl
  · have z := ha cpos pins s σ H _ I h
    show wpAny _ _ (evalArgs (.ref C) true (backTo cpos (starEach (e :: es) (envOfC qual scope s0.heap.objs.size f cdv))) []) _ _ _
    have he' := he
    rw [he]
    refine Calls.evalArgs_plain ?_
    have z' : wpAny (model P w) (A.deeper (envOfC qual scope s0.heap.objs.size f cdv)) (spliced (backTo cpos (starEach (e :: es) (envOfC qual scope s0.heap.objs.size f cdv)))) _ _ s := z
    rw [he] at z'
    refine thn z' fun us s2 ⟨vs, H1, I1, r, hl, q⟩ => ?_
    exact ⟨rfl, by rw [← r.length]; exact hl, I1.bk _ _ hC, hN.keeps I1.bk, T.keeps I1.bk, fun h' e hm => leave1 I1 hm q⟩
end
end L2

set_option Elab.async false
set_option linter.all false
set_option maxRecDepth 100000
set_option maxHeartbeats 4000000

namespace L2
open PySem PySem.Spec PyProof.Rows

def PEx (X : Cx) (e : Expr) (t : St → Hp → VK → XK → Prop) : Prop :=
  ∀ (pins : List (Addr × Obj)) (s : Shared) (σ : St) (H : Hp) (Q : VK) (E : XK), Inv X pins σ H s → t σ H Q E →
    wpAny (model X.prog X.w) X.A (eval e X.env) (EP X pins σ Q) (fun ev s' => ∃ H1 s1, Inv X pins σ H1 s1 ∧ CX1 X.prog X.w X.stack H1 s1 E ev s') s
def xCall (sp : Sp) (dvs : List V) (t : TA) : St → Hp → VK → XK → Prop := fun σ H Q E => t σ H fun vs H1 => sp (vs ++ dvs) H1 Q E

section
variable {X : Cx} {k : Nat} {f C : Addr} {fd : FuncData} {ps : List Str} {sp : Sp} {dvs : List V} {ds : List Value} {E : XK} {x m : Str} {p pos apos : Pos} {e o : Expr} {es : List Expr} {ta : TE} {t : TA}
theorem run_fnx {pins : List (Addr × Obj)} {σ : St} {H : Hp} {s : Shared} {Q : VK} {us : List Value} {vs : List V} (F : FnOk X.prog X.w X.K X.mg X.base (CX1 X.prog X.w) k f fd ps sp) (hr : Room k X.A) (hb : Binds X.K fd ps ds) (hd : Vals dvs ds)
    (I : Inv X pins σ H s) (r : Vals vs us) (h : sp (vs ++ dvs) H Q E) : wpAny (model X.prog X.w) X.A (call (.ref f) us) (EP X pins σ Q) (fun ev s' => ∃ H1 s1, Inv X pins σ H1 s1 ∧ CX1 X.prog X.w X.stack H1 s1 E ev s') s := by
  have r2 : Vals (vs ++ dvs) (us ++ ds) := r.append hd
  have hl : (us ++ ds).length = ps.length := (r2.length.symm).trans (F.len _ _ _ _ h)
  have go := F.run X.A X.stack s H ⟨us, []⟩ (us ++ ds) (vs ++ dvs) Q E hr I.env0 (hb s us I.kIn hl) r2 h
  refine wpAny_call (codeAny_mono go fun res s' hq => ?_)
  match res, hq with
  | .error e, hq => exact ⟨H, s, I, hq⟩
  | .ok (.ret u), hq => exact I.after hq
  | .ok .next, hq => exact hq.elim
  | .ok .brk, hq => exact hq.elim
  | .ok .cont, hq => exact hq.elim
theorem pex_call (F : FnOk X.prog X.w X.K X.mg X.base (CX1 X.prog X.w) k f fd ps sp) (hr : Room k X.A) (hg : Gl X x) (hm : X.mg x = some (.ref f)) (hk : PySem.W.keepIn X.K (.ref f) = true) (hb : Binds X.K fd ps ds) (hd : Vals dvs ds)
    (ha : PA X.nox (e :: es) t) (hdb : (x == ("__debug__" : Str)) = false := by decide) (he : starEach (e :: es) X.env = (false, eval e X.env) :: starEach es X.env := by rfl) (hpl : (backTo pos (starEach es X.env)).any (·.1) = false := by rfl) :
    PEx X (.Call (.Name x p) (e :: es) [] pos) (xCall sp dvs t) := by
  intro pins s σ H Q E I h
  refine wpAny_Call_Name_kw (ld_glob I hg hm ?_ hdb)
  have z := ha pos pins s σ H _ (I.wish _) h
  refine PySem.W.callWith_K (h₀ := X.base) I.ok.mod.kin hk (wpAny_mono z (fun us s1 ⟨vs, H1, I1, r, q⟩ => ⟨I1.unwish.kIn, ?_⟩) fun _ _ y => y.elim) he hpl
  exact run_fnx F hr hb hd I1.unwish r q
end

section
variable {X : Cx} {pins : List (Addr × Obj)} {σ : St} {H H' : Hp} {s s' : Shared} {h' B : Heap} {ea : Addr} {cls a0 : Value}
/-- an untracked object of ours is tracked from here on -/
theorem Inv.track {a : Addr} {o : HO} (I : Inv X pins σ H s) (hn : H a = none) (h1 : X.s₀.heap.get? a = none) (h2 : a ≠ X.env.locals) (h3 : ∀ x c, X.env.cells.lookup x = some c → c ≠ a) (h4 : ∀ p ∈ X.pn ++ pins, p.1 ≠ a)
    (ok : ObjOk X.prog X.w (upd H a o) s.heap a o) : Inv X pins σ (upd H a o) s := by
  have ne : ∀ b u, H b = some u → b ≠ a := fun b u q => ne_of_none q hn
  refine ⟨I.ok, I.os, I.bare, ⟨I.base.keep, I.base.slot, fun b ob q n hx => ?_, I.base.there, fun b xs q => ?_, fun b ob u q => ?_, fun b ps q => ?_⟩, I.loc, I.cell, ?_, fun x c e => ?_, fun p hp => ?_, fun b u q => ?_, I.len⟩
  · have : b ≠ a := fun z => by rw [z, h1] at q; cases q
    rw [upd_ne this]
    exact I.base.free b ob q n hx
  · have z := I.base.tups b xs q
    rw [upd_ne (ne _ _ z)]
    exact z
  · have z := I.base.frzs b ob u q
    rw [upd_ne (ne _ _ z)]
    exact z
  · obtain ⟨mo, z⟩ := I.base.tbls b ps q
    exact ⟨mo, by rw [upd_ne (ne _ _ z)]; exact z⟩
  · rw [upd_ne (Ne.symm h2)]
    exact I.free
  · rw [upd_ne (h3 x c e)]
    exact I.freeC x c e
  · obtain ⟨e, n, r⟩ := I.pin p hp
    exact ⟨e, by rw [upd_ne (h4 p hp)]; exact n, r⟩
  · by_cases hb : b = a
    · subst hb
      rw [upd_same] at q
      cases q
      exact ok
    · rw [upd_ne hb] at q
      exact (I.hok b u q).stay (fun _ _ _ z => z) (fun c z => by rw [upd_ne (ne _ _ z)]; exact z) (fun c xs z => by rw [upd_ne (ne _ _ z)]; exact z)
/-- an exception of the class at C stands at e -/
def ExcO (e C : Addr) : HO := .ext fun h => ∃ ox vs, h.get? e = some ox ∧ ox.cls = .ref C ∧ ox.data = .fields vs
/-- the state when the flight has ended here -/
theorem Inv.landed {C : Addr} {sF : Shared} (I : Inv X pins σ H s) (hex : X.ex = []) (u : Un (frs X.stack) [] H H' s.heap s'.heap) (hok : HOk X.prog X.w H' s'.heap) (F : Fly X.stack H' s.heap ea (.ref C) a0 B s'.heap) (hos : s'.os = s.os) (hg : AllBare s'.gens)
    (hfl : Heap.FlyingW B X.stack ea (.ref C) a0 h') (hup : s'.heap.UpToSlots h') (hs : sF = { s' with heap := h' }) : Inv X pins σ (upd H' ea (ExcO ea C)) sF := by
  subst hs
  obtain ⟨hok', u', _⟩ := F.next u hok (I.stkFree' u) hfl.1 hup
  have I2 : Inv X pins σ H' { s' with heap := h' } := I.call' (s' := { s' with heap := h' }) hos u' hok' hg (fun b z => absurd z (by simp))
  have there : ∀ b o, s.heap.get? b = some o → b ≠ ea := fun b o q z => by
    have := F.new
    rw [← z, q] at this
    cases this
  obtain ⟨m, hn, _⟩ := I.loc
  obtain ⟨oL, _, _, hoL, _⟩ := hn
  refine I2.track F.free ?_ (Ne.symm (there _ _ hoL)) (fun x c e z => ?_) (fun p hp z => ?_) ?_
  · cases q : X.s₀.heap.get? ea with
    | none => rfl
    | some o =>
      obtain ⟨o', e1⟩ := I.base.there ea o q (by rw [hex]; simp)
      exact absurd rfl (there _ _ e1)
  · obtain ⟨v, hc⟩ := I.cell x c e
    obtain ⟨oc, hoc, _⟩ := hc
    exact there _ _ hoc z
  · obtain ⟨e, _⟩ := I.pin p hp
    exact there _ _ e z
  · obtain ⟨oe, vs, he, hc, hd, _⟩ := hfl.first
    exact ⟨⟨oe, vs, he, hc, hd⟩, ⟨_, he⟩, fun h1 h2 ⟨ox, ws, e1, e2, e3⟩ k => ⟨ox, ws, k _ e1, e2, e3⟩⟩
/-- within an except suite -/
abbrev Cx.inx (X : Cx) (e : Addr) : Cx := { X with A := X.A.mark (some (.ref e)), calm := false, xe := fun _ _ => False }
theorem Cx.Ok.inx {X : Cx} (ok : X.Ok) (e : Addr) : (X.inx e).Ok :=
  ⟨ok.mod, ok.kind, ok.glob, ok.blt, ok.above, ok.inj, ok.has, ok.cab, fun z => (by cases z), ok.frames, ok.stk, ok.exf, ok.bs, ok.bsz, ok.noex, ok.exfs, ok.funs, ok.frf⟩
theorem Inv.inx (I : Inv X pins σ H s) (e : Addr) : Inv (X.inx e) pins σ H s :=
  ⟨I.ok.inx e, I.os, I.bare, I.base, I.loc, I.cell, I.free, I.freeC, I.pin, I.hok, I.len⟩
theorem Inv.outx {e : Addr} (I : Inv (X.inx e) pins σ H s) (ok : X.Ok) : Inv X pins σ H s :=
  ⟨ok, I.os, I.bare, I.base, I.loc, I.cell, I.free, I.freeC, I.pin, I.hok, I.len⟩
/-- a name goes -/
theorem Inv.goes {i : Nat} {x : Str} {t' : Nat} {m m' : Str → Option Value} (I : Inv X pins σ H s) (hN : X.N.Nodup) (hi : X.N[i]? = some x) (hs : Heap.SameBut X.env.locals s.heap h')
    (hn : s.heap.Ns X.env.locals m) (hn' : h'.Ns X.env.locals m') (hm : ∀ y, y ≠ x → m' y = m y) : Inv X pins (σ.set i none) H { s with heap := h', toks := t' } := by
  obtain ⟨m0, hn0, hl⟩ := I.loc
  have em : m0 = m := (Heap.Ns.eq_nsMap hn0).trans (Heap.Ns.eq_nsMap hn).symm
  subst em
  have nL : ∀ b o, X.s₀.heap.get? b = some o → b ≠ X.env.locals := fun b o e => Nat.ne_of_lt (Nat.lt_of_lt_of_le (Heap.lt_size e) I.ok.above)
  refine ⟨I.ok, I.os, I.bare, ⟨fun b o e n hb hx => ?_, fun b o e n hb hx => ?_, I.base.free, fun b o e hx => ?_, I.base.tups, I.base.frzs, I.base.tbls⟩, ⟨m', hn', fun j y v e1 e2 e3 => ?_⟩, fun y c e => ?_, I.free, I.freeC, fun p hp => ?_, fun a o e => ?_, by rw [List.length_set]; exact I.len⟩
  · exact (hs.2 b (nL b o e)).trans (I.base.keep b o e n hb hx)
  · obtain ⟨sl, e1⟩ := I.base.slot b o e n hb hx
    exact ⟨sl, (hs.2 b (nL b o e)).trans e1⟩
  · obtain ⟨o', e1⟩ := I.base.there b o e hx
    exact ⟨o', (hs.2 b (nL b o e)).trans e1⟩
  · have hj : j ≠ i := fun z => by
      subst z
      by_cases hl : j < σ.length
      · rw [List.getElem?_set_self hl] at e2; cases e2
      · rw [List.getElem?_eq_none (by rw [List.length_set]; omega)] at e2; cases e2
    rw [List.getElem?_set_ne (Ne.symm hj)] at e2
    obtain ⟨u, r, q⟩ := hl j y v e1 e2 e3
    have hy : y ≠ x := fun z => hj (nodup_ix hN e1 (z ▸ hi))
    refine ⟨u, r, ?_⟩
    rcases q with ⟨k, e⟩ | ⟨k, c, e, z⟩
    · exact .inl ⟨k, (hm y hy).trans e⟩
    · exact .inr ⟨k, c, e, z.sameBut hs (I.cne y c e)⟩
  · obtain ⟨v, z⟩ := I.cell y c e
    exact ⟨v, z.sameBut hs (I.cne y c e)⟩
  · obtain ⟨e, n, ne, nf, d⟩ := I.pin p hp
    exact ⟨(hs.2 p.1 ne).trans e, n, ne, nf, d⟩
  · refine (I.hok a o e).stay (fun c v hc q => (hs.2 c ?_).trans q) (fun _ q => q) fun _ _ q => q
    rintro rfl
    rcases hc with z | hc
    · rw [← z] at e
      rw [I.free] at e
      cases e
    · rw [I.free] at hc
      cases hc
end

/-- the error class at D stands above the one at C (or is it) -/
structure Catches (K : PySem.W.Frag) (C D : Addr) : Prop where
  cl : PySem.W.hasDictIn K D = true
  ty : PySem.W.typeIn K (.ref D) = some (.type "type")
  ex : PySem.W.mroIn K D (.type "BaseException") = some true
  ab : PySem.W.mroIn K C (.ref D) = some true
theorem isType_of {K : PySem.W.Frag} {M : Model} {h : Heap} {D : Addr} (X : K.In h) (c : PySem.W.hasDictIn K D = true) : PySem.W.Looks M h (isType (.ref D)) true := by
  obtain ⟨cd, hc, _⟩ := PySem.W.any_some c
  unfold PySem.W.clsIn at hc
  split at hc
  next c' d' cd' sl' ho =>
    intro A' Q' E' s' k q
    unfold isType loadHead
    exact wpAny_bind (wpAny_loadPart (k _ _ (X _ _ ho)) (wpAny_pure q))
  next => cases hc
theorem excMatches_K {K : PySem.W.Frag} {M : Model} {A : Around} {E : Value → Shared → Prop} {s : Shared} {e C D : Addr} {oe : Obj} {Q : Bool → Shared → Prop} (X : K.In s.heap) (he : s.heap.get? e = some oe) (hc : oe.cls = .ref C) (c : Catches K C D) (h : Q true s) :
    wpAny M A (excMatches (.ref e) (.ref D)) Q E s := by
  obtain ⟨hp, g, d, t, os⟩ := s
  have L0 : PySem.W.Looks M hp (typeOf (.ref e)) (.ref C) := hc ▸ (PySem.W.Looks.ld he).andThen .now
  have L1 := PySem.W.looks_typeIn (M := M) X c.ty
  have L2 := PySem.W.looks_mroIn (M := M) X c.ex
  have L3 := PySem.W.looks_mroIn (M := M) X c.ab
  have L4 := isType_of (M := M) X c.cl
  have f := tc_notTuple
  unfold excMatches isInstance isExcClass
  repeat (first | lk | wp_step)
  exact h

theorem SP.outx {X : Cx} {pins : List (Addr × Obj)} {e : Addr} {D : Ends} {f : Flow} {s : Shared} (ok : X.Ok) (h : SP (X.inx e) pins D f s) : SP X pins D f s := by
  cases f with
  | next => obtain ⟨σ', H', J, q⟩ := h; exact ⟨σ', H', J.outx ok, q⟩
  | brk => obtain ⟨σ', H', J, q⟩ := h; exact ⟨σ', H', J.outx ok, q⟩
  | cont => obtain ⟨σ', H', J, q⟩ := h; exact ⟨σ', H', J.outx ok, q⟩
  | ret u => obtain ⟨v, σ', H', J, q⟩ := h; exact ⟨v, σ', H', J.outx ok, q⟩

section
variable {X : Cx} {ce : Expr} {epos pos hpos np : Pos} {x n : Str} {b0 : Stmt} {suite : List Stmt} {D : Addr} {t : St → Hp → VK → XK → Prop} {ts : TS}
/-- try: a call; except D as n: suite -/
def tTryAs (K : PySem.W.Frag) (D : Addr) (i : Nat) (t : St → Hp → VK → XK → Prop) (ts : TS) : TS := fun Dn σ H => t σ H (fun _ H1 => Dn.nx σ H1) fun cls _ H1 => ∃ C, cls = .ref C ∧ Catches K C D ∧
  ∀ ea, H1 ea = none → ts { nx := fun σ' H' => Dn.nx (σ'.set i none) H', rt := Dn.rt, bk := fun σ' H' => Dn.bk (σ'.set i none) H', ct := fun σ' H' => Dn.ct (σ'.set i none) H' } (σ.set i (some (.ref ea))) (upd H1 ea (ExcO ea C))
end
end L2

set_option Elab.async false
set_option linter.all false
set_option maxRecDepth 100000
set_option maxHeartbeats 4000000

namespace L2
open PySem PySem.Spec PyProof.Rows

inductive D where
  | non | bl (b : Bool) | int (i : Int) | str (x : Str) | tup (xs : List D) | lst (xs : List D)
mutual
/-- the value v bears the datum d in H -/
def Rep (K : PySem.W.Frag) (H : Hp) : D → V → Prop
  | .non, v => v = .non
  | .bl b, v => v = .bl b
  | .int i, v => v = .int i
  | .str x, v => v = .str x
  | .tup ds, v => ∃ a xs, v = .ref a ∧ SqT K H a xs ∧ RepL K H ds xs
  | .lst ds, v => ∃ a xs, v = .ref a ∧ SqL K H a xs ∧ RepL K H ds xs
def RepL (K : PySem.W.Frag) (H : Hp) : List D → List V → Prop
  | [], vs => vs = []
  | d :: ds, vs => ∃ v r, vs = v :: r ∧ Rep K H d v ∧ RepL K H ds r
end
mutual
/-- == of data -/
def eqD : D → D → Bool
  | .non, .non => true
  | .bl a, .bl b => a == b
  | .int a, .int b => a == b
  | .bl a, .int b => (if a then 1 else 0) == b
  | .int a, .bl b => a == (if b then 1 else 0)
  | .str a, .str b => a == b
  | .tup xs, .tup ys => eqL xs ys
  | .lst xs, .lst ys => eqL xs ys
  | _, _ => false
def eqL : List D → List D → Bool
  | [], [] => true
  | x :: xs, y :: ys => eqD x y && eqL xs ys
  | _, _ => false
end
mutual
def depD : D → Nat
  | .tup xs => depL xs + 1
  | .lst xs => depL xs + 1
  | _ => 0
def depL : List D → Nat
  | [] => 0
  | x :: xs => max (depD x) (depL xs)
end

theorem eqL_length : ∀ {xs ys : List D}, eqL xs ys = true → xs.length = ys.length
  | [], [], _ => rfl
  | [], _ :: _, h => by simp [eqL] at h
  | _ :: _, [], h => by simp [eqL] at h
  | x :: xs, y :: ys, h => by
    simp only [eqL, Bool.and_eq_true] at h
    simp only [List.length_cons, eqL_length h.2]
mutual
theorem eqD_refl : ∀ d : D, eqD d d = true
  | .non => by simp [eqD]
  | .bl b => by simp [eqD]
  | .int i => by simp [eqD]
  | .str x => by simp [eqD]
  | .tup xs => by simp only [eqD]; exact eqL_refl xs
  | .lst xs => by simp only [eqD]; exact eqL_refl xs
theorem eqL_refl : ∀ d : List D, eqL d d = true
  | [] => by simp [eqL]
  | x :: xs => by simp only [eqL, Bool.and_eq_true]; exact ⟨eqD_refl x, eqL_refl xs⟩
end
theorem RepL.length {K : PySem.W.Frag} {H : Hp} : ∀ {ds : List D} {vs : List V}, RepL K H ds vs → ds.length = vs.length
  | [], vs, h => by
    simp only [RepL] at h
    rw [h]; rfl
  | d :: ds, vs, h => by
    simp only [RepL] at h
    obtain ⟨v, r, rfl, _, h2⟩ := h
    simp only [List.length_cons, RepL.length h2]
theorem RepL.get {K : PySem.W.Frag} {H : Hp} : ∀ {ds : List D} {vs : List V} {i : Nat} {d : D}, RepL K H ds vs → ds[i]? = some d → ∃ v, vs[i]? = some v ∧ Rep K H d v
  | [], _, _, _, _, e => by simp at e
  | d :: ds, vs, i, d', h, e => by
    simp only [RepL] at h
    obtain ⟨v, r, rfl, h1, h2⟩ := h
    cases i with
    | zero => simp at e; subst e; exact ⟨v, rfl, h1⟩
    | succ i =>
      obtain ⟨v', e', h'⟩ := RepL.get h2 (by simpa using e)
      exact ⟨v', by simpa using e', h'⟩
theorem SqL.same {K : PySem.W.Frag} {H H' : Hp} {a : Addr} {xs : List V} (e : Same H H') (h : SqL K H a xs) : SqL K H' a xs := e.seq h
theorem SqT.same {K : PySem.W.Frag} {H H' : Hp} {a : Addr} {xs : List V} (e : Same H H') (h : SqT K H a xs) : SqT K H' a xs := by
  rcases h with (h | ⟨o, h⟩) | h
  · exact .inl (.inl (e _ _ h))
  · exact .inl (.inr ⟨o, e _ _ h⟩)
  · exact .inr h
mutual
theorem Rep.same {K : PySem.W.Frag} {H H' : Hp} (e : Same H H') : ∀ {d : D} {v : V}, Rep K H d v → Rep K H' d v
  | .non, _, h => by simpa only [Rep] using h
  | .bl _, _, h => by simpa only [Rep] using h
  | .int _, _, h => by simpa only [Rep] using h
  | .str _, _, h => by simpa only [Rep] using h
  | .tup ds, _, h => by
    simp only [Rep] at h ⊢
    obtain ⟨a, xs, h1, h2, h3⟩ := h
    exact ⟨a, xs, h1, h2.same e, RepL.same e h3⟩
  | .lst ds, _, h => by
    simp only [Rep] at h ⊢
    obtain ⟨a, xs, h1, h2, h3⟩ := h
    exact ⟨a, xs, h1, h2.same e, RepL.same e h3⟩
theorem RepL.same {K : PySem.W.Frag} {H H' : Hp} (e : Same H H') : ∀ {d : List D} {v : List V}, RepL K H d v → RepL K H' d v
  | [], _, h => by simpa only [RepL] using h
  | x :: xs, _, h => by
    simp only [RepL] at h ⊢
    obtain ⟨v, r, h1, h2, h3⟩ := h
    exact ⟨v, r, h1, Rep.same e h2, RepL.same e h3⟩
end

section
variable {X : Cx} {pins : List (Addr × Obj)} {σ : St} {H : Hp} {s : Shared}
theorem Inv.list_tuple (I : Inv X pins σ H s) {a : Addr} {xs ys : List V} (h : SqL X.K H a xs) (h' : SqT X.K H a ys) : False := by
  obtain ⟨_, _, p, _⟩ := I.list h
  obtain ⟨_, _, q, _⟩ := I.tuple h'
  obtain ⟨o, _, e1, c1, _⟩ := p
  obtain ⟨o', e2, c2, _⟩ := q
  rw [e1] at e2
  cases e2
  rw [c1] at c2
  exact absurd c2 (by decide)
mutual
theorem Inv.rep_inj (I : Inv X pins σ H s) : ∀ {d e : D} {v : V}, Rep X.K H d v → Rep X.K H e v → d = e
  | .non, e, v, h, h' => by
    simp only [Rep] at h; subst h
    cases e <;> simp [Rep] at h' ⊢
  | .bl _, e, v, h, h' => by
    simp only [Rep] at h; subst h
    cases e <;> simp [Rep] at h' ⊢
    exact h'
  | .int _, e, v, h, h' => by
    simp only [Rep] at h; subst h
    cases e <;> simp [Rep] at h' ⊢
    exact h'
  | .str _, e, v, h, h' => by
    simp only [Rep] at h; subst h
    cases e <;> simp [Rep] at h' ⊢
    exact h'
  | .tup ds, e, v, h, h' => by
    simp only [Rep] at h
    obtain ⟨a, xs, rfl, h2, h3⟩ := h
    cases e with
    | tup es =>
      simp only [Rep] at h'
      obtain ⟨a', ys, q, g2, g3⟩ := h'
      cases q
      have := I.tuple_inj h2 g2
      subst this
      rw [Inv.repL_inj I h3 g3]
    | lst es =>
      simp only [Rep] at h'
      obtain ⟨a', ys, q, g2, g3⟩ := h'
      cases q
      exact (I.list_tuple g2 h2).elim
    | _ => simp [Rep] at h'
  | .lst ds, e, v, h, h' => by
    simp only [Rep] at h
    obtain ⟨a, xs, rfl, h2, h3⟩ := h
    cases e with
    | lst es =>
      simp only [Rep] at h'
      obtain ⟨a', ys, q, g2, g3⟩ := h'
      cases q
      have := I.list_inj h2 g2
      subst this
      rw [Inv.repL_inj I h3 g3]
    | tup es =>
      simp only [Rep] at h'
      obtain ⟨a', ys, q, g2, g3⟩ := h'
      cases q
      exact (I.list_tuple h2 g2).elim
    | _ => simp [Rep] at h'
theorem Inv.repL_inj (I : Inv X pins σ H s) : ∀ {d e : List D} {v : List V}, RepL X.K H d v → RepL X.K H e v → d = e
  | [], e, v, h, h' => by
    simp only [RepL] at h; subst h
    cases e <;> simp [RepL] at h' ⊢
  | x :: xs, e, v, h, h' => by
    simp only [RepL] at h
    obtain ⟨u, r, rfl, h1, h2⟩ := h
    cases e with
    | nil => simp [RepL] at h'
    | cons y ys =>
      simp only [RepL] at h'
      obtain ⟨u', r', q, g1, g2⟩ := h'
      cases q
      rw [Inv.rep_inj I h1 g1, Inv.repL_inj I h2 g2]
end
end
def zipAll {α β : Type} (f : α → β → Bool) : List α → List β → Bool
  | [], [] => true
  | x :: xs, y :: ys => f x y && zipAll f xs ys
  | _, _ => false
def atB {α β : Type} (f : α → β → Bool) (xs : List α) (ys : List β) (j : Nat) : Bool := match xs[j]?, ys[j]? with
  | some x, some y => f x y
  | _, _ => true
theorem zipAll_range {α β : Type} (f : α → β → Bool) : ∀ (xs : List α) (ys : List β),
    ((List.range (min xs.length ys.length)).all (atB f xs ys) && (xs.length == ys.length)) = zipAll f xs ys
  | [], [] => by simp [zipAll]
  | [], _ :: _ => by simp [zipAll]
  | _ :: _, [] => by simp [zipAll]
  | x :: xs, y :: ys => by
    have ih := zipAll_range f xs ys
    simp only [zipAll, List.length_cons]
    rw [← ih, Nat.succ_min_succ, List.range_succ_eq_map, List.all_cons, List.all_map]
    have e : ((List.range (min xs.length ys.length)).all (atB f (x :: xs) (y :: ys) ∘ Nat.succ)) = (List.range (min xs.length ys.length)).all (atB f xs ys) := by
      congr 1
    rw [e]
    have e0 : atB f (x :: xs) (y :: ys) 0 = f x y := by unfold atB; simp
    rw [e0, Bool.and_assoc]
    congr 2
    simp

theorem eqL_zip : ∀ xs ys : List D, eqL xs ys = zipAll eqD xs ys
  | [], [] => by simp [eqL, zipAll]
  | [], _ :: _ => by simp [eqL, zipAll]
  | _ :: _, [] => by simp [eqL, zipAll]
  | x :: xs, y :: ys => by simp only [eqL, zipAll, eqL_zip xs ys]
theorem depD_mem : ∀ {ds : List D} {d : D}, d ∈ ds → depD d ≤ depL ds
  | [], _, h => by simp at h
  | x :: xs, d, h => by
    simp only [depL]
    rcases List.mem_cons.mp h with rfl | h
    · exact Nat.le_max_left ..
    · exact Nat.le_trans (depD_mem h) (Nat.le_max_right ..)
def flatD : D → Bool
  | .tup _ => false
  | .lst _ => false
  | _ => true
def valD : D → V
  | .bl b => .bl b
  | .int i => .int i
  | .str x => .str x
  | _ => .non
theorem rep_flat {K : PySem.W.Frag} {H : Hp} {d : D} {v : V} (f : flatD d = true) (h : Rep K H d v) : v = valD d := by
  cases d <;> simp_all [flatD, Rep, valD]
theorem flat_val {d : D} (f : flatD d = true) : flatV (valD d) = true := by
  cases d <;> simp_all [flatD, valD, flatV]
theorem eqV_val {d e : D} (f : flatD d = true) (g : flatD e = true) : eqV (valD d) (valD e) = eqD d e := by
  cases d <;> cases e <;> simp_all [flatD, valD, eqV, eqD]
section
variable {X : Cx} {pins : List (Addr × Obj)} {σ : St} {H : Hp} {s : Shared}
theorem in1_units (A : Around) : A.in1.units = A.units + 1 := rfl
/-- items by items -/
def EqP (X : Cx) (H : Hp) (s : Shared) (n : Nat) : Prop := ∀ (d e : D) (A : Around) (x y : V) (u v : Value), depD d ≤ n → Rep X.K H d x → Rep X.K H e y → RelV x u → RelV y v → A.units + n < cLine → SeqAt.EqAt A s u v (eqD d e)
theorem items_eq {n : Nat} (ih : EqP X H s n) {ds es : List D} {xs ys : List V} {its jts : List Value} (h3 : RepL X.K H ds xs) (g3 : RepL X.K H es ys) (vi : Vals xs its) (vj : Vals ys jts) (hds : depL ds ≤ n) {A : Around} (hA : A.units + n < cLine) :
    ∀ j (p1 : j < its.toArray.size) (p2 : j < jts.toArray.size), SeqAt.EqAt A s its.toArray[j] jts.toArray[j] (atB eqD ds es j) := by
  intro j p1 p2
  have l1 : its.length = ds.length := by rw [h3.length, vi.length]
  have l2 : jts.length = es.length := by rw [g3.length, vj.length]
  have q1 : j < ds.length := by rw [← l1]; simpa using p1
  have q2 : j < es.length := by rw [← l2]; simpa using p2
  obtain ⟨v1, e1, r1⟩ := h3.get (List.getElem?_eq_getElem q1)
  obtain ⟨v2, e2, r2⟩ := g3.get (List.getElem?_eq_getElem q2)
  obtain ⟨u1, f1, s1⟩ := vi.get e1
  obtain ⟨u2, f2, s2⟩ := vj.get e2
  have z1 : its.toArray[j] = u1 := by
    have := f1
    rw [List.getElem?_eq_getElem (by simpa using p1)] at this
    simpa using this
  have z2 : jts.toArray[j] = u2 := by
    have := f2
    rw [List.getElem?_eq_getElem (by simpa using p2)] at this
    simpa using this
  rw [z1, z2]
  have eb : atB eqD ds es j = eqD ds[j] es[j] := by
    unfold atB
    rw [List.getElem?_eq_getElem q1, List.getElem?_eq_getElem q2]
  rw [eb]
  exact ih _ _ _ _ _ _ _ (Nat.le_trans (depD_mem (List.getElem_mem q1)) hds) r1 r2 s1 s2 hA
theorem tup_eq (I : Inv X pins σ H s) {n : Nat} (ih : EqP X H s n) {ds es : List D} {a b : Addr} {xs ys : List V} (h2 : SqT X.K H a xs) (h3 : RepL X.K H ds xs) (g2 : SqT X.K H b ys) (g3 : RepL X.K H es ys) (hds : depL ds ≤ n) {A : Around} (hA : A.units + (n + 1) < cLine) :
    SeqAt.RcAt A s (.ref a) (.ref b) (eqD (.tup ds) (.tup es)) ∧ SeqAt.RcNeAt A s (.ref a) (.ref b) (!eqD (.tup ds) (.tup es)) := by
  obtain ⟨its, vi, ht, _⟩ := I.tuple h2
  obtain ⟨jts, vj, hu, _⟩ := I.tuple g2
  have l1 : its.length = ds.length := by rw [h3.length, vi.length]
  have l2 : jts.length = es.length := by rw [g3.length, vj.length]
  have it := items_eq ih h3 g3 vi vj hds (A := A.in1) (by rw [in1_units]; omega)
  have eb : eqD (.tup ds) (.tup es) = ((List.range (min its.toArray.size jts.toArray.size)).all (atB eqD ds es) && its.toArray.size == jts.toArray.size) := by
    simp only [eqD, eqL_zip]
    rw [← zipAll_range]
    simp only [List.size_toArray, l1, l2]
  rw [eb]
  exact ⟨SeqAt.RcAt.tuples ht hu (by omega) it, SeqAt.RcNeAt.tuples ht hu (by omega) it⟩
theorem lst_eq (I : Inv X pins σ H s) {n : Nat} (ih : EqP X H s n) {ds es : List D} {a b : Addr} {xs ys : List V} (h2 : SqL X.K H a xs) (h3 : RepL X.K H ds xs) (g2 : SqL X.K H b ys) (g3 : RepL X.K H es ys) (hds : depL ds ≤ n) {A : Around} (hA : A.units + (n + 1) < cLine) :
    SeqAt.RcAt A s (.ref a) (.ref b) (eqD (.lst ds) (.lst es)) ∧ SeqAt.RcNeAt A s (.ref a) (.ref b) (!eqD (.lst ds) (.lst es)) := by
  obtain ⟨its, vi, ht, _⟩ := I.list h2
  obtain ⟨jts, vj, hu, _⟩ := I.list g2
  have l1 : its.length = ds.length := by rw [h3.length, vi.length]
  have l2 : jts.length = es.length := by rw [g3.length, vj.length]
  have it := items_eq ih h3 g3 vi vj hds (A := A.in1) (by rw [in1_units]; omega)
  by_cases hl : ds.length = es.length
  · have eb : eqD (.lst ds) (.lst es) = (List.range its.toArray.size).all (atB eqD ds es) := by
      simp only [eqD, eqL_zip]
      rw [← zipAll_range]
      simp [l1, hl]
    rw [eb]
    exact ⟨SeqAt.RcAt.lists ht.isList hu.isList (by simp [l1, l2, hl]) (by omega) it, SeqAt.RcNeAt.lists ht.isList hu.isList (by simp [l1, l2, hl]) (by omega) it⟩
  · have eb : eqD (.lst ds) (.lst es) = false := by
      cases q : eqD (.lst ds) (.lst es) with
      | false => rfl
      | true => simp only [eqD] at q; exact absurd (eqL_length q) hl
    rw [eb]
    exact ⟨SeqAt.RcAt.lists_lengths ht.isList hu.isList (by simp [l1, l2, hl]) (by omega), SeqAt.RcNeAt.lists_lengths ht.isList hu.isList (by simp [l1, l2, hl]) (by omega)⟩
/-- what a tuple's and a list's values look like, for both sides -/
theorem rep_ref {K : PySem.W.Frag} {d : D} {x : V} (h : Rep K H d x) : (flatD d = true ∧ x = valD d) ∨ (∃ ds a xs, d = .tup ds ∧ x = .ref a ∧ SqT K H a xs ∧ RepL K H ds xs) ∨ ∃ ds a xs, d = .lst ds ∧ x = .ref a ∧ SqL K H a xs ∧ RepL K H ds xs := by
  cases d with
  | tup ds => simp only [Rep] at h; obtain ⟨a, xs, h1, h2, h3⟩ := h; exact .inr (.inl ⟨ds, a, xs, rfl, h1, h2, h3⟩)
  | lst ds => simp only [Rep] at h; obtain ⟨a, xs, h1, h2, h3⟩ := h; exact .inr (.inr ⟨ds, a, xs, rfl, h1, h2, h3⟩)
  | _ => exact .inl ⟨rfl, rep_flat rfl h⟩
theorem mixed_eq (I : Inv X pins σ H s) {d e : D} {x y : V} {u v : Value} (hd : Rep X.K H d x) (he : Rep X.K H e y) (ru : RelV x u) (rv : RelV y v) (m : flatD d = !flatD e) {A : Around} (hA : A.units < cLine) :
    eqD d e = false ∧ SeqAt.EqAt A s u v false ∧ SeqAt.RcAt A s u v false ∧ SeqAt.RcNeAt A s u v true := by
  rcases rep_ref hd with ⟨fd, rfl⟩ | ⟨ds, a, xs, rfl, rfl, h2, h3⟩ | ⟨ds, a, xs, rfl, rfl, h2, h3⟩
  · rcases rep_ref he with ⟨fe, rfl⟩ | ⟨es, b, ys, rfl, rfl, g2, g3⟩ | ⟨es, b, ys, rfl, rfl, g2, g3⟩
    · rw [fd, fe] at m; cases m
    · obtain rfl : v = Value.ref b := rv
      obtain ⟨jts, vj, hu, _⟩ := I.tuple g2
      refine ⟨by cases d <;> simp [eqD, flatD] at fd ⊢, ?_⟩
      cases d <;> simp only [valD, RelV] at ru <;> first | (simp [flatD] at fd; done) | skip
      · subst ru; exact ⟨SeqAt.EqAt.none_tuple hu hA, SeqAt.RcAt.none_tuple hu hA, SeqAt.RcNeAt.none_tuple hu hA⟩
      · subst ru; exact ⟨SeqAt.EqAt.bool_tuple _ hu hA, SeqAt.RcAt.bool_tuple _ hu hA, SeqAt.RcNeAt.bool_tuple _ hu hA⟩
      · obtain ⟨t, rfl⟩ := ru; exact ⟨SeqAt.EqAt.int_tuple _ _ hu hA, SeqAt.RcAt.int_tuple _ _ hu hA, SeqAt.RcNeAt.int_tuple _ _ hu hA⟩
      · obtain ⟨t, rfl⟩ := ru; exact ⟨SeqAt.EqAt.str_tuple _ _ hu hA, SeqAt.RcAt.str_tuple _ _ hu hA, SeqAt.RcNeAt.str_tuple _ _ hu hA⟩
    · obtain rfl : v = Value.ref b := rv
      obtain ⟨jts, vj, hu, _⟩ := I.list g2
      have hu := hu.isList
      refine ⟨by cases d <;> simp [eqD, flatD] at fd ⊢, ?_⟩
      cases d <;> simp only [valD, RelV] at ru <;> first | (simp [flatD] at fd; done) | skip
      · subst ru; exact ⟨SeqAt.EqAt.none_list hu hA, SeqAt.RcAt.none_list hu hA, SeqAt.RcNeAt.none_list hu hA⟩
      · subst ru; exact ⟨SeqAt.EqAt.bool_list _ hu hA, SeqAt.RcAt.bool_list _ hu hA, SeqAt.RcNeAt.bool_list _ hu hA⟩
      · obtain ⟨t, rfl⟩ := ru; exact ⟨SeqAt.EqAt.int_list _ _ hu hA, SeqAt.RcAt.int_list _ _ hu hA, SeqAt.RcNeAt.int_list _ _ hu hA⟩
      · obtain ⟨t, rfl⟩ := ru; exact ⟨SeqAt.EqAt.str_list _ _ hu hA, SeqAt.RcAt.str_list _ _ hu hA, SeqAt.RcNeAt.str_list _ _ hu hA⟩
  · rcases rep_ref he with ⟨fe, rfl⟩ | ⟨es, b, ys, rfl, rfl, g2, g3⟩ | ⟨es, b, ys, rfl, rfl, g2, g3⟩
    · obtain rfl : u = Value.ref a := ru
      obtain ⟨jts, vj, hu, _⟩ := I.tuple h2
      refine ⟨by cases e <;> simp [eqD, flatD] at fe ⊢, ?_⟩
      cases e <;> simp only [valD, RelV] at rv <;> first | (simp [flatD] at fe; done) | skip
      · subst rv; exact ⟨SeqAt.EqAt.tuple_none hu hA, SeqAt.RcAt.tuple_none hu hA, SeqAt.RcNeAt.tuple_none hu hA⟩
      · subst rv; exact ⟨SeqAt.EqAt.tuple_bool _ hu hA, SeqAt.RcAt.tuple_bool _ hu hA, SeqAt.RcNeAt.tuple_bool _ hu hA⟩
      · obtain ⟨t, rfl⟩ := rv; exact ⟨SeqAt.EqAt.tuple_int _ _ hu hA, SeqAt.RcAt.tuple_int _ _ hu hA, SeqAt.RcNeAt.tuple_int _ _ hu hA⟩
      · obtain ⟨t, rfl⟩ := rv; exact ⟨SeqAt.EqAt.tuple_str _ _ hu hA, SeqAt.RcAt.tuple_str _ _ hu hA, SeqAt.RcNeAt.tuple_str _ _ hu hA⟩
    · simp [flatD] at m
    · simp [flatD] at m
  · rcases rep_ref he with ⟨fe, rfl⟩ | ⟨es, b, ys, rfl, rfl, g2, g3⟩ | ⟨es, b, ys, rfl, rfl, g2, g3⟩
    · obtain rfl : u = Value.ref a := ru
      obtain ⟨jts, vj, hu, _⟩ := I.list h2
      have hu := hu.isList
      refine ⟨by cases e <;> simp [eqD, flatD] at fe ⊢, ?_⟩
      cases e <;> simp only [valD, RelV] at rv <;> first | (simp [flatD] at fe; done) | skip
      · subst rv; exact ⟨SeqAt.EqAt.list_none hu hA, SeqAt.RcAt.list_none hu hA, SeqAt.RcNeAt.list_none hu hA⟩
      · subst rv; exact ⟨SeqAt.EqAt.list_bool _ hu hA, SeqAt.RcAt.list_bool _ hu hA, SeqAt.RcNeAt.list_bool _ hu hA⟩
      · obtain ⟨t, rfl⟩ := rv; exact ⟨SeqAt.EqAt.list_int _ _ hu hA, SeqAt.RcAt.list_int _ _ hu hA, SeqAt.RcNeAt.list_int _ _ hu hA⟩
      · obtain ⟨t, rfl⟩ := rv; exact ⟨SeqAt.EqAt.list_str _ _ hu hA, SeqAt.RcAt.list_str _ _ hu hA, SeqAt.RcNeAt.list_str _ _ hu hA⟩
    · simp [flatD] at m
    · simp [flatD] at m
/-- two sequences: a pair of kinds -/
theorem seq_eq (I : Inv X pins σ H s) {n : Nat} (ih : EqP X H s n) {d e : D} {x y : V} {u v : Value} (hn : depD d ≤ n + 1) (hd : Rep X.K H d x) (he : Rep X.K H e y) (ru : RelV x u) (rv : RelV y v) (fd : flatD d = false) (fe : flatD e = false) {A : Around} (hA : A.units + (n + 1) < cLine) :
    SeqAt.EqAt A s u v (eqD d e) ∧ SeqAt.RcAt A s u v (eqD d e) ∧ SeqAt.RcNeAt A s u v (!eqD d e) := by
  have hd0 := hd
  have he0 := he
  rcases rep_ref hd with ⟨f, _⟩ | ⟨ds, a, xs, rfl, rfl, h2, h3⟩ | ⟨ds, a, xs, rfl, rfl, h2, h3⟩
  · rw [f] at fd; cases fd
  · obtain rfl : u = Value.ref a := ru
    have hds : depL ds ≤ n := by simp only [depD] at hn; omega
    rcases rep_ref he with ⟨f, _⟩ | ⟨es, b, ys, rfl, rfl, g2, g3⟩ | ⟨es, b, ys, rfl, rfl, g2, g3⟩
    · rw [f] at fe; cases fe
    · obtain rfl : v = Value.ref b := rv
      have R := tup_eq I ih h2 h3 g2 g3 hds hA
      refine ⟨?_, R.1, R.2⟩
      by_cases hab : a = b
      · subst hab
        rw [I.rep_inj hd0 he0, eqD_refl]
        exact SeqAt.EqAt.same _
      · exact SeqAt.EqAt.of_refs hab R.1
    · obtain rfl : v = Value.ref b := rv
      obtain ⟨its, _, ht, _⟩ := I.tuple h2
      obtain ⟨jts, _, hu, _⟩ := I.list g2
      exact ⟨SeqAt.EqAt.tuple_list ht hu.isList (by omega), SeqAt.RcAt.tuple_list ht hu.isList (by omega), SeqAt.RcNeAt.tuple_list ht hu.isList (by omega)⟩
  · obtain rfl : u = Value.ref a := ru
    have hds : depL ds ≤ n := by simp only [depD] at hn; omega
    rcases rep_ref he with ⟨f, _⟩ | ⟨es, b, ys, rfl, rfl, g2, g3⟩ | ⟨es, b, ys, rfl, rfl, g2, g3⟩
    · rw [f] at fe; cases fe
    · obtain rfl : v = Value.ref b := rv
      obtain ⟨its, _, ht, _⟩ := I.list h2
      obtain ⟨jts, _, hu, _⟩ := I.tuple g2
      exact ⟨SeqAt.EqAt.list_tuple ht.isList hu (by omega), SeqAt.RcAt.list_tuple ht.isList hu (by omega), SeqAt.RcNeAt.list_tuple ht.isList hu (by omega)⟩
    · obtain rfl : v = Value.ref b := rv
      have R := lst_eq I ih h2 h3 g2 g3 hds hA
      refine ⟨?_, R.1, R.2⟩
      by_cases hab : a = b
      · subst hab
        rw [I.rep_inj hd0 he0, eqD_refl]
        exact SeqAt.EqAt.same _
      · exact SeqAt.EqAt.of_refs hab R.1
theorem Inv.eqP (I : Inv X pins σ H s) : ∀ n, EqP X H s n
  | 0 => fun d e A x y u v hn hd he ru rv hA => by
    have fd : flatD d = true := by
      cases d <;> simp [depD, flatD] at hn ⊢
    cases fe : flatD e with
    | true =>
      have ex := rep_flat fd hd
      have ey := rep_flat fe he
      subst ex ey
      rw [← eqV_val fd fe]
      exact eqAt_V ru rv (flat_val fd) (flat_val fe)
    | false =>
      obtain ⟨e1, e2, _⟩ := mixed_eq I hd he ru rv (by rw [fd, fe]; rfl) (A := A) (by omega)
      rw [e1]
      exact e2
  | n + 1 => fun d e A x y u v hn hd he ru rv hA => by
    cases fd : flatD d with
    | true =>
      have h0 : depD d ≤ n := by cases d <;> simp [depD, flatD] at fd ⊢
      exact Inv.eqP I n d e A x y u v h0 hd he ru rv (by omega)
    | false =>
      cases fe : flatD e with
      | true =>
        obtain ⟨e1, e2, _⟩ := mixed_eq I hd he ru rv (by rw [fd, fe]; rfl) (A := A) (by omega)
        rw [e1]
        exact e2
      | false => exact (seq_eq I (Inv.eqP I n) hn hd he ru rv fd fe hA).1

/-- x == y, x != y: scalars by themselves, the rest by the data that they bear -/
def rEqU (K : PySem.W.Frag) : R2 := fun x y H Q => match x, y with
  | .int i, .int j => Q (.bl (decide (i = j))) H
  | .str i, .str j => Q (.bl (decide (i = j))) H
  | .bl i, .bl j => Q (.bl (decide (i = j))) H
  | .non, .non => Q (.bl true) H
  | x, y => ∃ d e, Rep K H d x ∧ Rep K H e y ∧ depD d ≤ 50 ∧ (flatD d && flatD e) = false ∧ Q (.bl (eqD d e)) H
def rNeU (K : PySem.W.Frag) : R2 := fun x y H Q => match x, y with
  | .int i, .int j => Q (.bl (!decide (i = j))) H
  | .str i, .str j => Q (.bl (!decide (i = j))) H
  | .bl i, .bl j => Q (.bl (!decide (i = j))) H
  | .non, .non => Q (.bl false) H
  | x, y => ∃ d e, Rep K H d x ∧ Rep K H e y ∧ depD d ≤ 50 ∧ (flatD d && flatD e) = false ∧ Q (.bl (!eqD d e)) H
theorem op_eqU (hu : X.A.units + 64 < cLine) : OpR X (compareOp .Eq) (rEqU X.K) := fun pins s σ H x y v u Q I rx ry q => by
  unfold rEqU at q
  split at q
  · rename_i i j; exact op_eq pins s σ H _ _ v u Q I rx ry ⟨rfl, by rw [show decide (V.int i = V.int j) = decide (i = j) from by simp]; exact q⟩
  · rename_i i j; exact op_eq pins s σ H _ _ v u Q I rx ry ⟨rfl, by rw [show decide (V.str i = V.str j) = decide (i = j) from by simp]; exact q⟩
  · rename_i i j; exact op_eq pins s σ H _ _ v u Q I rx ry ⟨rfl, by rw [show decide (V.bl i = V.bl j) = decide (i = j) from by simp]; exact q⟩
  · exact op_eq pins s σ H _ _ v u Q I rx ry ⟨rfl, by simpa using q⟩
  · obtain ⟨d, e, hd, he, hn, hf, q⟩ := q
    show wpAny (model X.prog X.w) X.A (richCompare .Eq v u) (EP X pins σ Q) X.xe s
    cases fd : flatD d with
    | true =>
      cases fe : flatD e with
      | true => rw [fd, fe] at hf; cases hf
      | false =>
        obtain ⟨e1, _, e3, _⟩ := mixed_eq I hd he rx ry (by rw [fd, fe]; rfl) (A := X.A) (by omega)
        rw [e1] at q
        exact e3 _ _ _ _ ⟨V.bl _, H, I, rfl, q⟩
    | false =>
      cases fe : flatD e with
      | true =>
        obtain ⟨e1, _, e3, _⟩ := mixed_eq I hd he rx ry (by rw [fd, fe]; rfl) (A := X.A) (by omega)
        rw [e1] at q
        exact e3 _ _ _ _ ⟨V.bl _, H, I, rfl, q⟩
      | false => exact (seq_eq I (I.eqP 49) hn hd he rx ry fd fe (by omega)).2.1 _ _ _ _ ⟨V.bl _, H, I, rfl, q⟩
theorem op_neU (hu : X.A.units + 64 < cLine) : OpR X (compareOp .NotEq) (rNeU X.K) := fun pins s σ H x y v u Q I rx ry q => by
  unfold rNeU at q
  split at q
  · rename_i i j; exact op_ne pins s σ H _ _ v u Q I rx ry ⟨rfl, by rw [show decide (V.int i = V.int j) = decide (i = j) from by simp]; exact q⟩
  · rename_i i j; exact op_ne pins s σ H _ _ v u Q I rx ry ⟨rfl, by rw [show decide (V.str i = V.str j) = decide (i = j) from by simp]; exact q⟩
  · rename_i i j; exact op_ne pins s σ H _ _ v u Q I rx ry ⟨rfl, by rw [show decide (V.bl i = V.bl j) = decide (i = j) from by simp]; exact q⟩
  · exact op_ne pins s σ H _ _ v u Q I rx ry ⟨rfl, by simpa using q⟩
  · obtain ⟨d, e, hd, he, hn, hf, q⟩ := q
    show wpAny (model X.prog X.w) X.A (richCompare .NotEq v u) (EP X pins σ Q) X.xe s
    cases fd : flatD d with
    | true =>
      cases fe : flatD e with
      | true => rw [fd, fe] at hf; cases hf
      | false =>
        obtain ⟨e1, _, _, e3⟩ := mixed_eq I hd he rx ry (by rw [fd, fe]; rfl) (A := X.A) (by omega)
        rw [e1] at q
        exact e3 _ _ _ _ ⟨V.bl _, H, I, rfl, q⟩
    | false =>
      cases fe : flatD e with
      | true =>
        obtain ⟨e1, _, _, e3⟩ := mixed_eq I hd he rx ry (by rw [fd, fe]; rfl) (A := X.A) (by omega)
        rw [e1] at q
        exact e3 _ _ _ _ ⟨V.bl _, H, I, rfl, q⟩
      | false => exact (seq_eq I (I.eqP 49) hn hd he rx ry fd fe (by omega)).2.2 _ _ _ _ ⟨V.bl _, H, I, rfl, q⟩
end

def DivOk (j : Int) : Prop := j ≠ 0 ∧ j.natAbs.log2 < 9000
section
variable {X : Cx}
def rAddU (K : PySem.W.Frag) : R2 := fun x y H Q => match x, y with
  | .int i, .int j => Q (.int (i + j)) H
  | .str i, .str j => i.length + j.length ≤ sizeLine ∧ Q (.str (i ++ j)) H
  | .ref a, .ref b => rCat (.ref a) (.ref b) H Q ∨ rCatT K (.ref a) (.ref b) H Q
  | _, _ => False
theorem op_addU : OpR X (binaryOp .Add) (rAddU X.K) := fun pins s σ H x y v u Q I rx ry q => by
  unfold rAddU at q
  split at q
  · exact op_add pins s σ H _ _ v u Q I rx ry ⟨_, _, rfl, rfl, q⟩
  · exact op_add_str pins s σ H _ _ v u Q I rx ry ⟨_, _, rfl, rfl, q.1, q.2⟩
  · rcases q with q | q
    · exact op_cat pins s σ H _ _ v u Q I rx ry q
    · exact op_catT pins s σ H _ _ v u Q I rx ry q
  · exact q.elim
def rMulU : R2 := fun x y H Q => match x, y with
  | .int i, .int j => IntMulOk i j ∧ Q (.int (i * j)) H
  | _, _ => False
theorem op_mulI : OpR X (binaryOp .Mult) (rI IntMulOk fun i j => .int (i * j)) := opI fun _ _ _ _ _ _ _ hc q => mul_int q hc
theorem op_mulU : OpR X (binaryOp .Mult) rMulU := fun pins s σ H x y v u Q I rx ry q => by
  unfold rMulU at q
  split at q
  · exact op_mulI pins s σ H _ _ v u Q I rx ry ⟨_, _, rfl, rfl, q.1, q.2⟩
  · exact q.elim
def rFdivU : R2 := fun x y H Q => match x, y with
  | .int i, .int j => DivOk j ∧ Q (.int (i.fdiv j)) H
  | _, _ => False
theorem op_fdivI : OpR X (binaryOp .FloorDiv) (rI (fun _ j => DivOk j) fun i j => .int (i.fdiv j)) := opI fun _ _ _ _ _ _ _ hc q => floordiv_int hc.1 q (.inl (PyProof.noPylong_of_log2 hc.2))
theorem op_fdivU : OpR X (binaryOp .FloorDiv) rFdivU := fun pins s σ H x y v u Q I rx ry q => by
  unfold rFdivU at q
  split at q
  · exact op_fdivI pins s σ H _ _ v u Q I rx ry ⟨_, _, rfl, rfl, q.1, q.2⟩
  · exact q.elim
def rModU : R2 := fun x y H Q => match x, y with
  | .int i, .int j => j ≠ 0 ∧ Q (.int (i.fmod j)) H
  | _, _ => False
theorem op_modU : OpR X (binaryOp .Mod) rModU := fun pins s σ H x y v u Q I rx ry q => by
  unfold rModU at q
  split at q
  · exact op_modN pins s σ H _ _ v u Q I rx ry ⟨_, _, rfl, rfl, q.1, q.2⟩
  · exact q.elim
def rPowU : R2 := fun x y H Q => match x, y with
  | .int i, .int j => CPow i j ∧ Q (.int (i ^ j.toNat)) H
  | _, _ => False
theorem op_powU : OpR X (binaryOp .Pow) rPowU := fun pins s σ H x y v u Q I rx ry q => by
  unfold rPowU at q
  split at q
  · exact op_pow pins s σ H _ _ v u Q I rx ry ⟨_, _, rfl, rfl, q.1, q.2⟩
  · exact q.elim
def rCmpU (p : Int → Int → Bool) : R2 := fun x y H Q => match x, y with
  | .int i, .int j => Q (.bl (p i j)) H
  | _, _ => False
theorem op_cmpU {op : CmpOp} {p : Int → Int → Bool} (h : OpR X (compareOp op) (rI0 fun i j => .bl (p i j))) : OpR X (compareOp op) (rCmpU p) := fun pins s σ H x y v u Q I rx ry q => by
  unfold rCmpU at q
  split at q
  · exact h pins s σ H _ _ v u Q I rx ry ⟨_, _, rfl, rfl, q⟩
  · exact q.elim
theorem op_ltU : OpR X (compareOp .Lt) (rCmpU fun i j => decide (i < j)) := op_cmpU op_lt
theorem op_gtU : OpR X (compareOp .Gt) (rCmpU fun i j => decide (j < i)) := op_cmpU op_gt
theorem op_geU : OpR X (compareOp .GtE) (rCmpU fun i j => decide (j ≤ i)) := op_cmpU op_ge

def SqA (K : PySem.W.Frag) (H : Hp) (a : Addr) (xs : List V) : Prop := SqL K H a xs ∨ SqT K H a xs
def rIxU (K : PySem.W.Frag) : R2 := fun x y H Q => match x, y with
  | .ref p, .int i => ∃ xs v, SqA K H p xs ∧ atI xs i = some v ∧ Q v H
  | .str z, .int i => ∃ c, z.length ≤ sizeLine ∧ atI z.cps.toList i = some c ∧ Q (.str ⟨#[c]⟩) H
  | _, _ => False
theorem ix_U : IxR X (rIxU X.K) := fun value slice pins s σ H x y v u Q I rx ry q hs => by
  unfold rIxU at q
  split at q
  · obtain ⟨xs, w, h | h, e, q⟩ := q
    · exact ix_list value slice pins s σ H _ _ v u Q I rx ry ⟨_, _, _, _, rfl, rfl, h, e, q⟩ hs
    · exact ix_tup value slice pins s σ H _ _ v u Q I rx ry ⟨_, _, _, _, rfl, rfl, h, e, q⟩ hs
  · obtain ⟨c, h1, h2, q⟩ := q
    exact ix_str value slice pins s σ H _ _ v u Q I rx ry ⟨_, _, _, rfl, rfl, h1, h2, q⟩ hs
  · exact q.elim
def rLen (K : PySem.W.Frag) : List V → Hp → VK → Prop := fun xs H Q => match xs with
  | [.ref p] => ∃ ys, SqA K H p ys ∧ Q (.int ys.length) H
  | [.str z] => z.length ≤ sizeLine ∧ Q (.int z.length) H
  | _ => False
theorem call_lenU : CallR X (.builtin "len") (rLen X.K) := fun pins s σ H xs us Q I r q => by
  unfold rLen at q
  split at q
  · obtain ⟨ys, h, q⟩ := q
    exact call_len_seq pins s σ H _ us Q I r ⟨_, _, rfl, h, q⟩
  · exact call_len_str pins s σ H _ us Q I r ⟨_, rfl, q.1, q.2⟩
  · exact q.elim
def rAbs : List V → Hp → VK → Prop := fun xs H Q => match xs with
  | [.int i] => Q (.int (if i < 0 then -i else i)) H
  | _ => False
theorem call_absU : CallR X (.builtin "abs") rAbs := fun pins s σ H xs us Q I r q => by
  unfold rAbs at q
  split at q
  · exact call_abs pins s σ H _ us Q I r ⟨_, rfl, q⟩
  · exact q.elim
def rMin : List V → Hp → VK → Prop := fun xs H Q => match xs with
  | [.int i, .int j] => Q (.int (if j < i then j else i)) H
  | _ => False
def rSlU (K : PySem.W.Frag) : V → Option Int → Option Int → Hp → VK → Prop := fun x lo hi H Q => rSlL K x lo hi H Q ∨ rSlT K x lo hi H Q
theorem sl_U : SlR X (rSlU X.K) := SlR.or sl_list sl_tup

def isiB (t T : String) : Bool := t == T || (t == "bool" && T == "int")
def tyN (K : PySem.W.Frag) (H : Hp) (x : V) (t : String) : Prop := match x with
  | .int _ => t = "int"
  | .str _ => t = "str"
  | .bl _ => t = "bool"
  | .non => t = "NoneType"
  | .ref a => (t = "list" ∧ ∃ xs, SqL K H a xs) ∨ (t = "tuple" ∧ ∃ xs, SqT K H a xs)
  | _ => False
theorem kit_b (K : PySem.W.Frag) {t T : String} (ht : t ∈ ["int", "str", "bool", "NoneType", "list", "tuple"]) (hT : T ∈ ["int", "str", "bool", "list", "tuple"]) : PySem.W.kitOne K (.type t) (.type T) = some (isiB t T) := by
  simp only [List.mem_cons, List.not_mem_nil, or_false] at ht hT
  rcases ht with rfl | rfl | rfl | rfl | rfl | rfl <;> rcases hT with rfl | rfl | rfl | rfl | rfl <;> with_unfolding_all rfl
def rIsi (K : PySem.W.Frag) : List V → Hp → VK → Prop := fun xs H Q => match xs with
  | [x, .ty T] => T ∈ ["int", "str", "bool", "list", "tuple"] ∧ ∃ t, tyN K H x t ∧ Q (.bl (isiB t T)) H
  | _ => False
theorem call_isinstanceU : CallR X (.builtin "isinstance") (rIsi X.K) := fun pins s σ H xs us Q I r q => by
  unfold rIsi at q
  split at q
  · rename_i x T
    obtain ⟨hT, t, ht, q⟩ := q
    obtain ⟨u, c, rfl, ru, rc⟩ := vals2 r
    obtain rfl : c = Value.type T := rc
    have fin : ∀ tk, EP X pins σ Q (.bool (isiB t T)) { s with toks := tk } := fun tk => ⟨V.bl _, H, I.tok tk, rfl, q⟩
    unfold tyN at ht
    split at ht
    · subst ht; obtain ⟨_, rfl⟩ := ru; exact PySem.W.kia_one PySem.W.kitx_int I.kIn True.intro (kit_b _ (by decide) hT) (fun z => nomatch z) fin
    · subst ht; obtain ⟨_, rfl⟩ := ru; exact PySem.W.kia_one PySem.W.kitx_str I.kIn True.intro (kit_b _ (by decide) hT) (fun z => nomatch z) fin
    · subst ht; cases (show u = Value.bool _ from ru); exact PySem.W.kia_one PySem.W.kitx_bool I.kIn True.intro (kit_b _ (by decide) hT) (fun z => nomatch z) fin
    · subst ht; cases (show u = Value.none from ru); exact PySem.W.kia_one PySem.W.kitx_none I.kIn True.intro (kit_b _ (by decide) hT) (fun z => nomatch z) fin
    · rename_i a
      cases (show u = Value.ref a from ru)
      rcases ht with ⟨rfl, ys, h⟩ | ⟨rfl, ys, h⟩
      · obtain ⟨its, _, p, _⟩ := I.list h
        obtain ⟨o, _, h1, h2, _⟩ := p
        exact PySem.W.kia_one PySem.W.kitx_list I.kIn ⟨o, h1, h2⟩ (kit_b _ (by decide) hT) (fun z => nomatch z) fin
      · obtain ⟨its, _, p, _⟩ := I.tuple h
        obtain ⟨o, h1, h2, _⟩ := p
        exact PySem.W.kia_one PySem.W.kitx_tuple I.kIn ⟨o, h1, h2⟩ (kit_b _ (by decide) hT) (fun z => nomatch z) fin
    · exact ht.elim
  · exact q.elim
end

section
variable {X : Cx} {tg : Expr}
def iAny (K : PySem.W.Frag) (tl : TE) : TI := fun σ H R => tl σ H fun x H1 => ∃ a, x = .ref a ∧ (((∃ xs, SqL K H1 a xs) ∧ R (Itl K a) H1) ∨ ((∃ xs, SqT K H1 a xs) ∧ R (Itt K a) H1))
theorem pi_U {l : Expr} {tl : TE} (hl : PE X l tl) : PI X tg l (iAny X.K tl) := fun pins s σ H R I h => by
  refine thn (hl pins s σ H _ I h) fun v s1 ⟨x, H1, I1, r1, a, ex, q⟩ => ?_
  subst ex
  cases r1
  rcases q with ⟨⟨xs, hq⟩, q⟩ | ⟨⟨xs, hq⟩, q⟩
  · obtain ⟨its, rv, p, hz⟩ := I1.list hq
    refine wpAny_pyIter_list p.isList ?_
    refine ⟨s1.heap.objs.size, [s1.heap.objs.size], _, _, H1, rfl, I1.kept (t' := s1.toks) fun b o e => Heap.get?_push_of_some _ e, turn_list a _, ⟨_, Heap.get?_push_size _ rfl, rfl, rfl⟩, fun b hb => ?_, q⟩
    have e : b = s1.heap.objs.size := by simpa using hb
    subst e
    exact I1.fpOk (Nat.le_refl _) (I1.hok.fresh (Nat.le_refl _))
  · obtain ⟨its, rv, p, hz⟩ := I1.tuple hq
    refine wpAny_pyIter_tuple (show s1.heap.IsTuple a its.toArray from p) ?_
    refine ⟨s1.heap.objs.size, [s1.heap.objs.size], _, _, H1, rfl, I1.kept (t' := s1.toks) fun b o e => Heap.get?_push_of_some _ e, turn_tuple a _, ⟨_, Heap.get?_push_size _ rfl, rfl, rfl⟩, fun b hb => ?_, q⟩
    have e : b = s1.heap.objs.size := by simpa using hb
    subst e
    exact I1.fpOk (Nat.le_refl _) (I1.hok.fresh (Nat.le_refl _))
/-- for x in a sequence that the body leaves as it is -/
theorem for_any {K : PySem.W.Frag} {a : Addr} {xs : List V} {g : TG} {tb : TS} {D : Ends} {σ : St} {H : Hp} (hA : SqA K H a xs) (Pv : Nat → St → Hp → Prop) (h0 : Pv 0 σ H) (hl : ∀ i σ H', i ≤ xs.length → Pv i σ H' → Same H H')
    (hs : ∀ i x σ H, xs[i]? = some x → Pv i σ H → g x σ H fun σ2 H2 => tb { D with nx := Pv (i + 1), ct := Pv (i + 1), bk := D.nx } σ2 H2) (hd : ∀ σ H, Pv xs.length σ H → D.nx σ H) :
    ((∃ xs, SqL K H a xs) ∧ ∃ W : Nat → Nat → St → Hp → Prop, (∃ m, W 0 m σ H) ∧ ∀ i m σ H, W i m σ H →
      ((Itl K a).stop i H ∧ D.nx σ H) ∨ ((Itl K a).go i H ∧ ∃ N : St → Hp → Prop, (∀ σ' H', N σ' H' → ∃ m', m' < m ∧ W (i + 1) m' σ' H') ∧ ∀ x H', (Itl K a).yld i H x H' → g x σ H' fun σ2 H2 => tb { D with nx := N, ct := N, bk := D.nx } σ2 H2)) ∨
    ((∃ xs, SqT K H a xs) ∧ ∃ W : Nat → Nat → St → Hp → Prop, (∃ m, W 0 m σ H) ∧ ∀ i m σ H, W i m σ H →
      ((Itt K a).stop i H ∧ D.nx σ H) ∨ ((Itt K a).go i H ∧ ∃ N : St → Hp → Prop, (∀ σ' H', N σ' H' → ∃ m', m' < m ∧ W (i + 1) m' σ' H') ∧ ∀ x H', (Itt K a).yld i H x H' → g x σ H' fun σ2 H2 => tb { D with nx := N, ct := N, bk := D.nx } σ2 H2)) := by
  rcases hA with hA | hA
  · exact .inl ⟨⟨xs, hA⟩, for_list (xs := xs) Pv h0 (fun i σ H' hi hp => hA.same (hl i σ H' hi hp)) hs hd⟩
  · exact .inr ⟨⟨xs, hA⟩, for_tup (xs := xs) Pv h0 (fun i σ H' hi hp => hA.same (hl i σ H' hi hp)) hs hd⟩
end

structure FunD (K : PySem.W.Frag) (x qual : Str) (st : Stmt) (dV : Value) (f : Addr) (fd : FuncData) : Prop where
  ex : ∃ (oc : Value) (od : Option Addr) (kV doc pm : Value) (an : Option Addr) (cdv ct : Value) (osl : Array (Option Value)),
    fd = PySem.W.fnOf x qual (defArgs st) (defBody st) (defScope st) dV kV doc pm an cdv ct ∧ K.lookup f = some ⟨oc, od, .func fd, osl⟩ ∧ PySem.W.codeIn K cdv qual = true
  kp : PySem.W.keepIn K (.ref f) = true
section
variable {P : Program} {w : World} {K : PySem.W.Frag} {mg : Str → Option Value} {base : Heap}
/-- a def that lets no exception out -/
theorem FunD.okn {x qual : Str} {st : Stmt} {dV : Value} {f : Addr} {fd : FuncData} {N ps : List Str} {k : Nat} {sp : Sp} (F : FunD K x qual st dV f fd) (S : FnScope N ps (defScope st)) (len : ∀ vs H Q E, sp vs H Q E → vs.length = ps.length)
    (hbody : ∀ (cdv : Value) (A : Around) (outer : List Env) (s : Shared) (H : Hp) (vs : List V) (Q : VK) (E : XK), Room k (A.deeper (envOfC qual (defScope st) s.heap.objs.size f cdv)) → sp vs H Q E →
      ∃ t, PSs (cxOf (CX1 P w) P w K mg base N qual (defScope st) f cdv A outer s H E).nox (defBody st) t ∧ t { nx := fun _ H' => Q .non H', rt := Q } (start N vs) H) : FnOk P w K mg base (CX1 P w) (k + 1) f fd ps sp := by
  obtain ⟨oc, od, kV, doc, pm, an, cdv, ct, osl, rfl, lk, hcd⟩ := F.ex
  refine fn_of lk hcd S len fun A outer s H vs Q E hr hsp => ?_
  obtain ⟨t, h, q⟩ := hbody cdv A outer s H vs Q E hr hsp
  exact ⟨t, h.nox, q⟩
/-- a def that may raise -/
theorem FunD.okx {x qual : Str} {st : Stmt} {dV : Value} {f : Addr} {fd : FuncData} {N ps : List Str} {k : Nat} {sp : Sp} (F : FunD K x qual st dV f fd) (S : FnScope N ps (defScope st)) (len : ∀ vs H Q E, sp vs H Q E → vs.length = ps.length)
    (hbody : ∀ (cdv : Value) (A : Around) (outer : List Env) (s : Shared) (H : Hp) (vs : List V) (Q : VK) (E : XK), Room k (A.deeper (envOfC qual (defScope st) s.heap.objs.size f cdv)) → sp vs H Q E →
      ∃ t, PSs (cxOf (CX1 P w) P w K mg base N qual (defScope st) f cdv A outer s H E) (defBody st) t ∧ t { nx := fun _ H' => Q .non H', rt := Q } (start N vs) H) : FnOk P w K mg base (CX1 P w) (k + 1) f fd ps sp := by
  obtain ⟨oc, od, kV, doc, pm, an, cdv, ct, osl, rfl, lk, hcd⟩ := F.ex
  exact fn_of lk hcd S len fun A outer s H vs Q E hr hsp => hbody cdv A outer s H vs Q E hr hsp
theorem FunD.binds {x qual : Str} {st : Stmt} {dV : Value} {f : Addr} {fd : FuncData} {ps : List Str} (F : FunD K x qual st dV f fd)
    (h : ∀ (kV doc pm : Value) (an : Option Addr) (cdv ct : Value) (us : List Value), us.length = ps.length → bindArgs (PySem.W.fnOf x qual (defArgs st) (defBody st) (defScope st) dV kV doc pm an cdv ct) ⟨us, []⟩ = pure (ps.zip us)) : Binds K fd ps [] := by
  obtain ⟨oc, od, kV, doc, pm, an, cdv, ct, osl, rfl, lk, hcd⟩ := F.ex
  exact .all (h kV doc pm an cdv ct)
theorem funD_mk {x qual : Str} {st : Stmt} {dV : Value} {f : Addr} {oc : Value} {od an : Option Addr} {osl : Array (Option Value)} {kV doc pm cdv ct : Value} (l : K.lookup f = some ⟨oc, od, .func (PySem.W.fnOf x qual (defArgs st) (defBody st) (defScope st) dV kV doc pm an cdv ct), osl⟩)
    (c : PySem.W.codeIn K cdv qual = true) (k : PySem.W.keepIn K (.ref f) = true) : FunD K x qual st dV f (PySem.W.fnOf x qual (defArgs st) (defBody st) (defScope st) dV kV doc pm an cdv ct) := ⟨⟨oc, od, kV, doc, pm, an, cdv, ct, osl, rfl, l, c⟩, k⟩
end
/-- a def that may be called: its promise, its name, its defaults dvs -/
structure Cal (P : Program) (w : World) (K : PySem.W.Frag) (mg : Str → Option Value) (base : Heap) (k : Nat) (x : Str) (ps : List Str) (dvs : List V) (sp : Sp) : Prop where
  ex : ∃ (f : Addr) (fd : FuncData) (ds : List Value), FnOk P w K mg base (CX1 P w) k f fd ps sp ∧ mg x = some (.ref f) ∧ PySem.W.keepIn K (.ref f) = true ∧ Binds K fd ps ds ∧ Vals dvs ds
section
variable {X : Cx} {k k' : Nat} {x : Str} {ps : List Str} {dvs : List V} {sp : Sp} {E : XK} {p pos : Pos} {e : Expr} {es : List Expr} {t : TA}
theorem Cal.ev (G : Cal X.prog X.w X.K X.mg X.base k x ps dvs sp) (hr : Room k' X.A) (hk : k ≤ k') (hg : Gl X x) (hx : Passes (CX1 X.prog X.w) X E) (ha : PA X (e :: es) t)
    (hdb : (x == ("__debug__" : Str)) = false := by decide) (he : starEach (e :: es) X.env = (false, eval e X.env) :: starEach es X.env := by rfl) (hpl : (backTo pos (starEach es X.env)).any (·.1) = false := by rfl) :
    PE X (.Call (.Name x p) (e :: es) [] pos) (tCall sp dvs E t) := by
  obtain ⟨f, fd, ds, F, hm, kp, hb, hd⟩ := G.ex
  exact pe_call F (hr.mono hk) hg hm kp hb hd hx ha hdb he hpl
theorem Cal.ev0 (G : Cal X.prog X.w X.K X.mg X.base k x ps dvs sp) (hr : Room k' X.A) (hk : k ≤ k') (hg : Gl X x) (hx : Passes (CX1 X.prog X.w) X E) (hdb : (x == ("__debug__" : Str)) = false := by decide) :
    PE X (.Call (.Name x p) [] [] pos) (tCall sp dvs E tNil) := by
  obtain ⟨f, fd, ds, F, hm, kp, hb, hd⟩ := G.ex
  exact pe_call0 F (hr.mono hk) hg hm kp hb hd hx hdb
theorem Cal.tr (G : Cal X.prog X.w X.K X.mg X.base k x ps dvs sp) (hr : Room k' X.A) (hk : k ≤ k') (hg : Gl X x) (ha : PA X.nox (e :: es) t)
    (hdb : (x == ("__debug__" : Str)) = false := by decide) (he : starEach (e :: es) X.env = (false, eval e X.env) :: starEach es X.env := by rfl) (hpl : (backTo pos (starEach es X.env)).any (·.1) = false := by rfl) :
    PEx X (.Call (.Name x p) (e :: es) [] pos) (xCall sp dvs t) := by
  obtain ⟨f, fd, ds, F, hm, kp, hb, hd⟩ := G.ex
  exact pex_call F (hr.mono hk) hg hm kp hb hd ha hdb he hpl
end
end L2

namespace Mth
/-- the greatest common divisor as an int -/
def g (a b : Int) : Int := (Int.gcd a b : Nat)
theorem g_zero (a : Int) : g a 0 = (a.natAbs : Int) := by unfold g; rw [Int.gcd_zero_right]
theorem g_pos {a b : Int} (h : b ≠ 0) : 0 < g a b := by
  unfold g
  exact Int.natCast_pos.mpr (Int.gcd_pos_of_ne_zero_right a h)
theorem g_dvd1 (a b : Int) : g a b ∣ a := Int.gcd_dvd_left ..
theorem g_dvd2 (a b : Int) : g a b ∣ b := Int.gcd_dvd_right ..
theorem g_step (a b : Int) : g b (a % b) = g a b := by
  unfold g
  rw [Int.gcd_comm b (a % b)]
  first
    | rw [Int.gcd_emod_left] 
    | (rw [Int.emod_def]; simp [Int.gcd_comm])
theorem g_abs (a b : Int) : g (if a < 0 then -a else a) (if b < 0 then -b else b) = g a b := by
  unfold g
  split <;> split <;> simp [Int.neg_gcd, Int.gcd_neg]
theorem abs_nn (a : Int) : 0 ≤ (if a < 0 then -a else a) := by split <;> omega
theorem fm {x y : Int} (h : 0 < y) : 0 ≤ x.fmod y ∧ x.fmod y < y := by
  rw [Int.fmod_eq_emod_of_nonneg _ (by omega)]
  exact ⟨Int.emod_nonneg _ (by omega), Int.emod_lt_of_pos _ h⟩
theorem g_fstep {x y : Int} (h : 0 < y) : g y (x.fmod y) = g x y := by
  rw [Int.fmod_eq_emod_of_nonneg _ (by omega)]
  exact g_step x y
/-- a fraction made: what the program tells for a bottom that is not 0 -/
def by_ (t b : Int) : Int := if b < 0 then -(g t b) else g t b
def top (t b : Int) : Int := t.fdiv (by_ t b)
def bot (t b : Int) : Int := b.fdiv (by_ t b)
theorem by_ne {t b : Int} (h : b ≠ 0) : by_ t b ≠ 0 := by
  have := g_pos (a := t) h
  unfold by_; split <;> omega
theorem by_dvd1 (t b : Int) : by_ t b ∣ t := by
  unfold by_; split
  · exact Int.neg_dvd.mpr (g_dvd1 t b)
  · exact g_dvd1 t b
theorem by_dvd2 (t b : Int) : by_ t b ∣ b := by
  unfold by_; split
  · exact Int.neg_dvd.mpr (g_dvd2 t b)
  · exact g_dvd2 t b
theorem fdiv_mul {a d : Int} (h : d ∣ a) (hd : d ≠ 0) : a.fdiv d * d = a := by
  obtain ⟨k, rfl⟩ := h
  rw [Int.mul_comm d k, Int.mul_fdiv_cancel _ hd]
theorem top_mul {t b : Int} (h : b ≠ 0) : top t b * by_ t b = t := fdiv_mul (by_dvd1 t b) (by_ne h)
theorem bot_mul {t b : Int} (h : b ≠ 0) : bot t b * by_ t b = b := fdiv_mul (by_dvd2 t b) (by_ne h)
theorem bot_pos {t b : Int} (h : b ≠ 0) : 1 ≤ bot t b := by
  have h1 := bot_mul (t := t) h
  have h2 := g_pos (a := t) h
  by_cases hb : b < 0
  · have e : by_ t b = -(g t b) := by unfold by_; rw [if_pos hb]
    rw [e] at h1
    have h3 : bot t b * g t b = -b := by rw [Int.mul_neg] at h1; omega
    rcases Int.lt_trichotomy (bot t b) 0 with z | z | z
    · have := Int.mul_neg_of_neg_of_pos z h2; omega
    · rw [z] at h3; omega
    · omega
  · have e : by_ t b = g t b := by unfold by_; rw [if_neg hb]
    rw [e] at h1
    rcases Int.lt_trichotomy (bot t b) 0 with z | z | z
    · have := Int.mul_neg_of_neg_of_pos z h2; omega
    · rw [z] at h1; omega
    · omega
theorem natAbs_by (t b : Int) : (by_ t b).natAbs = Int.gcd t b := by
  unfold by_ g; split <;> simp
theorem g_low {t b : Int} (h : b ≠ 0) : g (top t b) (bot t b) = 1 := by
  have hg : 0 < Int.gcd t b := Int.gcd_pos_of_ne_zero_right t h
  have e : Int.gcd (top t b * by_ t b) (bot t b * by_ t b) = Int.gcd (top t b) (bot t b) * (by_ t b).natAbs := Int.gcd_mul_right ..
  rw [top_mul h, bot_mul h, natAbs_by] at e
  have : Int.gcd (top t b) (bot t b) = 1 := by
    rcases Nat.lt_trichotomy (Int.gcd (top t b) (bot t b)) 1 with z | z | z
    · have : Int.gcd (top t b) (bot t b) = 0 := by omega
      rw [this] at e; omega
    · exact z
    · have := Nat.mul_le_mul_right (Int.gcd t b) z
      omega
  unfold g; rw [this]; rfl
theorem top_le {t b : Int} (h : b ≠ 0) : (top t b).natAbs ≤ t.natAbs := by
  have h1 := top_mul (t := t) h
  have h2 : (by_ t b).natAbs ≠ 0 := by have := by_ne (t := t) h; omega
  have h3 := congrArg Int.natAbs h1
  rw [Int.natAbs_mul] at h3
  rw [← h3]
  exact Nat.le_mul_of_pos_right _ (by omega)
theorem bot_le {t b : Int} (h : b ≠ 0) : (bot t b).natAbs ≤ b.natAbs := by
  have h1 := bot_mul (t := t) h
  have h2 : (by_ t b).natAbs ≠ 0 := by have := by_ne (t := t) h; omega
  have h3 := congrArg Int.natAbs h1
  rw [Int.natAbs_mul] at h3
  calc (bot t b).natAbs ≤ (bot t b).natAbs * (by_ t b).natAbs := Nat.le_mul_of_pos_right _ (by omega)
    _ = b.natAbs := h3
theorem log2_le {n k : Nat} (h : n < 2 ^ k) (hk : k < 9000) : n.log2 < 9000 := by
  by_cases z : n = 0
  · rw [z]; decide
  · exact Nat.lt_trans ((Nat.log2_lt z).mpr h) hk
/-- how many bits at most -/
def Sz (n : Nat) (i : Int) : Prop := i.natAbs < 2 ^ n
theorem Sz.mono {m n : Nat} {i : Int} (h : Sz m i) (k : m ≤ n) : Sz n i := Nat.lt_of_lt_of_le h (Nat.pow_le_pow_right (by decide) k)
theorem Sz.mul {m n : Nat} {i j : Int} (h : Sz m i) (k : Sz n j) : Sz (m + n) (i * j) := by
  unfold Sz at *
  rw [Int.natAbs_mul, Nat.pow_add]
  exact Nat.mul_lt_mul'' h k
theorem Sz.add {n : Nat} {i j : Int} (h : Sz n i) (k : Sz n j) : Sz (n + 1) (i + j) := by
  unfold Sz at *
  have := Int.natAbs_add_le i j
  rw [Nat.pow_succ]
  omega
theorem Sz.neg {n : Nat} {i : Int} (h : Sz n i) : Sz n (-i) := by
  unfold Sz at *
  rw [Int.natAbs_neg]
  exact h
theorem Sz.sub {n : Nat} {i j : Int} (h : Sz n i) (k : Sz n j) : Sz (n + 1) (i - j) := by
  rw [Int.sub_eq_add_neg]
  exact h.add k.neg
theorem Sz.of {n : Nat} {i : Int} (h : i.natAbs < 2 ^ n) : Sz n i := h
theorem Sz.top {n : Nat} {t b : Int} (hb : b ≠ 0) (h : Sz n t) : Sz n (Mth.top t b) := Nat.lt_of_le_of_lt (top_le hb) h
theorem Sz.bot {n : Nat} {t b : Int} (hb : b ≠ 0) (h : Sz n b) : Sz n (Mth.bot t b) := Nat.lt_of_le_of_lt (bot_le hb) h
theorem Sz.lit {n : Nat} {i : Int} (h1 : -(2 ^ n) < i) (h2 : i < 2 ^ n) : Sz n i := by
  unfold Sz
  have e : ((2 ^ n : Nat) : Int) = 2 ^ n := by simp
  omega
end Mth

set_option maxHeartbeats 4000000
namespace Mth
theorem fdiv_le {a d : Int} (h : d ∣ a) (hd : 1 ≤ d) : (a.fdiv d).natAbs ≤ a.natAbs := by
  have e := congrArg Int.natAbs (fdiv_mul h (show d ≠ 0 by omega))
  rw [Int.natAbs_mul] at e
  calc (a.fdiv d).natAbs ≤ (a.fdiv d).natAbs * d.natAbs := Nat.le_mul_of_pos_right _ (by omega)
    _ = a.natAbs := e
theorem Sz.fdiv {n : Nat} {a d : Int} (h : Sz n a) (k : d ∣ a) (hd : 1 ≤ d) : Sz n (a.fdiv d) := Nat.lt_of_le_of_lt (fdiv_le k hd) h
theorem g_neg {a b : Int} : g (-a) b = g a b := by unfold g; simp [Int.neg_gcd]
end Mth

set_option Elab.async false
set_option linter.all false
set_option maxRecDepth 100000
set_option maxHeartbeats 4000000

namespace L2
open PySem PySem.Spec PyProof.Rows
section
variable {D : Ends} {σ : St} {H : Hp} {Q : VK} {t u : TS} {ta tb te : TE} {g : TG} {tA : TA} {r : R2} {E : XK} {sp : Sp} {K : PySem.W.Frag}
theorem y71y : tSeq t u D σ H = t { D with nx := u D } σ H := rfl
theorem y62y : tNext D σ H = D.nx σ H := rfl
theorem y2ay : tAsg te g D σ H = te σ H fun x H1 => g x σ H1 D.nx := rfl
theorem y5dy {i : Nat} {v : V} {R : St → Hp → Prop} : gName i v σ H R = R (σ.set i (some v)) H := rfl
theorem y6fy : tRet te D σ H = te σ H D.rt := rfl
theorem y70y : tRetN D σ H = D.rt .non H := rfl
theorem y3dy : tDrop te D σ H = te σ H fun _ H1 => D.nx σ H1 := rfl
theorem y2cy {v : V} : tC v σ H Q = Q v H := rfl
theorem y69y : tOp r ta tb σ H Q = ta σ H fun x H1 => tb σ H1 fun y H2 => r x y H2 Q := rfl
theorem y7dy {f : V → Hp → VK → Prop} : tUn f ta σ H Q = ta σ H fun x H1 => f x H1 Q := rfl
theorem y2ey {f : List V → Hp → VK → Prop} : tCB f tA σ H Q = tA σ H fun vs H1 => f vs H1 Q := rfl
theorem y34y {R : List V → Hp → Prop} : tCons ta tA σ H R = ta σ H fun x H1 => tA σ H1 fun xs H2 => R (x :: xs) H2 := rfl
theorem y63y {R : List V → Hp → Prop} : tNil σ H R = R [] H := rfl
theorem y2dy {dvs : List V} : tCall sp dvs E tA σ H Q = tA σ H fun vs H1 => sp (vs ++ dvs) H1 Q E := rfl
theorem y76y {R : Bool → Hp → Prop} : tTest te σ H R = te σ H fun x H' => ∃ k, x = .bl k ∧ R k H' := rfl
theorem y23y {R : Bool → Hp → Prop} : tB te σ H R = te σ H fun x H' => ∃ k, x = .bl k ∧ R k H' := rfl
theorem y28y {a b : TT} {R : Bool → Hp → Prop} : tAnd a b σ H R = a σ H fun c H1 => if c = true then b σ H1 R else R false H1 := rfl
theorem y6ay {a b : TT} {R : Bool → Hp → Prop} : tOr a b σ H R = a σ H fun c H1 => if c = true then R true H1 else b σ H1 R := rfl
theorem y65y {a : TT} {R : Bool → Hp → Prop} : tNot a σ H R = a σ H fun c H1 => R (!c) H1 := rfl
theorem y29y : tAndV ta tb σ H Q = ta σ H fun x H1 => ∃ c, x = .bl c ∧ if c = true then tb σ H1 Q else Q (.bl false) H1 := rfl
theorem y6by : tOrV ta tb σ H Q = ta σ H fun x H1 => ∃ c, x = .bl c ∧ if c = true then Q (.bl true) H1 else tb σ H1 Q := rfl
theorem y67y : tNotV ta σ H Q = ta σ H fun x H1 => ∃ c, x = .bl c ∧ Q (.bl (!c)) H1 := rfl
theorem y4ey {c : TT} : tIfS c t u D σ H = c σ H fun b H1 => if b = true then t D σ H1 else u D σ H1 := rfl
theorem y7fy {i : Nat} : tVar i σ H Q = ∃ v, σ[i]? = some (some v) ∧ Q v H := rfl
theorem y26y {i j : Int} : rAddU K (.int i) (.int j) H Q = Q (.int (i + j)) H := rfl
theorem y27y {i j : Str} : rAddU K (.str i) (.str j) H Q = (i.length + j.length ≤ sizeLine ∧ Q (.str (i ++ j)) H) := rfl
theorem y75y {f : Int → Int → V} {i j : Int} : rI0 f (.int i) (.int j) H Q = Q (f i j) H := by
  unfold rI0; simp
theorem y61y {f : Int → V} {i : Int} : rU f (.int i) H Q = Q (f i) H := by
  unfold rU; simp
theorem y5ay {i j : Int} : rMulU (.int i) (.int j) H Q = (IntMulOk i j ∧ Q (.int (i * j)) H) := rfl
theorem y41y {i j : Int} : rFdivU (.int i) (.int j) H Q = (DivOk j ∧ Q (.int (i.fdiv j)) H) := rfl
theorem y59y {i j : Int} : rModU (.int i) (.int j) H Q = (j ≠ 0 ∧ Q (.int (i.fmod j)) H) := rfl
theorem y6dy {i j : Int} : rPowU (.int i) (.int j) H Q = (CPow i j ∧ Q (.int (i ^ j.toNat)) H) := rfl
theorem y31y {p : Int → Int → Bool} {i j : Int} : rCmpU p (.int i) (.int j) H Q = Q (.bl (p i j)) H := rfl
theorem y3fy {i j : Int} : rEqU K (.int i) (.int j) H Q = Q (.bl (decide (i = j))) H := rfl
theorem y5fy {i j : Int} : rNeU K (.int i) (.int j) H Q = Q (.bl (!decide (i = j))) H := rfl
theorem y40y {i j : Str} : rEqU K (.str i) (.str j) H Q = Q (.bl (decide (i = j))) H := rfl
theorem y60y {i j : Str} : rNeU K (.str i) (.str j) H Q = Q (.bl (!decide (i = j))) H := rfl
theorem y3ey {i j : Bool} : rEqU K (.bl i) (.bl j) H Q = Q (.bl (decide (i = j))) H := rfl
theorem y5ey {i j : Bool} : rNeU K (.bl i) (.bl j) H Q = Q (.bl (!decide (i = j))) H := rfl
theorem y78y : tTup tA σ H Q = tA σ H fun xs H1 => xs.length ≤ sizeLine ∧ ∀ p, H1 p = none → Q (.ref p) (upd H1 p (.tup xs)) := rfl
theorem y55y : tLst tA σ H Q = tA σ H fun xs H1 => xs.length ≤ sizeLine ∧ ∀ p, H1 p = none → Q (.ref p) (upd H1 p (.lst xs)) := rfl
theorem y51y {x : V} {T : String} : rIsi K [x, .ty T] H Q = (T ∈ ["int", "str", "bool", "list", "tuple"] ∧ ∃ t, tyN K H x t ∧ Q (.bl (isiB t T)) H) := rfl
theorem y25y {i : Int} : rAbs [.int i] H Q = Q (.int (if i < 0 then -i else i)) H := rfl
theorem y58y {i j : Int} : rMin [.int i, .int j] H Q = Q (.int (if j < i then j else i)) H := rfl
theorem y7ay {i : Int} {s : String} : tyN K H (.int i) s = (s = "int") := rfl
theorem y7cy {i : Str} {s : String} : tyN K H (.str i) s = (s = "str") := rfl
theorem y79y {i : Bool} {s : String} : tyN K H (.bl i) s = (s = "bool") := rfl
theorem y7by {s : String} : tyN K H .non s = (s = "NoneType") := rfl
end
theorem bt_abs : bootBuiltins "abs" = some (.builtin "abs") := by decide +kernel
theorem bt_len : bootBuiltins "len" = some (.builtin "len") := by decide +kernel
theorem bt_sorted : bootBuiltins "sorted" = some (.builtin "sorted") := by decide +kernel
theorem bt_isinstance : bootBuiltins "isinstance" = some (.builtin "isinstance") := by decide +kernel
theorem bt_all : bootBuiltins "all" = some (.builtin "all") := by decide +kernel
theorem bt_int : bootBuiltins "int" = some (.type "int") := by decide +kernel
theorem bt_str : bootBuiltins "str" = some (.type "str") := by decide +kernel
theorem bt_bool : bootBuiltins "bool" = some (.type "bool") := by decide +kernel
theorem bt_list : bootBuiltins "list" = some (.type "list") := by decide +kernel
theorem bt_tuple : bootBuiltins "tuple" = some (.type "tuple") := by decide +kernel
theorem bt_set : bootBuiltins "set" = some (.type "set") := by decide +kernel
theorem bt_ValueError : bootBuiltins "ValueError" = some (.type "ValueError") := by decide +kernel
theorem yby : isiB "int" "int" = true := by decide
theorem ydy : isiB "int" "str" = false := by decide
theorem yay : isiB "int" "bool" = false := by decide
theorem ycy : isiB "int" "list" = false := by decide
theorem yey : isiB "int" "tuple" = false := by decide
theorem y15y : isiB "str" "int" = false := by decide
theorem y17y : isiB "str" "str" = true := by decide
theorem y14y : isiB "str" "bool" = false := by decide
theorem y16y : isiB "str" "list" = false := by decide
theorem y18y : isiB "str" "tuple" = false := by decide
theorem y6y : isiB "bool" "int" = true := by decide
theorem y8y : isiB "bool" "str" = false := by decide
theorem y5y : isiB "bool" "bool" = true := by decide
theorem y7y : isiB "bool" "list" = false := by decide
theorem y9y : isiB "bool" "tuple" = false := by decide
theorem y1y : isiB "NoneType" "int" = false := by decide
theorem y3y : isiB "NoneType" "str" = false := by decide
theorem y0y : isiB "NoneType" "bool" = false := by decide
theorem y2y : isiB "NoneType" "list" = false := by decide
theorem y4y : isiB "NoneType" "tuple" = false := by decide
theorem y10y : isiB "list" "int" = false := by decide
theorem y12y : isiB "list" "str" = false := by decide
theorem yfy : isiB "list" "bool" = false := by decide
theorem y11y : isiB "list" "list" = true := by decide
theorem y13y : isiB "list" "tuple" = false := by decide
theorem y1ay : isiB "tuple" "int" = false := by decide
theorem y1cy : isiB "tuple" "str" = false := by decide
theorem y19y : isiB "tuple" "bool" = false := by decide
theorem y1by : isiB "tuple" "list" = false := by decide
theorem y1dy : isiB "tuple" "tuple" = true := by decide
theorem y1fy : ("int" ∈ ["int", "str", "bool", "list", "tuple"]) = True := by simp
theorem y21y : ("str" ∈ ["int", "str", "bool", "list", "tuple"]) = True := by simp
theorem y1ey : ("bool" ∈ ["int", "str", "bool", "list", "tuple"]) = True := by simp
theorem y20y : ("list" ∈ ["int", "str", "bool", "list", "tuple"]) = True := by simp
theorem y22y : ("tuple" ∈ ["int", "str", "bool", "list", "tuple"]) = True := by simp
theorem y24y {CX : CXT} {P : Program} {w : World} {K : PySem.W.Frag} {mg : Str → Option Value} {base : Heap} {N : List Str} {qual : Str} {scope : Scope} {f : Addr} {cd : Value} {A : Around} {outer : List Env} {s : Shared} {H : Hp} {E : XK} : (cxOf CX P w K mg base N qual scope f cd A outer s H E).K = K := rfl
def ForR (lo : Int) (n : Nat) (g : TG) (tb : TS) (D : Ends) (σ : St) (H : Hp) : Prop := ∃ W : Nat → Nat → St → Hp → Prop, (∃ m, W 0 m σ H) ∧ ∀ i m σ H, W i m σ H →
  ((Itr lo n).stop i H ∧ D.nx σ H) ∨ ((Itr lo n).go i H ∧ ∃ N : St → Hp → Prop, (∀ σ' H', N σ' H' → ∃ m', m' < m ∧ W (i + 1) m' σ' H') ∧ ∀ x H', (Itr lo n).yld i H x H' → g x σ H' fun σ2 H2 => tb { D with nx := N, ct := N, bk := D.nx } σ2 H2)
def ForA (K : PySem.W.Frag) (a : Addr) (g : TG) (tb : TS) (D : Ends) (σ : St) (H : Hp) : Prop :=
  ((∃ xs, SqL K H a xs) ∧ ∃ W : Nat → Nat → St → Hp → Prop, (∃ m, W 0 m σ H) ∧ ∀ i m σ H, W i m σ H →
    ((Itl K a).stop i H ∧ D.nx σ H) ∨ ((Itl K a).go i H ∧ ∃ N : St → Hp → Prop, (∀ σ' H', N σ' H' → ∃ m', m' < m ∧ W (i + 1) m' σ' H') ∧ ∀ x H', (Itl K a).yld i H x H' → g x σ H' fun σ2 H2 => tb { D with nx := N, ct := N, bk := D.nx } σ2 H2)) ∨
  ((∃ xs, SqT K H a xs) ∧ ∃ W : Nat → Nat → St → Hp → Prop, (∃ m, W 0 m σ H) ∧ ∀ i m σ H, W i m σ H →
    ((Itt K a).stop i H ∧ D.nx σ H) ∨ ((Itt K a).go i H ∧ ∃ N : St → Hp → Prop, (∀ σ' H', N σ' H' → ∃ m', m' < m ∧ W (i + 1) m' σ' H') ∧ ∀ x H', (Itt K a).yld i H x H' → g x σ H' fun σ2 H2 => tb { D with nx := N, ct := N, bk := D.nx } σ2 H2))
theorem y44y {ta : TA} {g : TG} {tb : TS} {D : Ends} {σ : St} {H : Hp} : tFor (iRng1 ta) g tb D σ H = ta σ H fun vs H1 => ∃ j : Int, vs = [.int j] ∧ -(2 ^ 62) ≤ j ∧ j < 2 ^ 62 ∧ ForR 0 j.toNat g tb D σ H1 := rfl
theorem y45y {ta : TA} {g : TG} {tb : TS} {D : Ends} {σ : St} {H : Hp} : tFor (iRng2 ta) g tb D σ H = ta σ H fun vs H1 => ∃ i j : Int, vs = [.int i, .int j] ∧ (-(2 ^ 62) ≤ i ∧ i < 2 ^ 62 ∧ -(2 ^ 62) ≤ j ∧ j < 2 ^ 62) ∧ ForR i (j - i).toNat g tb D σ H1 := rfl
theorem y46y {K : PySem.W.Frag} {tl : TE} {g : TG} {tb : TS} {D : Ends} {σ : St} {H : Hp} : tFor (iAny K tl) g tb D σ H = tl σ H fun x H1 => ∃ a, x = .ref a ∧ ForA K a g tb D σ H1 := rfl
theorem ForR.by {lo : Int} {n : Nat} {g : TG} {tb : TS} {D : Ends} {σ : St} {H : Hp} (Pv : Nat → St → Hp → Prop) (h0 : Pv 0 σ H)
    (hs : ∀ i σ H, i < n → Pv i σ H → g (.int (lo + i)) σ H fun σ2 H2 => tb { D with nx := Pv (i + 1), ct := Pv (i + 1), bk := D.nx } σ2 H2) (hd : ∀ σ H, Pv n σ H → D.nx σ H) : ForR lo n g tb D σ H := for_range Pv h0 hs hd
theorem ForA.by {K : PySem.W.Frag} {a : Addr} {xs : List V} {g : TG} {tb : TS} {D : Ends} {σ : St} {H : Hp} (hA : SqA K H a xs) (Pv : Nat → St → Hp → Prop) (h0 : Pv 0 σ H) (hl : ∀ i σ H', i ≤ xs.length → Pv i σ H' → Same H H')
    (hs : ∀ i x σ H, xs[i]? = some x → Pv i σ H → g x σ H fun σ2 H2 => tb { D with nx := Pv (i + 1), ct := Pv (i + 1), bk := D.nx } σ2 H2) (hd : ∀ σ H, Pv xs.length σ H → D.nx σ H) : ForA K a g tb D σ H := for_any hA Pv h0 hl hs hd
/-- a new object: from here on only what stands in the heap is known -/
theorem new_obj {H : Hp} {o : HO} {R : V → Hp → Prop} (h : ∀ p H1, Same H H1 → H1 p = some o → R (.ref p) H1) : ∀ p, H p = none → R (.ref p) (upd H p o) := fun p hp =>
  h p _ (fun b u q => by rw [upd_ne (ne_of_none q hp)]; exact q) upd_same
theorem newS {H H' : Hp} {p : Addr} {o : HO} (h : H p = none) (e : upd H p o = H') : Same H H' := fun b u q => by rw [← e, upd_ne (ne_of_none q h)]; exact q
theorem newE {H H' : Hp} {p : Addr} {o : HO} (e : upd H p o = H') : H' p = some o := by rw [← e, upd_same]
theorem bits_sz {n : Nat} {i : Int} (h : Mth.Sz n i) : Builtin.Int.intBits i ≤ n := by
  unfold Builtin.Int.intBits
  split
  · exact Nat.zero_le _
  · rename_i z
    have : i.natAbs.log2 < n := (Nat.log2_lt (by simpa using z)).mpr h
    omega
theorem mulOk {m n : Nat} {i j : Int} (h : Mth.Sz m i) (k : Mth.Sz n j) (hm : m ≤ 2 ^ 20 := by decide) (hn : n ≤ 2 ^ 20 := by decide) : IntMulOk i j := IntMulOk.of_bits (Nat.le_trans (bits_sz h) hm) (Nat.le_trans (bits_sz k) hn)
theorem mulOkR {i j : Int} (h : Mth.Sz 64 j) : IntMulOk i j := IntMulOk.of_right (bits_sz h)
theorem divOk {n : Nat} {j : Int} (h : j ≠ 0) (k : Mth.Sz n j) (hn : n < 9000 := by decide) : DivOk j := ⟨h, Mth.log2_le k hn⟩
theorem len0 : ([] : List V).length ≤ sizeLine := by decide
theorem len2 {a b : V} : [a, b].length ≤ sizeLine := by show 2 ≤ sizeLine; decide
theorem len3 {a b c : V} : [a, b, c].length ≤ sizeLine := by show 3 ≤ sizeLine; decide
theorem len4 {a b c d : V} : [a, b, c, d].length ≤ sizeLine := by show 4 ≤ sizeLine; decide
theorem len5 {a b c d e : V} : [a, b, c, d, e].length ≤ sizeLine := by show 5 ≤ sizeLine; decide
theorem divOkL {j : Int} (h : decide (j ≠ 0 ∧ j.natAbs < 2 ^ 64) = true) : DivOk j := by
  have z := of_decide_eq_true h
  exact divOk z.1 (n := 64) z.2
theorem mulOkL {i j : Int} (h : decide (j.natAbs < 2 ^ 64) = true) : IntMulOk i j := by
  have z : j.natAbs < 2 ^ 64 := of_decide_eq_true h
  exact mulOkR z
theorem mulOkL' {i j : Int} (h : decide (i.natAbs < 2 ^ 64) = true) : IntMulOk i j := by
  have z : i.natAbs < 2 ^ 64 := of_decide_eq_true h
  exact IntMulOk.of_left (bits_sz (n := 64) z)
theorem powOkL {i j : Int} (h : decide (0 ≤ j ∧ j ≤ 1000000 ∧ i.natAbs < 2 ^ 64) = true) : CPow i j := by
  have z : 0 ≤ j ∧ j ≤ 1000000 ∧ i.natAbs < 2 ^ 64 := of_decide_eq_true h
  exact z
/-- a pair of ints, a fraction -/
def FrV (K : PySem.W.Frag) (H : Hp) (v : V) (a b : Int) : Prop := ∃ p, v = .ref p ∧ SqT K H p [.int a, .int b]
theorem FrV.same {K : PySem.W.Frag} {H H' : Hp} {v : V} {a b : Int} (S : Same H H') (h : FrV K H v a b) : FrV K H' v a b := by
  obtain ⟨p, e, q⟩ := h
  exact ⟨p, e, q.same S⟩
theorem FrV.of {K : PySem.W.Frag} {H : Hp} {p : Addr} {a b : Int} (h : H p = some (.tup [.int a, .int b])) : FrV K H (.ref p) a b := ⟨p, rfl, SqT.of h⟩
theorem ixT0 {K : PySem.W.Frag} {H : Hp} {p : Addr} {x : V} {r : List V} {Q : VK} (h : SqT K H p (x :: r)) (q : Q x H) : rIxU K (.ref p) (.int 0) H Q := ⟨_, x, .inr h, atI_nat (j := 0) rfl, q⟩
theorem ixT1 {K : PySem.W.Frag} {H : Hp} {p : Addr} {x y : V} {r : List V} {Q : VK} (h : SqT K H p (x :: y :: r)) (q : Q y H) : rIxU K (.ref p) (.int 1) H Q := ⟨_, y, .inr h, atI_nat (j := 1) rfl, q⟩
theorem ixF0 {K : PySem.W.Frag} {H : Hp} {v : V} {a b : Int} {Q : VK} (h : FrV K H v a b) (q : Q (.int a) H) : rIxU K v (.int 0) H Q := by
  obtain ⟨p, rfl, z⟩ := h
  exact ixT0 z q
theorem ixF1 {K : PySem.W.Frag} {H : Hp} {v : V} {a b : Int} {Q : VK} (h : FrV K H v a b) (q : Q (.int b) H) : rIxU K v (.int 1) H Q := by
  obtain ⟨p, rfl, z⟩ := h
  exact ixT1 z q
theorem FrV.rep {K : PySem.W.Frag} {H : Hp} {v : V} {a b : Int} (h : FrV K H v a b) : Rep K H (.tup [.int a, .int b]) v := by
  obtain ⟨p, rfl, z⟩ := h
  simp only [Rep, RepL]
  exact ⟨p, _, rfl, z, _, _, rfl, rfl, _, _, rfl, rfl, rfl⟩
theorem FrV.ty {K : PySem.W.Frag} {H : Hp} {v : V} {a b : Int} (h : FrV K H v a b) : tyN K H v "tuple" := by
  obtain ⟨p, rfl, z⟩ := h
  exact .inr ⟨rfl, _, z⟩
theorem eqF {K : PySem.W.Frag} {H : Hp} {x y : V} {a b c d : Int} {Q : VK} (h : FrV K H x a b) (g : FrV K H y c d) (q : Q (.bl (decide (a = c) && decide (b = d))) H) : rEqU K x y H Q := by
  have e : eqD (.tup [.int a, .int b]) (.tup [.int c, .int d]) = (decide (a = c) && decide (b = d)) := by
    simp only [eqD, eqL, Bool.and_true]
    congr 1 <;> simp [BEq.beq]
  have hr := h.rep
  have gr := g.rep
  obtain ⟨p, rfl, _⟩ := h
  obtain ⟨p', rfl, _⟩ := g
  exact ⟨_, _, hr, gr, by simp [depD, depL], rfl, by rw [e]; exact q⟩
theorem ixT {K : PySem.W.Frag} {H : Hp} {p : Addr} {xs : List V} {i : Nat} {v : V} {Q : VK} (h : SqT K H p xs) (e : xs[i]? = some v) (q : Q v H) : rIxU K (.ref p) (.int (i : Int)) H Q := ⟨xs, v, .inr h, atI_nat e, q⟩
theorem ixL {K : PySem.W.Frag} {H : Hp} {p : Addr} {xs : List V} {i : Nat} {v : V} {Q : VK} (h : SqL K H p xs) (e : xs[i]? = some v) (q : Q v H) : rIxU K (.ref p) (.int (i : Int)) H Q := ⟨xs, v, .inl h, atI_nat e, q⟩
end L2

set_option Elab.async false
set_option linter.all false
set_option maxRecDepth 100000
set_option maxHeartbeats 4000000

namespace L2
open PySem PySem.Spec PyProof.Rows
section
open PySem.W PySem.Builtin PySem.Builtin.ObjectAttr PySem.Builtin.Getset_descriptor
variable {prog : Program} {w : World} {A : Around} {E : Value → Shared → Prop} {s : Shared} {K : Frag} {x D : Addr} {ox : Obj}
theorem xc_type {M : Model} {h : Heap} (hx : h.get? x = some ox) (hc : ox.cls = .ref D) : Looks M h (typeOf (.ref x)) (.ref D) := hc ▸ (Looks.ld hx).andThen .now
/-- what an error's class must have for isinstance to say no -/
structure ExcC (K : PySem.W.Frag) (D : Addr) : Prop where
  cl : PySem.W.hasDictIn K D = true
  ga : PySem.W.findIn K (.ref D) "__getattribute__" = some (some (.builtin "BaseException.__getattribute__"))
  gh : PySem.W.findIn K (.ref D) "__getattr__" = some none
  ca : PySem.W.findIn K (.ref D) "__class__" = some (some (.builtin "object.__class__"))
  cg : PySem.W.specialIn K (.builtin "object.__class__") "__get__" = some (some (.builtin "getset_descriptor.__get__"))
  ct : PySem.W.takesIn K (.builtin "object.__class__") = some true
  mo : PySem.W.mroIn K D (.type "object") = some true
  mb : PySem.W.mroIn K D (.type "BaseException") = some true
theorem xc_find {M : Model} {h : Heap} (X : K.In h) (c : ExcC K D) : Looks M h (find (.ref x) (.ref D) "__class__") (.bind (.builtin "getset_descriptor.__get__") (.builtin "object.__class__")) := by
  have L1 := looks_findIn (M := M) X c.ca
  have L2 : Looks M h (getOf (some (.builtin "object.__class__"))) (some (.builtin "getset_descriptor.__get__")) := looks_specialIn X c.cg
  have L3 := looks_takesIn (M := M) X c.ct
  refine L1.andThen (L2.andThen ((show Looks M h (dataDescriptor? (some (.builtin "object.__class__")) (some (.builtin "getset_descriptor.__get__"))) (some (.builtin "getset_descriptor.__get__", .builtin "object.__class__")) from L3.andThen .now).andThen (Looks.tag .now)))
theorem xc_get {tp : Value} {R : Result → Shared → Prop} (X : K.In s.heap) (hx : s.heap.get? x = some ox) (hc : ox.cls = .ref D) (c : ExcC K D) (q : R (.ok (.ret (.ref D))) s) :
    codeAny (model prog w) A (.call (.builtin "getset_descriptor.__get__") ⟨[.builtin "object.__class__", .ref x, tp], []⟩) R s := by
  obtain ⟨hh, gg, dw, tt, oo⟩ := s
  have T0 := xc_type (M := model prog w) hx hc
  have T1 := looks_mroIn (M := model prog w) X c.mo
  refine codeAny_call_builtin (KF.slot_gs.plain) (KF.entry_gs) (KF.slot_gs.check _ _ _ _ _ _ _ _ (KF.type_class) (KF.args_gs _ _ _) ?_)
  (unfold Builtin.«getset_descriptor.__get__»; unfold descrGet)
  (rw [dga_obj]; refine wpAny_bind (wpAny_pure ?_))
  (unfold descrGetter; unfold descrCheckInstance; unfold descrNameAndClass; unfold isInstance)
  (simp only [KF.owner_class]; repeat lk)
  refine And.intro (Code.quiet_builtin _ (by decide +kernel)) (codeAny_builtin (KF.entry_class) ?_)
  (unfold Builtin.«object.__class__»; unfold shownTypeOf; repeat lk)
  exact q
theorem xc_attr {Q : Option Value → Shared → Prop} (X : K.In s.heap) (hx : s.heap.get? x = some ox) (hc : ox.cls = .ref D) (c : ExcC K D) (q : Q (some (.ref D)) { s with toks := s.toks + 1 }) :
    wpAny (model prog w) A (getAttr? (.ref x) "__class__") Q E s := by
  obtain ⟨hh, gg, dw, tt, oo⟩ := s
  have T0 := xc_type (M := model prog w) hx hc
  have T1 := looks_findIn (M := model prog w) X c.ga
  have T2 := looks_findIn (M := model prog w) X c.gh
  have T3 := xc_find (M := model prog w) (x := x) X c
  have T4 := looks_mroIn (M := model prog w) X c.mb
  have f3 : bindSpecial (.builtin "BaseException.__getattribute__") (.ref x) = pure (.builtin "BaseException.__getattribute__", [.ref x]) := by kernel_rfl
  unfold getAttr? getAttrBy? getAttrBy
  refine wpAny_bind (wpAny_mkText (wpAny_bind (wpAny_attempt (wpAny_holding (wpAny_bind (T0.at (wpAny_bind (T1.at ?_))))))))
  have e2 : (onTheHeap (Value.ref D) && Value.builtin "BaseException.__getattribute__" == Value.builtin "object.__getattribute__") = false := Bool.and_eq_false_iff.mpr (.inr (by decide +kernel))
  show wpAny _ _ (if (onTheHeap (Value.ref D) && Value.builtin "BaseException.__getattribute__" == Value.builtin "object.__getattribute__") = true then _ else getAttrByItsOwn _ _ _ _ _ _) _ _ _
  rw [if_neg (by rw [e2]; decide)]
  unfold getAttrByItsOwn hookBefore
  refine wpAny_bind ?_
  rw [if_pos (show onTheHeap (Value.ref D) = true from rfl)]
  refine T2.at ?_
  refine wpAny_bind (wpAny_attempt (wpAny_holding ?_))
  unfold callGetattribute boundAndCalled
  rw [if_neg (by decide), f3]
  refine wpAny_bind (wpAny_pure ?_)
  refine wpAny_call (codeAny_call_builtin (by decide +kernel) F.entry_bexc_ga ?_)
  have bk : builtinKind "BaseException.__getattribute__" = some .slot := by decide +kernel
  have bs : splitId "BaseException.__getattribute__" = some ("BaseException", "__getattribute__") := by decide +kernel
  have ba := F.args_bexc_ga (.ref x) (.str "__class__" tt)
  (simp only [checkBuiltinCall, bk, bs]; refine wpAny_bind ?_)
  unfold isInstance
  repeat (first | lk | wp_step)
  refine wpAny_run (xc_get X hx hc c ?_)
  repeat (first | lk | wp_step)
  exact q
theorem kitx_exc (c : ExcC K D) : KitX K (.ref x) (.ref D) (fun h => ∃ ox, h.get? x = some ox ∧ ox.cls = .ref D) where
  ty := fun _ _ _ ⟨ox, hx, hc⟩ => xc_type hx hc
  it := fun _ _ X _ => isType_of X c.cl
  ne := fun h tp dd its n sl X htp => by
    refine Bool.eq_false_iff.mpr fun q => ?_
    obtain rfl : D = tp := Value.ref.inj (beq_iff_eq.mp q)
    obtain ⟨cd, hcd, _⟩ := any_some c.cl
    (unfold clsIn at hcd; split at hcd)
    next ho => have z := X _ _ ho; rw [htp] at z; cases z
    next => cases hcd
  ca := fun X ⟨ox, hx, hc⟩ q => xc_attr X hx hc c q
end
section
variable {X : Cx}
/-- the class behind a value, as isinstance sees it -/
def clsV : V → Value
  | .ty T => .type T
  | .ref C => .ref C
  | _ => .none
inductive TyU (K : PySem.W.Frag) (H : Hp) : V → Value → Prop where
  | of {x : V} {t : Value} (h : TyOf K H x t) : TyU K H x t
  | sql {a : Addr} {xs : List V} (h : SqL K H a xs) : TyU K H (.ref a) (.type "list")
  | sqt {a : Addr} {xs : List V} (h : SqT K H a xs) : TyU K H (.ref a) (.type "tuple")
  | exc {a C : Addr} (e : H a = some (ExcO a C)) (c : ExcC K C) : TyU K H (.ref a) (.ref C)
def rIsiC (K : PySem.W.Frag) : List V → Hp → VK → Prop := fun xs H Q => ∃ x c t b, xs = [x, c] ∧ ((∃ T, c = .ty T) ∨ ∃ C, c = .ref C) ∧ TyU K H x t ∧ PySem.W.kitOne K t (clsV c) = some b ∧ Q (.bl b) H
theorem call_isinstanceC : CallR X (.builtin "isinstance") (rIsiC X.K) := fun pins s σ H xs us Q I r q => by
  obtain ⟨x, c, t, b, rfl, hc, ty, e, q⟩ := q
  obtain ⟨u, cv, rfl, ru, rc⟩ := vals2 r
  have ec : cv = clsV c := by
    rcases hc with ⟨T, rfl⟩ | ⟨C, rfl⟩
    · exact rc
    · exact rc
  subst ec
  have fin : ∀ tk, EP X pins σ Q (.bool b) { s with toks := tk } := fun tk => ⟨V.bl _, H, I.tok tk, rfl, q⟩
  cases ty with
  | of h => exact isinst_ok I ru h e fin
  | @sql a xs h =>
    cases (show u = Value.ref a from ru)
    obtain ⟨its, _, p, _⟩ := I.list h
    obtain ⟨o, _, h1, h2, _⟩ := p
    exact PySem.W.kia_one PySem.W.kitx_list I.kIn ⟨o, h1, h2⟩ e (fun z => nomatch z) fin
  | @sqt a xs h =>
    cases (show u = Value.ref a from ru)
    obtain ⟨its, _, p, _⟩ := I.tuple h
    obtain ⟨o, h1, h2, _⟩ := p
    exact PySem.W.kia_one PySem.W.kitx_tuple I.kIn ⟨o, h1, h2⟩ e (fun z => nomatch z) fin
  | @exc a C ea cc =>
    cases (show u = Value.ref a from ru)
    have ok := I.hok a _ ea
    obtain ⟨⟨ob, vs, h1, h2, _⟩, _⟩ := ok
    exact PySem.W.kia_one (kitx_exc cc) I.kIn ⟨ob, h1, h2⟩ e (fun z => nomatch z) fin
def tChain3 (r r' r'' : R2) (ta tb tc td : TE) : TE := fun σ H Q => ta σ H fun x H1 => tb σ H1 fun y H2 => r x y H2 fun z H3 => ∃ k, z = .bl k ∧
  (if k = true then tc σ H3 fun w' H4 => r' y w' H4 fun z' H5 => ∃ k', z' = .bl k' ∧ (if k' = true then td σ H5 fun u' H6 => r'' w' u' H6 Q else Q (.bl false) H5) else Q (.bl false) H3)
def rFmt : V → Hp → VK → Prop := fun x H Q => match x with
  | .int i => i.natAbs.log2 < 1920 ∧ Q (.str (toString i)) H
  | _ => False
def TJ := St → Hp → Str → VK → Prop
def jNil : TJ := fun _ H acc Q => acc.length ≤ sizeLine ∧ Q (.str acc) H
def jCons (te : TE) (t : TJ) : TJ := fun σ H acc Q => te σ H fun x H1 => ∃ y, x = .str y ∧ (acc ++ y).length ≤ sizeLine ∧ t σ H1 (acc ++ y) Q
def tFstr (t : TJ) : TE := fun σ H Q => t σ H Str.empty Q
def rStrI : List V → Hp → VK → Prop := fun xs H Q => match xs with
  | [.int i] => i.natAbs.log2 < 1920 ∧ Q (.str (toString i)) H
  | _ => False
end
end L2

set_option Elab.async false
set_option linter.all false
set_option maxRecDepth 100000
set_option maxHeartbeats 4000000

namespace L2
open PySem PySem.Spec PyProof.Rows
section
variable {En : Ends} {σ : St} {H : Hp} {Q : VK} {t u : TS} {ta tb te tc td : TE} {g : TG} {gs : TGs} {tA : TA} {E : XK} {sp : Sp} {K : PySem.W.Frag}
theorem y73y {r : V → Option Int → Option Int → Hp → VK → Prop} {tl th : TO} : tSl r te tl th σ H Q = te σ H fun x H1 => tl σ H1 fun l H2 => th σ H2 fun u H3 => r x l u H3 Q := rfl
theorem y6cy {R : Option Int → Hp → Prop} : tPart te σ H R = te σ H fun x H1 => ∃ i, x = .int i ∧ R (some i) H1 := rfl
theorem y64y {R : Option Int → Hp → Prop} : tNoPart σ H R = R none H := rfl
theorem y2fy {r r' : R2} : tChain r r' ta tb tc σ H Q = ta σ H fun x H1 => tb σ H1 fun y H2 => r x y H2 fun z H3 => ∃ k, z = .bl k ∧ (if k = true then tc σ H3 fun w' H4 => r' y w' H4 Q else Q (.bl false) H3) := rfl
theorem y30y {r r' r'' : R2} : tChain3 r r' r'' ta tb tc td σ H Q = ta σ H fun x H1 => tb σ H1 fun y H2 => r x y H2 fun z H3 => ∃ k, z = .bl k ∧
  (if k = true then tc σ H3 fun w' H4 => r' y w' H4 fun z' H5 => ∃ k', z' = .bl k' ∧ (if k' = true then td σ H5 fun u' H6 => r'' w' u' H6 Q else Q (.bl false) H5) else Q (.bl false) H3) := rfl
theorem y48y {tj : TJ} : tFstr tj σ H Q = tj σ H Str.empty Q := rfl
theorem y53y {tj : TJ} {acc : Str} : jCons te tj σ H acc Q = te σ H fun x H1 => ∃ y, x = .str y ∧ (acc ++ y).length ≤ sizeLine ∧ tj σ H1 (acc ++ y) Q := rfl
theorem y54y {acc : Str} : jNil σ H acc Q = (acc.length ≤ sizeLine ∧ Q (.str acc) H) := rfl
theorem y43y {i : Int} : rFmt (.int i) H Q = (i.natAbs.log2 < 1920 ∧ Q (.str (toString i)) H) := rfl
theorem y74y {i : Int} : rStrI [.int i] H Q = (i.natAbs.log2 < 1920 ∧ Q (.str (toString i)) H) := rfl
theorem y77y {D0 : Addr} {i : Nat} {tx : St → Hp → VK → XK → Prop} {ts : TS} : tTryAs K D0 i tx ts En σ H = tx σ H (fun _ H1 => En.nx σ H1) fun cls _ H1 => ∃ C, cls = .ref C ∧ Catches K C D0 ∧
  ∀ ea, H1 ea = none → ts { nx := fun σ' H' => En.nx (σ'.set i none) H', rt := En.rt, bk := fun σ' H' => En.bk (σ'.set i none) H', ct := fun σ' H' => En.ct (σ'.set i none) H' } (σ.set i (some (.ref ea))) (upd H1 ea (ExcO ea C)) := rfl
theorem y80y {dvs : List V} {Qx : VK} {Ex : XK} : xCall sp dvs tA σ H Qx Ex = tA σ H fun vs H1 => sp (vs ++ dvs) H1 Qx Ex := rfl
theorem y6ey {C : Addr} : tRaise E C tA En σ H = tA σ H fun vs H1 => vs.length ≤ sizeLine ∧ E (.ref C) none H1 := rfl
theorem isiX {a C : Addr} {c : V} {b : Bool} (e : H a = some (ExcO a C)) (x : ExcC K C) (hc : (∃ T, c = .ty T) ∨ ∃ C, c = .ref C) (k : PySem.W.kitOne K (.ref C) (clsV c) = some b) (q : Q (.bl b) H) : rIsiC K [.ref a, c] H Q :=
  ⟨_, _, _, b, rfl, hc, .exc e x, k, q⟩
theorem isiXr {a C c : Addr} {b : Bool} (e : H a = some (ExcO a C)) (x : ExcC K C) (k : PySem.W.kitOne K (.ref C) (.ref c) = some b) (q : Q (.bl b) H) : rIsiC K [.ref a, .ref c] H Q := isiX e x (.inr ⟨_, rfl⟩) k q
theorem isiXt {a C : Addr} {T : String} {b : Bool} (e : H a = some (ExcO a C)) (x : ExcC K C) (k : PySem.W.kitOne K (.ref C) (.type T) = some b) (q : Q (.bl b) H) : rIsiC K [.ref a, .ty T] H Q := isiX e x (.inl ⟨_, rfl⟩) k q
theorem repL_bl : ∀ bs : List Bool, RepL K H (bs.map D.bl) (bs.map V.bl)
  | [] => by simp only [List.map_nil, RepL]
  | b :: bs => by simp only [List.map_cons, RepL, Rep]; exact ⟨_, _, rfl, rfl, repL_bl bs⟩
theorem eqL_bl : ∀ as bs : List Bool, eqL (as.map D.bl) (bs.map D.bl) = decide (as = bs)
  | [], [] => by simp [eqL]
  | [], _ :: _ => by simp [eqL]
  | _ :: _, [] => by simp [eqL]
  | a :: as, b :: bs => by
    simp only [List.map_cons, eqL, eqD, eqL_bl as bs, List.cons.injEq]
    cases a <;> cases b <;> simp
theorem depL_bl : ∀ bs : List Bool, depL (bs.map D.bl) = 0
  | [] => by simp [depL]
  | b :: bs => by simp [depL, depD, depL_bl bs]
/-- two lists of truths -/
theorem eqBL {l m : Addr} {as bs : List Bool} (h : H l = some (.lst (as.map V.bl))) (g : H m = some (.lst (bs.map V.bl))) (q : Q (.bl (decide (as = bs))) H) : rEqU K (.ref l) (.ref m) H Q := by
  refine ⟨.lst (as.map D.bl), .lst (bs.map D.bl), ?_, ?_, ?_, rfl, ?_⟩
  · simp only [Rep]; exact ⟨_, _, rfl, SqL.of h, repL_bl as⟩
  · simp only [Rep]; exact ⟨_, _, rfl, SqL.of g, repL_bl bs⟩
  · simp only [depD, depL_bl]; decide
  · simp only [eqD, eqL_bl]; exact q
theorem pe_isiC {X : Cx} {K : PySem.W.Frag} (hK : X.K = K) {x : Str} {p pos : Pos} {e : Expr} {es : List Expr} {t : TA} (hg : Gl X x) (hm : X.mg x = none) (hv : bootBuiltins x = some (.builtin "isinstance")) (ha : PA X (e :: es) t) (hn : x ≠ "__name__" := by decide)
    (hdb : (x == ("__debug__" : Str)) = false := by decide) (he : starEach (e :: es) X.env = (false, eval e X.env) :: starEach es X.env := by rfl) (hpl : (backTo pos (starEach es X.env)).any (·.1) = false := by rfl) :
    PE X (.Call (.Name x p) (e :: es) [] pos) (tCB (rIsiC K) t) := hK ▸ pe_callB call_isinstanceC hg hm hv ha hn hdb he hpl
end
end L2

set_option Elab.async false
set_option linter.all false
set_option maxRecDepth 100000
set_option maxHeartbeats 4000000

namespace L2
open PySem PySem.Spec PyProof.Rows
def Its (x : Str) : It := ⟨fun i _ => i < x.cps.size, fun i H v H' => H' = H ∧ ∃ c, x.cps[i]? = some c ∧ v = .str ⟨#[c]⟩, fun i _ => i = x.cps.size⟩
theorem turn_walk {P : Program} {w : World} {K : PySem.W.Frag} {tg : Expr} {it : Addr} {x : Str} {n : String} {St : Nat → Heap → Prop} (hn : ["enumerate", "zip", "dict_itemiterator", "dict_reverseitemiterator", "odict_iterator", "itertools.zip_longest", "itertools.pairwise"].contains n = false)
    (hst : ∀ i h, St i h → ∃ o vs, h.get? it = some o ∧ o.cls = .type n ∧ o.data = .fields vs) (mk : ∀ A : Around, A.handled = none → Walks P w A it [it] [it] x.cps.size (SignAt x) St)
    (hself : ∀ (A : Around) (i : Nat) (s : Shared) (Q : Value → Shared → Prop) (E : Value → Shared → Prop), St i s.heap → Q (.ref it) s → wpAny (model P w) A (pyIter (.ref it)) Q E s) : Turn P w K tg (Its x) [it] it St where
  mem := by simp
  obj := fun i h st b hb => by
    obtain rfl : b = it := by simpa using hb
    obtain ⟨o, vs, e, _, d⟩ := hst i h st
    exact ⟨o, e, fun v z => by rw [d] at z; cases z⟩
  keep := fun i h h' st k => (mk {} rfl).frame i h h' st fun b hb o e => k b hb o e
  item := by
    intro X hP hw hK hc i pins s σ H E I hf st hg
    subst hP hw hK
    obtain ⟨f0, f1, f2, f3, f4, f5⟩ := hf it (by simp)
    refine (mk X.A (I.ok.hd hc)).item i s _ _ hg st fun v h' tk hv st' kk => ?_
    obtain ⟨c, u, hc', rfl⟩ := hv
    have I1 : Inv X pins σ H { s with heap := h', toks := tk } := I.turned (fun b o hb e => kk b o (by simpa using hb) e) f0 f1 f3 f4 f5
    obtain ⟨o, vs, e1, e2, e3⟩ := hst _ _ st'
    exact ⟨_, rfl, go_of (s := { s with heap := h', toks := tk }) e1 e2 e3 hn ⟨.str ⟨#[c]⟩, H, I1, ⟨u, rfl⟩, ⟨rfl, c, hc', rfl⟩, st', fun b hb => (hf b hb).1⟩⟩
  done := by
    intro X hP hw hK hc i pins s σ H E I hf st hg
    subst hP hw hK
    obtain ⟨f0, f1, f2, f3, f4, f5⟩ := hf it (by simp)
    have hg' : i = x.cps.size := hg
    subst hg'
    exact (mk X.A (I.ok.hd hc)).done s _ _ st fun h' tk kk => ⟨rfl, I.turned (fun b o hb e => kk b o (by simpa using hb) e) f0 f1 f3 f4 f5⟩
  self := hself
section
variable {X : Cx} {tg : Expr}
def iStr (tl : TE) : TI := fun σ H R => tl σ H fun x H1 => ∃ z, x = .str z ∧ R (Its z) H1
theorem pi_str {l : Expr} {tl : TE} (hl : PE X l tl) : PI X tg l (iStr tl) := fun pins s σ H R I h => by
  refine thn (hl pins s σ H _ I h) fun v s1 ⟨x, H1, I1, r1, z, ex, q⟩ => ?_
  subst ex
  obtain ⟨t, rfl⟩ := r1
  have key : ∀ (n : String), (n = "str_ascii_iterator" ∨ n = "str_iterator") → PIE X pins σ tg R (.ref s1.heap.objs.size) { s1 with heap := s1.heap.push { cls := .type n, data := .fields #[.str z t, .int 0 0] } } := fun n hn => by
    have hT : Turn X.prog X.w X.K tg (Its z) [s1.heap.objs.size] s1.heap.objs.size (fun i h => h.IsStrIter s1.heap.objs.size n z t i) := by
      rcases hn with rfl | rfl
      · exact turn_walk (n := "str_ascii_iterator") (by decide) (fun i h st => let ⟨o, a, b, c⟩ := st; ⟨o, _, a, b, c⟩) (fun A hA => Walks.strAscii hA _ z t) fun A i s Q E st q => wpAny_pyIter_striter_ascii st q
      · exact turn_walk (n := "str_iterator") (by decide) (fun i h st => let ⟨o, a, b, c⟩ := st; ⟨o, _, a, b, c⟩) (fun A hA => Walks.strWide hA _ z t) fun A i s Q E st q => wpAny_pyIter_striter_wide st q
    refine ⟨s1.heap.objs.size, [s1.heap.objs.size], _, _, H1, rfl, I1.kept (t' := s1.toks) fun b o e => Heap.get?_push_of_some _ e, hT, ⟨_, Heap.get?_push_size _ rfl, rfl, rfl⟩, fun b hb => ?_, q⟩
    obtain rfl : b = s1.heap.objs.size := by simpa using hb
    exact I1.fpOk (Nat.le_refl _) (I1.hok.fresh (Nat.le_refl _))
  cases ha : z.cps.all (· < 128)
  · exact wpAny_pyIter_wide ha (key _ (.inr rfl))
  · exact wpAny_pyIter_ascii ha (key _ (.inl rfl))
end

abbrev Cx.inc (X : Cx) (N' : List Str) (scope : Scope) (cl : List (Str × Addr)) (fp : List Addr) (s2 : Shared) (H2 : Hp) (C : Addr) : Cx :=
  { X with N := N', s₀ := s2, H₀ := H2, env := compEnvC scope cl C X.env, outer := X.stack, ex := fp, fn := fun _ => false, pn := [], xe := fun _ _ => False }
section
variable {X : Cx} {pins : List (Addr × Obj)} {σ : St} {H2 : Hp} {s2 : Shared} {N' : List Str} {scope : Scope} {cl : List (Str × Addr)} {fp : List Addr} {C : Addr}
theorem Inv.incOk (I : Inv X pins σ H2 s2) (hf : ∀ b ∈ fp, FpOk X pins H2 b) (hfp : ∀ b ∈ fp, b < s2.heap.objs.size) (hk : scope.kind = .function) (hC : s2.heap.objs.size ≤ C) (hcl : ∀ x c, cl.lookup x = some c → X.env.cells.lookup x = some c)
    (hhas : ∀ y, ((relabel scope X.env).names.lookup y = some .cell ∨ (relabel scope X.env).names.lookup y = some .free) → ∃ c, cl.lookup y = some c) : (X.inc N' scope cl fp s2 H2 C).Ok where
  mod := I.ok.mod
  kind := hk
  glob := I.ok.glob
  blt := I.ok.blt
  above := hC
  inj := fun x y c h1 h2 => I.ok.inj x y c (hcl x c h1) (hcl y c h2)
  has := fun y hy => hhas y hy
  cab := fun x c h => by cases h
  hd := I.ok.hd
  frames := I.ok.frames
  stk := .inl rfl
  exf := fun b hb => ⟨Nat.ne_of_lt (Nat.lt_of_lt_of_le (hfp b hb) hC), fun x c e => (hf b hb).2.2.2.2.1 x c (hcl x c e)⟩
  bs := I.bs
  bsz := Nat.le_trans I.ok.bsz I.sz
  noex := fun b o e hb => by
    rcases (hf b hb).2.2.2.1 with z | z
    · exact I.ok.noex b o e z
    · exact absurd (Nat.lt_of_lt_of_le (Nat.lt_of_lt_of_le (Heap.lt_size e) I.ok.bsz) z) (Nat.lt_irrefl _)
  exfs := fun b hb hm => by
    rcases List.mem_cons.mp (I.stkSub b hm) with z | z
    · exact (hf b hb).2.1 z
    · exact (hf b hb).2.2.1 z
  funs := I.stack
  frf := I.stkFree
/-- the captured names' values -/
def capsAt (cs : List (Nat × Str)) (σ : St) : St := cs.map fun p => (σ[p.1]?).join
theorem Inv.capsLoc {s4 : Shared} {m : Str → Option Value} {own : List Str} {cs : List (Nat × Str)} (I : Inv X pins σ H2 s2) (ok : (X.inc (own ++ cs.map (·.2)) scope cl fp s2 H2 C).Ok) (kept : ∀ c v, (∃ x, cl.lookup x = some c) → s2.heap.IsCell c v → s4.heap.IsCell c v)
    (hcl : ∀ x c, cl.lookup x = some c → X.env.cells.lookup x = some c) (hcs : ∀ p ∈ cs, X.N[p.1]? = some p.2 ∧ X.env.scope.names.lookup p.2 = some .cell ∧ (relabel scope X.env).names.lookup p.2 = some .cell) :
    ∀ (i : Nat) (x : Str) (v : V), (own ++ cs.map (·.2))[i]? = some x → (List.replicate own.length none ++ capsAt cs σ)[i]? = some (some v) → ∃ u, RelV v u ∧ Look (compEnvC scope cl C X.env) s4.heap m x u := fun i x v h1 h2 => by
    by_cases hi : i < own.length
    · rw [List.getElem?_append_left (by simpa using hi), List.getElem?_replicate, if_pos hi] at h2
      cases h2
    · have h2' : (capsAt cs σ)[i - own.length]? = some (some v) := by rw [List.getElem?_append_right (by simp; omega)] at h2; simpa using h2
      have h1' : (cs.map (·.2))[i - own.length]? = some x := by
        rwa [List.getElem?_append_right (by omega)] at h1
      unfold capsAt at h2'
      rw [List.getElem?_map] at h1' h2'
      cases q : cs[i - own.length]? with
      | none => rw [q] at h1'; cases h1'
      | some p =>
        rw [q] at h1' h2'
        obtain rfl : p.2 = x := by simpa using h1'
        have e2 : (σ[p.1]?).join = some v := by simpa using h2'
        have e2' : σ[p.1]? = some (some v) := by
          cases z : σ[p.1]? with
          | none => rw [z] at e2; cases e2
          | some o => rw [z] at e2; exact congrArg some e2
        obtain ⟨c1, c2, c3⟩ := hcs p (List.mem_of_getElem? q)
        obtain ⟨m0, _, hl⟩ := I.loc
        obtain ⟨u, ru, lk⟩ := hl p.1 p.2 v c1 e2' (.inr (.inl c2))
        refine ⟨u, ru, .inr ⟨.inl c3, ?_⟩⟩
        obtain ⟨c, hc⟩ := ok.has p.2 (.inl c3)
        refine ⟨c, hc, ?_⟩
        rcases lk with ⟨k, _⟩ | ⟨_, c', e', hcell⟩
        · have k : X.env.scope.names.lookup p.2 = some .local := k
          rw [c2] at k; cases k
        · rw [hcl _ _ hc] at e'
          cases e'
          exact kept _ _ ⟨_, hc⟩ hcell
theorem Inv.incStart {s4 : Shared} {m : Str → Option Value} {own : List Str} {cs : List (Nat × Str)} (I : Inv X pins σ H2 s2) (ok : (X.inc (own ++ cs.map (·.2)) scope cl fp s2 H2 C).Ok) (kept : ∀ b o, s2.heap.get? b = some o → s4.heap.get? b = some o) (hos : s4.os = s2.os) (hg : s4.gens = s2.gens) (hm : s4.heap.Ns C m)
    (hC : s2.heap.objs.size ≤ C) (hcl : ∀ x c, cl.lookup x = some c → X.env.cells.lookup x = some c)
    (hcs : ∀ p ∈ cs, X.N[p.1]? = some p.2 ∧ X.env.scope.names.lookup p.2 = some .cell ∧ (relabel scope X.env).names.lookup p.2 = some .cell) :
    Inv (X.inc (own ++ cs.map (·.2)) scope cl fp s2 H2 C) [] (List.replicate own.length none ++ capsAt cs σ) H2 s4 where
  ok := ok
  os := hos
  bare := by rw [hg]; exact I.bare
  base := Un.kept kept
  loc := ⟨m, hm, fun i x v h1 h2 _ => I.capsLoc (m := m) ok (fun c v _ ⟨o, ho, hd⟩ => ⟨o, kept _ _ ho, hd⟩) hcl hcs i x v h1 h2⟩
  cell := fun x c e => by
    obtain ⟨v, o, ho, hd⟩ := I.cell x c (hcl x c e)
    exact ⟨v, o, kept _ _ ho, hd⟩
  free := I.hok.fresh hC
  freeC := fun x c e => I.freeC x c (hcl x c e)
  pin := fun p hp => by simp at hp
  hok := I.hok.kept kept
  len := by simp [capsAt]
theorem Inv.incAgain {s' : Shared} {H' : Hp} {σ' : St} {pl : List (Addr × Obj)} {own : List Str} {cs : List (Nat × Str)} (I : Inv X pins σ H2 s2) (J : Inv (X.inc (own ++ cs.map (·.2)) scope cl fp s2 H2 C) pl σ' H' s')
    (hf : ∀ b ∈ fp, FpOk X pins H2 b) (hcl : ∀ x c, cl.lookup x = some c → X.env.cells.lookup x = some c) (hcs : ∀ p ∈ cs, X.N[p.1]? = some p.2 ∧ X.env.scope.names.lookup p.2 = some .cell ∧ (relabel scope X.env).names.lookup p.2 = some .cell) :
    Inv (X.inc (own ++ cs.map (·.2)) scope cl fp s2 H2 C) [] (List.replicate own.length none ++ capsAt cs σ) H' s' where
  ok := J.ok
  os := J.os
  bare := J.bare
  base := J.base
  loc := by
    obtain ⟨m, hm, _⟩ := J.loc
    refine ⟨m, hm, fun i x v h1 h2 _ => I.capsLoc (m := m) J.ok (fun c v ⟨x, hx⟩ ⟨o, ho, hd⟩ => ?_) hcl hcs i x v h1 h2⟩
    have nf : c ∉ fp := fun z => (hf c z).2.2.2.2.1 x c (hcl x c hx) rfl
    by_cases hm : c ∈ frs X.stack
    · obtain ⟨sl, z⟩ := J.base.slot c o ho (I.freeC x c (hcl x c hx)) hm nf
      exact ⟨_, z, hd⟩
    · exact ⟨o, J.base.keep c o ho (I.freeC x c (hcl x c hx)) hm nf, hd⟩
  cell := J.cell
  free := J.free
  freeC := J.freeC
  pin := fun p hp => by simp at hp
  hok := J.hok
  len := by simp [capsAt]
end

section
variable {prog : Program} {w : World} {A : Around} {E : Value → Shared → Prop} {R : Result → Shared → Prop} {s : Shared}
theorem comp_turns {elt target iter : Expr} {scope : Scope} {pos : Pos} {it acc : Value} {env : Env} (J : Nat → Shared → Prop)
    (turn : ∀ n s, J n s → wpAny (model prog w) A (pyNext it) (fun r s1 => match r with
      | none => R (.ok .next) s1
      | some v => wpAny (model prog w) A (letOwnedTupleGo target it v) (fun _ s2 => wpAny (model prog w) A (assign target env v) (fun _ s3 => wpAny (model prog w) A (eval elt env) (fun x s4 =>
          wpAny (model prog w) A (call (.builtin "list.append") [acc, x]) (fun _ s5 => ∃ m, m < n ∧ J m s5) (fun _ _ => False) s4) (fun _ _ => False) s3) (fun _ _ => False) s2) (fun _ _ => False) s1) (fun _ _ => False) s) (n : Nat) (h : J n s) :
    codeAny (model prog w) A (.compLoop (.ListComp elt [⟨target, iter, [], 0⟩] scope pos) 0 it acc env) R s := by
  refine codeAny_loop rfl J (fun n s hJ => ?_) n h
  show wpAny _ A ((compTurn (.ListComp elt [⟨target, iter, [], 0⟩] scope pos) 0 it acc env).onRaise (fun y => do noteFrame y env; theTreesLotGoes y)) _ _ s
  (refine wpAny_noted ?_; rw [compTurn_list])
  refine wpAny_bind (wpAny_standAt (wpAny_bind (wpAny_mono (turn n s hJ) (fun r s1 q1 => ?_) fun _ _ z => z.elim)))
  cases r with
  | none => exact wpAny_pure q1
  | some v =>
    refine wpAny_bind (wpAny_mono q1 (fun _ s2 q2 => wpAny_bind (wpAny_mono q2 (fun _ s3 q3 => ?_) fun _ _ z => z.elim)) fun _ _ z => z.elim)
    refine wpAny_bind (wpAny_tests_nil ?_)
    exact wpAny_bind (wpAny_bind (wpAny_mono q3 (fun x s4 q4 => (wpAny_bind (wpAny_mono q4 (fun _ s5 q5 => (wpAny_pure (wpAny_pure ⟨rfl, q5⟩))) fun _ _ z => z.elim))) fun _ _ z => z.elim))
end

/-- [elt for tg in iter] -/
def tComp (k : Nat) (cs : List (Nat × Str)) (wi : TI) (g : TG) (te : TE) : TE := fun σ H Q => wi σ H fun J H1 => ∃ W : Nat → Nat → List V → Hp → Prop, (∃ m, W 0 m [] H1) ∧ ∀ i m ys H2, W i m ys H2 → ys.length ≤ sizeLine ∧
  ((J.stop i H2 ∧ ∀ p, H2 p = none → Q (.ref p) (upd H2 p (.lst ys))) ∨
   (J.go i H2 ∧ ∀ x H3, J.yld i H2 x H3 → g x (List.replicate k none ++ capsAt cs σ) H3 fun σ4 H4 => te σ4 H4 fun y H5 => ∃ m', m' < m ∧ W (i + 1) m' (ys ++ [y]) H5))
theorem lstP {us : List Value} {v : Value} : (us.toArray.push v) = (us ++ [v]).toArray := by simp
section
variable {X : Cx} {tg : Expr}
theorem pe_comp {iter elt : Expr} {scope : Scope} {pos : Pos} {own : List Str} {cl : List (Str × Addr)} {cs : List (Nat × Str)} {wi : TI} {g : TG} {te : TE} (hc : X.calm = true) (hi : PI X tg iter wi)
    (hg : ∀ fp s2 H2 C, PG (X.inc (own ++ cs.map (·.2)) scope cl fp s2 H2 C) tg g) (he : ∀ fp s2 H2 C, PE (X.inc (own ++ cs.map (·.2)) scope cl fp s2 H2 C) elt te)
    (hclos : closureFor scope X.env = pure cl) (hcell : ∀ y ∈ scope.names, y.2 ≠ .cell) (hkind : scope.kind = .function) (hnames : ∀ y ∈ scope.names, y.2 = .local → scope.names.lookup y.1 = some .local)
    (hcl : ∀ x c, cl.lookup x = some c → X.env.cells.lookup x = some c) (hhas : ∀ y, ((relabel scope X.env).names.lookup y = some .cell ∨ (relabel scope X.env).names.lookup y = some .free) → ∃ c, cl.lookup y = some c)
    (hcs : ∀ p ∈ cs, X.N[p.1]? = some p.2 ∧ X.env.scope.names.lookup p.2 = some .cell ∧ (relabel scope X.env).names.lookup p.2 = some .cell)
    (hs : ∀ x, foldedSetIterable iter X.env x = pure x := by intro _; rfl) : PE X (.ListComp elt [⟨tg, iter, [], 0⟩] scope pos) (tComp own.length cs wi g te) := by
  intro pins s σ H Q I h
  rw [eval_ListComp]
  refine wpAny_comprehension_free (use := none) rfl hs hclos hkind hnames (thn (hi pins s σ H _ I h) fun v s1 h1 => thn h1 fun itv s2 h2 => ?_)
  obtain ⟨it, fp, tn, J, H2, rfl, I2, T, st2, f2, W, ⟨m0, w0⟩, turn⟩ := h2
  have hfp : ∀ b ∈ fp, b < s2.heap.objs.size := fun b hb => by
    obtain ⟨o, e, _⟩ := T.obj _ _ st2 b hb
    exact Heap.lt_size e
  refine wpAny_newObj_type (wpAny_newFunctionEnv hcell (by intro y hy; simp at hy) (fun h4 hns4 hsb4 => ?_) hkind)
  dsimp only at hns4 hsb4 ⊢
  generalize hH3 : s2.heap.push { cls := .type "list", dict := none, data := .seq ([] : List Value).toArray } = H3 at hns4 hsb4 ⊢
  have hCs : H3.objs.size = s2.heap.objs.size + 1 := by rw [← hH3, Heap.size_push]
  have hC : s2.heap.objs.size ≤ H3.objs.size := by omega
  have hDC : s2.heap.objs.size ≠ H3.objs.size := by omega
  have old : ∀ b o, s2.heap.get? b = some o → h4.get? b = some o := fun b o e => hsb4.extBut b o (by have := Heap.lt_size e; exact Nat.ne_of_lt (Nat.lt_of_lt_of_le this hC)) (Heap.get?_push_of_some _ (hH3 ▸ Heap.get?_push_of_some _ e))
  have hD4 : h4.get? s2.heap.objs.size = some { cls := .type "list", data := .seq ([] : List Value).toArray } := hsb4.extBut _ _ hDC (Heap.get?_push_of_some _ (hH3 ▸ Heap.get?_push_size _ rfl))
  obtain ⟨D, hDe⟩ : ∃ D, D = s2.heap.objs.size := ⟨_, rfl⟩
  obtain ⟨C, hCe⟩ : ∃ C, C = H3.objs.size := ⟨_, rfl⟩
  rw [← hCe] at hCs hns4 hsb4 hC hDC ⊢
  rw [← hDe] at hfp hCs hC hDC hD4 ⊢
  have ok' := I2.incOk (N' := own ++ cs.map (·.2)) (C := C) f2 (fun b hb => by rw [← hDe]; exact hfp b hb) hkind (by rw [← hDe]; exact hC) hcl hhas
  have I4 : Inv (X.inc (own ++ cs.map (·.2)) scope cl fp s2 H2 C) [] (List.replicate own.length none ++ capsAt cs σ) H2 { s2 with heap := h4, toks := s2.toks + ([] : List (Str × Value)).length } :=
    I2.incStart (s4 := { s2 with heap := h4, toks := s2.toks + ([] : List (Str × Value)).length }) ok' old rfl rfl hns4 (by rw [← hDe]; exact hC) hcl hcs
  have Dfree : H2 D = none := I2.hok.fresh (Nat.le_of_eq hDe.symm)
  have ltD : ∀ b o, s2.heap.get? b = some o → b ≠ D := fun b o e => by
    rw [hDe]
    exact Nat.ne_of_lt (Heap.lt_size e)
  have ltC : ∀ b o, s2.heap.get? b = some o → b ≠ C := fun b o e => Nat.ne_of_lt (Nat.lt_of_lt_of_le (by rw [hDe]; exact Heap.lt_size e) hC)
  have Dfs : D ∉ frs X.stack := fun hm => by
    obtain ⟨_, o, e, _⟩ := I2.stack.mem hm
    exact ltD _ _ e rfl
  have pinD : ∀ {σ' : St} {H' : Hp} {s' : Shared} {us : List Value} {n : Nat} {pl : List (Addr × Obj)}, Inv (X.inc (own ++ cs.map (·.2)) scope cl fp s2 H2 C) pl σ' H' s' → s'.heap.get? D = some { cls := .type "list", data := .seq us.toArray n } → H' D = none →
      Inv (X.inc (own ++ cs.map (·.2)) scope cl fp s2 H2 C) [(D, { cls := .type "list", data := .seq us.toArray n })] σ' H' s' := fun {σ' H' s' us n pl} J' e n' => J'.pins_of fun p hp => by
    rcases List.mem_singleton.mp hp with rfl
    exact ⟨e, n', hDC, Dfs, fun v z => by cases z⟩
  have fpok : ∀ {H' : Hp} {o : Obj}, (∀ b ∈ fp, H' b = none) → ∀ b ∈ fp, FpOk (X.inc (own ++ cs.map (·.2)) scope cl fp s2 H2 C) [(D, o)] H' b := fun {H' o} hn b hb => by
    refine ⟨hn b hb, (ok'.exf b hb).1, ok'.exfs b hb, .inl hb, (ok'.exf b hb).2, fun p hp => ?_⟩
    rcases List.mem_singleton.mp hp with rfl
    exact Nat.ne_of_gt (hfp b hb)
  have loop : ∀ s3 : Shared, s3 = { s2 with heap := h4, toks := s2.toks + ([] : List (Str × Value)).length } →
      codeAny (model X.prog X.w) X.A (.compLoop (.ListComp elt [⟨tg, iter, [], 0⟩] scope pos) 0 (.ref it) (.ref D) (compEnvC scope cl C X.env)) (compPost (model X.prog X.w) X.A X.xe none (EP X pins σ Q) (.ref D) C) s3 := by
    rintro s3 rfl
    refine comp_turns (fun n s' => ∃ i ys us nn H', Inv (X.inc (own ++ cs.map (·.2)) scope cl fp s2 H2 C) [(D, { cls := .type "list", data := .seq us.toArray nn })] (List.replicate own.length none ++ capsAt cs σ) H' s' ∧ tn i s'.heap ∧ (∀ b ∈ fp, H' b = none) ∧ Vals ys us ∧ W i n ys H') ?_ m0
      ⟨0, [], [], 0, H2, pinD (us := []) (n := 0) I4 hD4 Dfree, T.keep _ _ _ st2 fun b hb o e => old b o e, fun b hb => (f2 b hb).1, .nil, w0⟩
    rintro n s5 ⟨i, ys, us, nn, H5, I5, st5, fr5, vy, w5⟩
    obtain ⟨hz, ⟨stop, qn⟩ | ⟨go, step⟩⟩ := turn i n ys H5 w5
    · refine wpAny_mono (T.done (X.inc (own ++ cs.map (·.2)) scope cl fp s2 H2 C) rfl rfl rfl hc i _ s5 _ H5 (fun _ _ => False) I5 (fpok fr5) st5 stop) (fun r s6 z => ?_) fun _ _ z => z
      obtain ⟨rfl, I6⟩ := z
      obtain ⟨m6, hn6, _⟩ := id I6.loc
      refine ⟨m6, hn6, fun h7 hs7 => ?_⟩
      obtain ⟨pD, pN, _, _, _⟩ := I6.pin (D, { cls := .type "list", data := .seq us.toArray nn }) (by simp)
      have same : ∀ b, b ≠ C → h7.get? b = s6.heap.get? b := fun b hb => hs7.2 b hb
      have lt2 := ltC
      have u7 : Un (frs X.stack) fp H2 H5 s2.heap h7 := ⟨fun b o e n1 n2 n3 => (same b (lt2 b o e)).trans (I6.base.keep b o e n1 n2 n3), fun b o e n1 n2 n3 => by
          obtain ⟨sl, z⟩ := I6.base.slot b o e n1 n2 n3
          exact ⟨sl, (same b (lt2 b o e)).trans z⟩, I6.base.free, fun b o e n1 => by
          obtain ⟨o', z⟩ := I6.base.there b o e n1
          exact ⟨o', (same b (lt2 b o e)).trans z⟩, I6.base.tups, I6.base.frzs, I6.base.tbls⟩
      have Cfree : H5 C = none := I6.free
      have hok7 : HOk X.prog X.w H5 h7 := fun a o e => by
        refine (I6.hok a o e).stay (fun c v hcc q => (same c ?_).trans q) (fun _ q => q) fun _ _ q => q
        rintro rfl
        rcases hcc with z | z
        · rw [← z] at e; rw [Cfree] at e; cases e
        · rw [Cfree] at z; cases z
      have I7 : Inv X pins σ H5 { s6 with heap := h7 } := I2.call' (s' := { s6 with heap := h7 }) I6.os u7 hok7 I6.bare fun b hb => ⟨(f2 b hb).2.2.2.1, (f2 b hb).2.1, (f2 b hb).2.2.2.2.1, (f2 b hb).2.2.2.2.2⟩
      have I8 := I7.track (a := D) (o := .lst ys) pN (Heap.get?_none_of_le (by rw [hDe]; exact I2.sz)) (by rw [hDe]; exact Nat.ne_of_gt I2.lt) (fun x c e z => by
          obtain ⟨v, o, ho, _⟩ := I2.cell x c e
          exact ltD _ _ ho z) (fun p hp z => ltD _ _ (I2.pin p hp).1 z) ⟨hz, us, nn, vy, (same D hDC).trans pD⟩
      exact ⟨.ref D, _, I8, rfl, qn D pN⟩
    · refine wpAny_mono (T.item (X.inc (own ++ cs.map (·.2)) scope cl fp s2 H2 C) rfl rfl rfl hc i _ s5 _ H5 (fun _ _ => False) I5 (fpok fr5) st5 go) (fun r s6 z => ?_) fun _ _ z => z
      obtain ⟨u, rfl, z⟩ := z
      refine wpAny_mono z (fun _ s7 ⟨x, H7, I7, r7, y7, st7, fr7⟩ => ?_) fun _ _ z => z
      have I7' := I7.pinned (fpok fr7) (T.obj _ _ st7)
      refine wpAny_mono (hg fp s2 H2 C _ s7 _ H7 x u _ I7' r7 (step x H7 y7)) (fun _ s8 ⟨σ8, H8, I8, q8⟩ => ?_) fun _ _ z => z
      refine wpAny_mono (he fp s2 H2 C _ s8 σ8 H8 _ I8 q8) (fun uy s9 ⟨y, H9, I9, r9, m', hm', w9⟩ => ?_) fun _ _ z => z
      obtain ⟨pD, pN, _, _, _⟩ := I9.pin (D, { cls := .type "list", data := .seq us.toArray nn }) (by simp)
      refine append_at (its := us.toArray) (n := nn) pD (fun h10 hs10 hD10 => ?_) (by rw [List.size_toArray, ← vy.length]; exact hz)
      have keepfp : ∀ b ∈ fp, ∀ o, s7.heap.get? b = some o → s9.heap.get? b = some o ∧ H9 b = none := fun b hb o e => by
        have z := I9.pin (b, o) (List.mem_append_right _ (List.mem_append_right _ (mem_pinsAt hb e)))
        exact ⟨z.1, z.2.1⟩
      have I9' : Inv (X.inc (own ++ cs.map (·.2)) scope cl fp s2 H2 C) [] (List.replicate own.length none ++ capsAt cs σ) H9 s9 := I2.incAgain I9 f2 hcl hcs
      have I10 : Inv (X.inc (own ++ cs.map (·.2)) scope cl fp s2 H2 C) [] (List.replicate own.length none ++ capsAt cs σ) H9 { s9 with heap := h10 } := I9'.turned (it := D) (t' := s9.toks) (fun b o hb e => (hs10.2 b hb).trans e) pN hDC (.inr (Nat.le_of_eq hDe.symm)) (fun x c e z => by
          obtain ⟨v, o, ho, _⟩ := I2.cell x c (hcl x c e)
          exact ltD _ _ ho z) fun p hp => by simp at hp
      rw [lstP] at hD10
      refine ⟨m', hm', i + 1, ys ++ [y], us ++ [uy], nn + 1, H9, pinD I10 hD10 pN, T.keep _ _ _ st7 fun b hb o e => ?_, fun b hb => ?_, vy.append (.cons r9 .nil), w9⟩
      · exact (hs10.2 b (Nat.ne_of_lt (hfp b hb))).trans (keepfp b hb o e).1
      · obtain ⟨o, e, _⟩ := T.obj _ _ st7 b hb
        exact (keepfp b hb o e).2
  exact codeAny_compStart_list (loop _ rfl) (T.self _ 0 _ _ _ (T.keep _ _ _ st2 fun b hb o e => old b o e) (loop _ rfl))
end
end L2

set_option Elab.async false
set_option linter.all false
set_option maxRecDepth 100000
set_option maxHeartbeats 4000000

namespace L2
open PySem PySem.Spec PyProof.Rows
section
variable {X : Cx}
def rInU (K : PySem.W.Frag) : R2 := fun x y H Q => match x, y with
  | .str i, .str j => Q (.bl (!(Builtin.Str.occurrences j i 0 j.length 1).isEmpty)) H
  | x, y => rIn K false x y H Q
theorem op_inU : OpR X (compareOp .In) (rInU X.K) := fun pins s σ H x y v u Q I rx ry q => by
  unfold rInU at q
  split at q
  · exact op_in_str pins s σ H _ _ v u Q I rx ry ⟨_, _, rfl, rfl, q⟩
  · exact op_in_seq pins s σ H _ _ v u Q I rx ry q
theorem op_inK {K : PySem.W.Frag} (hK : X.K = K) : OpR X (compareOp .In) (rInU K) := hK ▸ op_inU
theorem ix_UK {K : PySem.W.Frag} (hK : X.K = K) : IxR X (rIxU K) := hK ▸ ix_U
theorem y4fy {K : PySem.W.Frag} {i j : Str} {H : Hp} {Q : VK} : rInU K (.str i) (.str j) H Q = Q (.bl (!(Builtin.Str.occurrences j i 0 j.length 1).isEmpty)) H := rfl
theorem all_range : ∀ bs : List Bool, (List.range bs.length).all (fun i => bs.getD i false) = bs.all id := fun bs => by
  rw [Bool.eq_iff_iff]
  simp only [List.all_eq_true, List.mem_range, id]
  constructor
  · intro h x hx
    obtain ⟨i, hi, rfl⟩ := List.mem_iff_getElem.mp hx
    have := h i hi
    simpa [List.getD_eq_getElem?_getD, hi] using this
  · intro h i hi
    have := h bs[i] (List.getElem_mem hi)
    simpa [List.getD_eq_getElem?_getD, hi] using this
def rAll (K : PySem.W.Frag) : List V → Hp → VK → Prop := fun xs H Q => ∃ (p : Addr) (bs : List Bool), xs = [.ref p] ∧ SqL K H p (bs.map V.bl) ∧ Q (.bl (bs.all id)) H
theorem call_allU (hc : X.calm = true) : CallR X (.builtin "all") (rAll X.K) := fun pins s σ H xs us Q I r q => by
  obtain ⟨p, bs, rfl, hL, q⟩ := q
  obtain ⟨its, rv, pl, hz⟩ := I.list hL
  obtain ⟨u, rfl, ru⟩ := vals1 r
  cases (show u = Value.ref p from ru)
  refine call_all_walk (wpAny_pyIter_list pl.isList ?_)
  have hlt : p < s.heap.objs.size := by
    obtain ⟨_, e, _⟩ := pl.isList
    exact Heap.lt_size e
  refine ⟨s.heap.objs.size, _, _, its.toArray.size, _, _, fun i => bs.getD i false, rfl, Walks.list (by show X.A.handled = none; exact I.ok.hd hc) s.heap.objs.size p (Nat.ne_of_lt hlt) its.toArray, ⟨⟨_, Heap.get?_push_size _ rfl, rfl, rfl⟩, pl.isList.push _⟩, ?_, ?_⟩
  · intro i v s' Q' E' hv hQ
    have hv' : its[i]? = some v := by simpa using hv
    have hi : i < bs.length := by
      obtain ⟨hl, _⟩ := List.getElem?_eq_some_iff.mp hv'
      have l := rv.length
      rw [List.length_map] at l
      omega
    obtain ⟨v', e1, e2⟩ := rv.get (i := i) (x := .bl bs[i]) (by simp [hi])
    rw [hv'] at e1
    cases e1
    cases (show v = Value.bool bs[i] from e2)
    refine wpAny_truthy_bool ?_
    simpa [List.getD_eq_getElem?_getD, hi] using hQ
  · intro h' tk k
    have l := rv.length
    rw [List.length_map] at l
    have ea : (List.range its.toArray.size).all (fun i => bs.getD i false) = bs.all id := by rw [List.size_toArray, ← l]; exact all_range bs
    rw [ea]
    exact ⟨.bl _, H, I.kept (t' := tk) fun b ob e => k b ob (by have := Heap.lt_size e; simp; exact Nat.ne_of_lt this) (Heap.get?_push_of_some _ e), rfl, q⟩
def rSlS : V → Option Int → Option Int → Hp → VK → Prop := fun x lo hi H Q => ∃ z, x = .str z ∧ z.length ≤ sizeLine ∧ Q (.str (Txt.slice z lo hi)) H
theorem sl_str : SlR X rSlS := fun pins s σ H x v vl vu lo hi sl Q I rx hs pl pu h => by
  obtain ⟨z, rfl, hz, q⟩ := h
  obtain ⟨t, rfl⟩ := rx
  refine ⟨"str", _, F.slot_str_getitem.lookup, typeIs_str _ _ _, ?_⟩
  have fin : ∀ (t' : Tok) (k : Nat), EP X pins σ Q (.str (Txt.slice z lo hi) t') { s with toks := k } := fun t' k => ⟨.str _, H, I.tok k, ⟨_, rfl⟩, q⟩
  cases pl <;> cases pu
  · exact wpAny_getItem_str_slice (l := none) (u := none) (st := none) hs rfl (post_val_or_str ⟨Nat.le_trans (Txt.slice_le z _ _) hz, fin⟩)
  · exact wpAny_getItem_str_slice (l := none) (u := some (_, _)) (st := none) hs rfl (post_val_or_str ⟨Nat.le_trans (Txt.slice_le z _ _) hz, fin⟩)
  · exact wpAny_getItem_str_slice (l := some (_, _)) (u := none) (st := none) hs rfl (post_val_or_str ⟨Nat.le_trans (Txt.slice_le z _ _) hz, fin⟩)
  · exact wpAny_getItem_str_slice (l := some (_, _)) (u := some (_, _)) (st := none) hs rfl (post_val_or_str ⟨Nat.le_trans (Txt.slice_le z _ _) hz, fin⟩)
def rSlV (K : PySem.W.Frag) : V → Option Int → Option Int → Hp → VK → Prop := fun x lo hi H Q => rSlU K x lo hi H Q ∨ rSlS x lo hi H Q
theorem sl_V : SlR X (rSlV X.K) := SlR.or sl_U sl_str
end
theorem hcl0 {X : Cx} : ∀ (x : Str) (c : Addr), ([] : List (Str × Addr)).lookup x = some c → X.env.cells.lookup x = some c := fun _ _ h => by simp at h
theorem hcs0 {X : Cx} {scope : Scope} : ∀ p ∈ ([] : List (Nat × Str)), X.N[p.1]? = some p.2 ∧ X.env.scope.names.lookup p.2 = some .cell ∧ (relabel scope X.env).names.lookup p.2 = some .cell := fun _ h => by simp at h
theorem hhas0 {X : Cx} {scope : Scope} (h : scope.names.all (fun p => p.2 != .free && p.2 != .cell) = true) : ∀ y, ((relabel scope X.env).names.lookup y = some .cell ∨ (relabel scope X.env).names.lookup y = some .free) → ∃ c, ([] : List (Str × Addr)).lookup y = some c := fun y hy => by
  exfalso
  have h' := List.all_eq_true.mp h
  have go : ∀ k, (relabel scope X.env).names.lookup y = some k → k ≠ .cell ∧ k ≠ .free := fun k e => by
    have m := PySem.mem_of_lookup e
    obtain ⟨⟨n, k'⟩, hm, e'⟩ := List.mem_map.mp (show (y, k) ∈ scope.names.map _ from m)
    have z := h' _ hm
    simp only [bne_iff_ne, ne_eq, Bool.and_eq_true] at z
    have e2 : (if (k' == NameKind.free && X.env.scope.kind == .function && X.env.kindOf n == some .cell) = true then (n, NameKind.cell) else (n, k')) = (y, k) := e'
    split at e2
    · rename_i c
      rw [Bool.and_eq_true, Bool.and_eq_true] at c
      exact absurd (beq_iff_eq.mp c.1.1) z.1
    · cases e2
      exact ⟨z.2, z.1⟩
  rcases hy with hy | hy
  · exact (go _ hy).1 rfl
  · exact (go _ hy).2 rfl
def tyD : D → String
  | .non => "NoneType"
  | .bl _ => "bool"
  | .int _ => "int"
  | .str _ => "str"
  | .tup _ => "tuple"
  | .lst _ => "list"
theorem Rep.tyN {K : PySem.W.Frag} {H : Hp} {d : D} {x : V} (h : Rep K H d x) : L2.tyN K H x (tyD d) := by
  cases d <;> simp only [Rep] at h
  · subst h; rfl
  · subst h; rfl
  · subst h; rfl
  · subst h; rfl
  · obtain ⟨a, xs, rfl, q, _⟩ := h; exact .inr ⟨rfl, xs, q⟩
  · obtain ⟨a, xs, rfl, q, _⟩ := h; exact .inl ⟨rfl, xs, q⟩
mutual
def szD : D → Prop
  | .int i => Mth.Sz 4000 i
  | .str s => s.length ≤ 1000
  | .tup xs => szL xs
  | .lst xs => szL xs
  | _ => True
def szL : List D → Prop
  | [] => True
  | x :: xs => szD x ∧ szL xs
end
def lowB (c : Nat) : Bool := decide (97 ≤ c ∧ c ≤ 122)
def nameS (s : Str) : Bool := (decide (1 ≤ s.length) && decide (s.length ≤ 8)) && s.cps.toList.all lowB
def nameB : D → Bool
  | .str s => nameS s
  | _ => false
def wholeB : D → Bool
  | .int _ => true
  | _ => false
def fracB : D → Bool
  | .tup [.int a, .int b] => decide (1 ≤ b) && decide (Mth.g a b = 1)
  | _ => false
def boundB : D → Bool
  | .non => true
  | d => fracB d
def facesB (d e : D) : Bool := nameB d && nameB e && !eqD d e
/-- whether the one fraction is less -/
def lessD : D → D → Bool
  | .tup [.int a, .int b], .tup [.int c, .int d] => decide (a * d < c * b)
  | _, _ => false
def boundsB (l g : D) : Bool := boundB l && boundB g && !lessD g l
def tieB : D → Bool
  | .tup [n, s, e, l, g] => nameB n && facesB s e && boundsB l g
  | _ => false
theorem letters_eq : (Str.ofString "abcdefghijklmnopqrstuvwxyz").cps.toList = List.range' 97 26 := by decide
theorem in_letters (c : Nat) : (!(Builtin.Str.occurrences (Str.ofString "abcdefghijklmnopqrstuvwxyz") ⟨#[c]⟩ 0 (Str.ofString "abcdefghijklmnopqrstuvwxyz").length 1).isEmpty) = lowB c := by
  rw [StrLaws.found_one, letters_eq]
  unfold lowB
  congr 1
  rw [List.mem_range']
  refine propext ⟨fun ⟨i, hi, e⟩ => by omega, fun h => ⟨c - 97, by omega, by omega⟩⟩
end L2

set_option Elab.async false
set_option linter.all false
set_option maxRecDepth 100000
set_option maxHeartbeats 4000000

namespace L2
open PySem PySem.Spec PyProof.Rows
/-- a class that may be called: what its __init__ promises -/
structure KCal (P : Program) (w : World) (K : PySem.W.Frag) (mg : Str → Option Value) (base : Heap) (k : Nat) (x : Str) (C : Addr) (ps : List Str) (sp : Sp) : Prop where
  ex : ∃ (f : Addr) (fd : FuncData), FnOk P w K mg base (CX1 P w) k f fd ps sp ∧ mg x = some (.ref C) ∧ Mk K C f ∧ Binds K fd ps []
/-- a method that may be called upon an instance of any of these classes -/
structure MCal (P : Program) (w : World) (K : PySem.W.Frag) (mg : Str → Option Value) (base : Heap) (k : Nat) (m : Str) (Cs : Addr → Prop) (ps : List Str) (sp : Sp) : Prop where
  ex : ∃ (f : Addr) (fd : FuncData), FnOk P w K mg base (CX1 P w) k f fd ps sp ∧ (∀ C, Cs C → Cls K C ∧ Meth K C m f) ∧ PySem.W.keepIn K (.ref f) = true ∧ Binds K fd ps []
def tMethU (Cs : Addr → Prop) (m : Str) (sp : Sp) (E : XK) (ta : TE) (t : TA) : TE := fun σ H Q => ta σ H fun x H1 => ∃ a C dx fs, x = .ref a ∧ H1 a = some (.ins C dx fs) ∧ Cs C ∧ fs.lookup m = none ∧ t σ H1 fun vs H2 => sp (x :: vs) H2 Q E
section
variable {X : Cx} {k k' : Nat} {x mn : Str} {C : Addr} {Cs : Addr → Prop} {ps : List Str} {sp : Sp} {E : XK} {p pos apos : Pos} {e o : Expr} {es : List Expr} {t : TA} {ta : TE}
theorem KCal.ev (G : KCal X.prog X.w X.K X.mg X.base k x C ps sp) (hr : Room k' X.A) (hk : k + 1 ≤ k') (hg : Gl X x) (hx : Passes (CX1 X.prog X.w) X E) (ha : PA X (e :: es) t)
    (hdb : (x == ("__debug__" : Str)) = false := by decide) (he : starEach (e :: es) X.env = (false, eval e X.env) :: starEach es X.env := by rfl) (hpl : (backTo pos (starEach es X.env)).any (·.1) = false := by rfl) :
    PE X (.Call (.Name x p) (e :: es) [] pos) (tMake C sp [] E t) := by
  obtain ⟨f, fd, F, hm, M, hb⟩ := G.ex
  exact pe_make M F (hr.mono hk) hg hm hb .nil hx ha hdb he hpl
theorem MCal.m {pl : Sem Bool} (G : MCal X.prog X.w X.K X.mg X.base k mn Cs ps sp) (hr : Room k' X.A) (hk : k ≤ k') (hx : Passes (CX1 X.prog X.w) X E) (ho : PE X o ta) (ha : PA X (e :: es) t)
    (hst : starEach (e :: es) X.env = (false, eval e X.env) :: starEach es X.env := by rfl) (hpl : (backTo pos (starEach es X.env)).any (·.1) = false := by rfl)
    (ht : eval (.Call (.Attribute o mn apos) (e :: es) [] pos) X.env = (do
      let ov ← eval o X.env
      standAt apos.atName
      let (f, first) ← holding [ov] (getMethod ov mn pl)
      callWith pos f first (backTo pos (starEach (e :: es) X.env)) (backToKw pos (keywordEach [] X.env))) := by rfl) :
    PE X (.Call (.Attribute o mn apos) (e :: es) [] pos) (tMethU Cs mn sp E ta t) := by
  obtain ⟨f, fd, F, hm, kp, hb⟩ := G.ex
  intro pins s σ H Q I h
  refine PySem.W.methodCall_KW (pl := pl) (thn (ho pins s σ H _ I h) fun u s1 ⟨x, H1, I1, rx, a, C, dx, fs, ex, ea, hC, l, q⟩ => ?_) ht
  subst ex
  obtain rfl : u = Value.ref a := rx
  refine getmeth_ok I1 ea (hm C hC).1 (hm C hC).2 l ?_
  refine PySem.W.callWith_K (first := [.ref a]) (h₀ := X.base) I.ok.mod.kin kp (thn (ha pos pins s1 σ H1 _ I1 q) fun us s2 ⟨vs, H2, I2, r, q2⟩ => ⟨I2.kIn, ?_⟩) hst hpl
  exact run_fn (us := .ref a :: us) (vs := .ref a :: vs) F (hr.mono hk) hb .nil hx I2 (.cons rfl r) (by simpa using q2)
theorem MCal.m0 {pl : Sem Bool} (G : MCal X.prog X.w X.K X.mg X.base k mn Cs ps sp) (hr : Room k' X.A) (hk : k ≤ k') (hx : Passes (CX1 X.prog X.w) X E) (ho : PE X o ta)
    (ht : eval (.Call (.Attribute o mn apos) [] [] pos) X.env = (do
      let ov ← eval o X.env
      standAt apos.atName
      let (f, first) ← holding [ov] (getMethod ov mn pl)
      callWith pos f first (backTo pos (starEach [] X.env)) (backToKw pos (keywordEach [] X.env))) := by rfl) :
    PE X (.Call (.Attribute o mn apos) [] [] pos) (tMethU Cs mn sp E ta tNil) := by
  obtain ⟨f, fd, F, hm, kp, hb⟩ := G.ex
  intro pins s σ H Q I h
  refine PySem.W.methodCall_KW (pl := pl) (thn (ho pins s σ H _ I h) fun u s1 ⟨x, H1, I1, rx, a, C, dx, fs, ex, ea, hC, l, q⟩ => ?_) ht
  subst ex
  obtain rfl : u = Value.ref a := rx
  refine getmeth_ok I1 ea (hm C hC).1 (hm C hC).2 l ?_
  exact PySem.W.callWith_K0 (first := [.ref a]) I1.kIn kp (run_fn (us := [.ref a]) (vs := [.ref a]) F (hr.mono hk) hb .nil hx I1 (.cons rfl .nil) (show sp ([.ref a] ++ []) H1 Q E from q))
def rMulS : R2 := fun x y H Q => match x, y with
  | .str z, .int n => 0 < n ∧ n < 1000 ∧ z.length ≤ 1000 ∧ ∀ z' : Str, z'.cps.toList = (List.replicate n.toNat z.cps.toList).flatten → Q (.str z') H
  | x, y => rMulU x y H Q
theorem cat_fold : ∀ (l : List (Array Nat)) (acc : Array Nat), (l.foldl (· ++ ·) acc).toList = acc.toList ++ (l.map (·.toList)).flatten
  | [], acc => by simp
  | x :: l, acc => by
    rw [List.foldl_cons, cat_fold l]
    simp
theorem op_mulS : OpR X (binaryOp .Mult) rMulS := fun pins s σ H x y v u Q I rx ry q => by
  unfold rMulS at q
  split at q
  · rename_i z n
    obtain ⟨h0, h1, h2, q⟩ := q
    obtain ⟨t, rfl⟩ := rx
    obtain ⟨t', rfl⟩ := ry
    have hz : z.cps.size = z.length := rfl
    have big : z.length * n.toNat ≤ 1000 * 1000 := Nat.mul_le_mul h2 (by omega)
    refine PySem.P.mul_str (by simp; omega) (fun _ _ => ?_) (fun _ _ => ?_) ?_
    · have : (1000 : Int) ≤ (2 ^ 63 - 1) / n := by
        rw [Int.le_ediv_iff_mul_le h0]
        omega
      omega
    · unfold Builtin.Str.tooLong
      simp
      have : (1000 * 1000 : Nat) ≤ sizeLine := by decide
      omega
    · rw [if_neg (by omega)]
      split
      · rename_i c
        refine ⟨.str z, H, I, ⟨_, rfl⟩, q z ?_⟩
        rcases Bool.or_eq_true _ _ |>.mp c with c | c
        · obtain rfl : n = 1 := by simpa using c
          simp
        · have e : z.cps.toList = [] := by
            have : z.length = 0 := by simpa using c
            exact List.eq_nil_of_length_eq_zero (by rw [Array.length_toList]; exact this)
          rw [e]
          simp
      · refine ⟨?_, .str _, H, I.tok _, ⟨_, rfl⟩, q _ ?_⟩
        · show (Array.size _) ≤ sizeLine
          rw [← Array.length_toList, cat_fold]
          simp
          have : (1000 * 1000 : Nat) ≤ sizeLine := by decide
          rw [Nat.mul_comm, hz]
          omega
        · rw [cat_fold]
          simp
  · exact op_mulU pins s σ H _ _ v u Q I rx ry q
def rIsN : R2 := fun x y H Q => y = .non ∧ Q (.bl (decide (x = .non))) H
def rNotN : R2 := fun x y H Q => y = .non ∧ Q (.bl (!decide (x = .non))) H
theorem op_isNU : OpR X (compareOp .Is) rIsN := op_isN
def rListU (K : PySem.W.Frag) : List V → Hp → VK → Prop := fun xs H Q => ∃ p ys, xs = [.ref p] ∧ (SqL K H p ys ∨ SqT K H p ys) ∧ ∀ l, H l = none → Q (.ref l) (upd H l (.lst ys))
theorem call_listU : CallR X (.type "list") (rListU X.K) := call_list_of
end
section
variable {K : PySem.W.Frag} {H : Hp} {Q : VK}
theorem y50y {x : V} : rIsN x .non H Q = Q (.bl (decide (x = .non))) H := by simp [rIsN]
theorem y66y {x : V} : rNotN x .non H Q = Q (.bl (!decide (x = .non))) H := by simp [rNotN]
theorem y56y {C : Addr} {sp : Sp} {dvs : List V} {E : XK} {t : TA} {σ : St} : tMake C sp dvs E t σ H Q = t σ H fun vs H1 => ∀ x dx, H1 x = none → H1 dx = none → dx ≠ x → sp (.ref x :: (vs ++ dvs)) (upd (upd H1 dx (.own x)) x (.ins C dx [])) (fun v H2 => v = .non ∧ Q (.ref x) H2) E := rfl
theorem y57y {Cs : Addr → Prop} {mn : Str} {sp : Sp} {E : XK} {ta : TE} {t : TA} {σ : St} : tMethU Cs mn sp E ta t σ H Q = ta σ H fun x H1 => ∃ a C dx fs, x = .ref a ∧ H1 a = some (.ins C dx fs) ∧ Cs C ∧ fs.lookup mn = none ∧ t σ H1 fun vs H2 => sp (x :: vs) H2 Q E := rfl
theorem y42y {ta : TE} {f : Str} {σ : St} : tFld K ta f σ H Q = ta σ H fun x H1 => ∃ a C dx fs v, x = .ref a ∧ H1 a = some (.ins C dx fs) ∧ Cls K C ∧ NoAttr K C f ∧ fs.lookup f = some v ∧ Q v H1 := rfl
theorem y72y {ta tv : TE} {f : Str} {σ : St} {En : Ends} : sFld K ta tv f En σ H = tv σ H fun y H1 => ta σ H1 fun x H2 => ∃ a C dx fs, x = .ref a ∧ H2 a = some (.ins C dx fs) ∧ Cls K C ∧ NoAttr K C f ∧ fs.length < 1000 ∧ En.nx σ (upd H2 a (.ins C dx (putF f y fs))) := rfl
theorem y2by {T : String} {r : V → List V → Hp → VK → Prop} {to : TE} {t : TA} {σ : St} : tBM K T r to t σ H Q = to σ H fun x H1 => tyV K T x H1 ∧ t σ H1 fun vs H2 => r x vs H2 Q := rfl
theorem y4ay {g : TG} {gs : TGs} {v : V} {r : List V} {σ : St} {R : St → Hp → Prop} : gCons g gs (v :: r) σ H R = g v σ H fun σ' H' => gs r σ' H' R := by
  unfold gCons
  refine propext ⟨fun ⟨v', r', e, h⟩ => ?_, fun h => ⟨v, r, rfl, h⟩⟩
  cases e
  exact h
theorem y4cy {σ : St} {R : St → Hp → Prop} : gNil [] σ H R = R σ H := by unfold gNil; simp
theorem FrV.of_rep {x : V} {a b : Int} (h : Rep K H (.tup [.int a, .int b]) x) : FrV K H x a b := by
  simp only [Rep, RepL] at h
  obtain ⟨p, xs, rfl, q, v, r, rfl, rfl, v', r', rfl, rfl, rfl⟩ := h
  exact ⟨p, rfl, q⟩
theorem frac_shape {d : D} (h : fracB d = true) : ∃ a b, d = .tup [.int a, .int b] ∧ 1 ≤ b ∧ Mth.g a b = 1 := by
  unfold fracB at h
  split at h
  · rw [Bool.and_eq_true] at h
    exact ⟨_, _, rfl, by simpa using h.1, by simpa using h.2⟩
  · cases h
theorem name_shape {d : D} (h : nameB d = true) : ∃ z, d = .str z ∧ nameS z = true := by
  cases d <;> first | exact ⟨_, rfl, h⟩ | (simp [nameB] at h)
theorem Rep.str {d : Str} {x : V} (h : Rep K H (.str d) x) : x = .str d := by simpa only [Rep] using h
def nonD : D → Bool
  | .non => true
  | _ => false
theorem nonD_no {d : D} (h : d ≠ .non) : nonD d = false := by cases d <;> first | rfl | exact absurd rfl h
theorem Rep.nonV {d : D} {x : V} (hx : Rep K H d x) : decide (x = .non) = nonD d := by
  cases d <;> simp only [Rep] at hx
  · subst hx; rfl
  · subst hx; rfl
  · subst hx; rfl
  · subst hx; rfl
  · obtain ⟨a, xs, rfl, _⟩ := hx; rfl
  · obtain ⟨a, xs, rfl, _⟩ := hx; rfl
/-- another object is stored: what is of another content stays -/
theorem putE {H' : Hp} {l : Addr} {o : HO} (e : upd H l o = H') : H' l = some o := by rw [← e, upd_same]
theorem putN {H' : Hp} {l b : Addr} {o o' u : HO} (e : upd H l o = H') (hl : H l = some o') (hb : H b = some u) (ne : u ≠ o') : H' b = some u := by
  rw [← e, upd_ne (ne_of hb hl ne)]
  exact hb
end
/-- a tie's attributes as they are laid -/
def tieF (n s e l g : V) : List (Str × V) := [("name", n), ("start", s), ("end", e), ("least", l), ("greatest", g)]
end L2

set_option Elab.async false
set_option linter.all false
set_option maxRecDepth 100000
set_option maxHeartbeats 4000000

namespace L2
open PySem PySem.Spec PyProof.Rows
section
variable {En : Ends} {σ : St} {H : Hp} {Q : VK} {ta tb te tc td : TE} {K : PySem.W.Frag}
end
end L2

set_option Elab.async false
set_option linter.all false
set_option maxRecDepth 100000
set_option maxHeartbeats 4000000

namespace L2
open PySem PySem.Spec PyProof.Rows
def clFold (cells : List (Str × Addr)) : List (Str × NameKind) → List (Str × Addr) → List (Str × Addr)
  | [], acc => acc
  | (n, k) :: r, acc => clFold cells r (if k == .free then (n, (cells.lookup n).getD 0) :: acc else acc)
theorem clos_go {env : Env} : ∀ (names : List (Str × NameKind)) (acc : List (Str × Addr)), (∀ p ∈ names, p.2 = .free → ∃ c, env.cells.lookup p.1 = some c) →
    (forIn names acc fun (p : Str × NameKind) cs => (if p.2 == .free then do let c ← cellOf env p.1; pure (ForInStep.yield ((p.1, c) :: cs)) else pure (ForInStep.yield cs) : Sem (ForInStep (List (Str × Addr))))) = (pure (clFold env.cells names acc) : Sem (List (Str × Addr)))
  | [], acc, _ => by simp [clFold]
  | (n, k) :: r, acc, h => by
    rw [List.forIn_cons]
    by_cases c : (k == .free) = true
    · obtain ⟨a, ha⟩ := h (n, k) List.mem_cons_self (beq_iff_eq.mp c)
      have e : cellOf env n = pure a := by unfold cellOf; rw [ha]
      simp only [c, if_true, e, pure_bind]
      have := clos_go (env := env) r ((n, a) :: acc) fun p hp => h p (List.mem_cons_of_mem _ hp)
      simp only [clFold, c, if_true, ha, Option.getD_some]
      exact this
    · have c' : (k == .free) = false := by simpa using c
      simp only [c', Bool.false_eq_true, if_false, pure_bind]
      have := clos_go (env := env) r acc fun p hp => h p (List.mem_cons_of_mem _ hp)
      simp only [clFold, c', Bool.false_eq_true, if_false]
      exact this
theorem clos_eq {scope : Scope} {env : Env} (h : ∀ p ∈ scope.names, p.2 = .free → ∃ c, env.cells.lookup p.1 = some c) : closureFor scope env = pure (clFold env.cells scope.names []) := by
  have := clos_go (env := env) scope.names [] h
  unfold closureFor
  simp only [pure_bind]
  refine Eq.trans ?_ (congrArg (fun m : Sem (List (Str × Addr)) => m >>= pure) this |>.trans (by simp))
  first | rfl | (congr 1)

theorem clFold_sub {cells : List (Str × Addr)} : ∀ (names : List (Str × NameKind)) (acc : List (Str × Addr)), (∀ x c, acc.lookup x = some c → cells.lookup x = some c) → (∀ p ∈ names, p.2 = .free → ∃ c, cells.lookup p.1 = some c) →
    ∀ x c, (clFold cells names acc).lookup x = some c → cells.lookup x = some c
  | [], acc, ha, _, x, c, h => ha x c h
  | (n, k) :: r, acc, ha, hf, x, c, h => by
    simp only [clFold] at h
    refine clFold_sub r _ ?_ (fun p hp => hf p (List.mem_cons_of_mem _ hp)) x c h
    intro y d hy
    by_cases f : (k == .free) = true
    · rw [if_pos f] at hy
      obtain ⟨a, e⟩ := hf (n, k) List.mem_cons_self (beq_iff_eq.mp f)
      rw [List.lookup_cons] at hy
      by_cases q : (y == n) = true
      · rw [q] at hy
        have q' : y = n := beq_iff_eq.mp q
        subst q'
        have e' : cells.lookup y = some a := e
        rw [e'] at hy ⊢
        simpa using hy
      · have q' : (y == n) = false := by simpa using q
        rw [q'] at hy
        exact ha y d hy
    · rw [if_neg f] at hy
      exact ha y d hy
theorem clFold_has {cells : List (Str × Addr)} : ∀ (names : List (Str × NameKind)) (acc : List (Str × Addr)) (y : Str), ((∃ c, acc.lookup y = some c) ∨ (y, NameKind.free) ∈ names) → ∃ c, (clFold cells names acc).lookup y = some c
  | [], acc, y, h => by
    rcases h with h | h
    · exact h
    · simp at h
  | (n, k) :: r, acc, y, h => by
    simp only [clFold]
    refine clFold_has r _ y ?_
    rcases h with ⟨c, h⟩ | h
    · refine .inl ?_
      split
      · rw [List.lookup_cons]
        cases (y == n)
        · exact ⟨c, h⟩
        · exact ⟨_, rfl⟩
      · exact ⟨c, h⟩
    · rcases List.mem_cons.mp h with e | h
      · cases e
        refine .inl ?_
        rw [if_pos (by decide), List.lookup_cons]
        simp
      · exact .inr h
section
variable {X : Cx} {tg : Expr}
theorem hfreeD {scope sc : Scope} (h : scope.names.all (fun p => p.2 != .free || (sc.names.lookup p.1 == some .cell)) = true) : ∀ p ∈ scope.names, p.2 = .free → sc.names.lookup p.1 = some .cell := fun p hp hk => by
  have z := List.all_eq_true.mp h p hp
  rw [hk] at z
  simpa using z
end
end L2

set_option Elab.async false
set_option linter.all false
set_option maxRecDepth 100000
set_option maxHeartbeats 4000000

namespace L2
open PySem PySem.Spec PyProof.Rows
section
variable {X : Cx} {tg : Expr}
theorem comp_block {iter elt : Expr} {scope : Scope} {pos : Pos} {own : List Str} {cl : List (Str × Addr)} {cs : List (Nat × Str)} {g : TG} {te : TE} {pins : List (Addr × Obj)} {s2 : Shared} {σ : St} {H2 : Hp} {it : Addr} {fp : List Addr} {tn : Nat → Heap → Prop} {J : It}
    {W : Nat → Nat → List V → Hp → Prop} {m0 : Nat} {QN : List V → Hp → Prop} {RR : Value → Addr → Result → Shared → Prop} {E : Value → Shared → Prop} (hc : X.calm = true)
    (hg : ∀ fp s2 H2 C, PG (X.inc (own ++ cs.map (·.2)) scope cl fp s2 H2 C) tg g) (he : ∀ fp s2 H2 C, PE (X.inc (own ++ cs.map (·.2)) scope cl fp s2 H2 C) elt te)
    (hcell : ∀ y ∈ scope.names, y.2 ≠ .cell) (hkind : scope.kind = .function)
    (hcl : ∀ x c, cl.lookup x = some c → X.env.cells.lookup x = some c) (hhas : ∀ y, ((relabel scope X.env).names.lookup y = some .cell ∨ (relabel scope X.env).names.lookup y = some .free) → ∃ c, cl.lookup y = some c)
    (hcs : ∀ p ∈ cs, X.N[p.1]? = some p.2 ∧ X.env.scope.names.lookup p.2 = some .cell ∧ (relabel scope X.env).names.lookup p.2 = some .cell)
    (I2 : Inv X pins σ H2 s2) (T : Turn X.prog X.w X.K tg J fp it tn) (st2 : tn 0 s2.heap) (f2 : ∀ b ∈ fp, FpOk X pins H2 b) (w0 : W 0 m0 [] H2)
    (turn : ∀ i m ys H2, W i m ys H2 → ys.length ≤ sizeLine ∧ ((J.stop i H2 ∧ QN ys H2) ∨ (J.go i H2 ∧ ∀ x H3, J.yld i H2 x H3 → g x (List.replicate own.length none ++ capsAt cs σ) H3 fun σ4 H4 => te σ4 H4 fun y H5 => ∃ m', m' < m ∧ W (i + 1) m' (ys ++ [y]) H5)))
    (hRR : ∀ (D C : Addr) (s6 : Shared) (H5 : Hp) (ys : List V), (∀ h7, Heap.SameBut C s6.heap h7 → Inv X pins σ (upd H5 D (.lst ys)) { s6 with heap := h7 }) → H5 D = none → H5 C = none → D ≠ C → (∃ m, s6.heap.Ns C m) → s2.heap.objs.size ≤ C → QN ys H5 → RR (.ref D) C (.ok .next) s6) :
    wpAny (model X.prog X.w) X.A (newList []) (fun acc s₃ => wpAny (model X.prog X.w) X.A (newFunctionEnv scope X.env.globals cl [] X.env.qual none .none (some X.env)) (fun cenv s₄ =>
      codeAny (model X.prog X.w) X.A (.compStart (.ListComp elt [⟨tg, iter, [], 0⟩] scope pos) 0 (.ref it) acc { cenv with scope := relabel scope X.env }) (RR acc cenv.locals) s₄) E s₃) E s2 := by
  have hfp : ∀ b ∈ fp, b < s2.heap.objs.size := fun b hb => by
    obtain ⟨o, e, _⟩ := T.obj _ _ st2 b hb
    exact Heap.lt_size e
  refine wpAny_newObj_type (wpAny_newFunctionEnv hcell (by intro y hy; simp at hy) (fun h4 hns4 hsb4 => ?_) hkind)
  dsimp only at hns4 hsb4 ⊢
  generalize hH3 : s2.heap.push { cls := .type "list", dict := none, data := .seq ([] : List Value).toArray } = H3 at hns4 hsb4 ⊢
  have hCs : H3.objs.size = s2.heap.objs.size + 1 := by rw [← hH3, Heap.size_push]
  have hC : s2.heap.objs.size ≤ H3.objs.size := by omega
  have hDC : s2.heap.objs.size ≠ H3.objs.size := by omega
  have old : ∀ b o, s2.heap.get? b = some o → h4.get? b = some o := fun b o e => hsb4.extBut b o (by have := Heap.lt_size e; exact Nat.ne_of_lt (Nat.lt_of_lt_of_le this hC)) (Heap.get?_push_of_some _ (hH3 ▸ Heap.get?_push_of_some _ e))
  have hD4 : h4.get? s2.heap.objs.size = some { cls := .type "list", data := .seq ([] : List Value).toArray } := hsb4.extBut _ _ hDC (Heap.get?_push_of_some _ (hH3 ▸ Heap.get?_push_size _ rfl))
  obtain ⟨D, hDe⟩ : ∃ D, D = s2.heap.objs.size := ⟨_, rfl⟩
  obtain ⟨C, hCe⟩ : ∃ C, C = H3.objs.size := ⟨_, rfl⟩
  rw [← hCe] at hCs hns4 hsb4 hC hDC ⊢
  rw [← hDe] at hfp hCs hC hDC hD4 ⊢
  have ok' := I2.incOk (N' := own ++ cs.map (·.2)) (C := C) f2 (fun b hb => by rw [← hDe]; exact hfp b hb) hkind (by rw [← hDe]; exact hC) hcl hhas
  have I4 : Inv (X.inc (own ++ cs.map (·.2)) scope cl fp s2 H2 C) [] (List.replicate own.length none ++ capsAt cs σ) H2 { s2 with heap := h4, toks := s2.toks + ([] : List (Str × Value)).length } :=
    I2.incStart (s4 := { s2 with heap := h4, toks := s2.toks + ([] : List (Str × Value)).length }) ok' old rfl rfl hns4 (by rw [← hDe]; exact hC) hcl hcs
  have Dfree : H2 D = none := I2.hok.fresh (Nat.le_of_eq hDe.symm)
  have ltD : ∀ b o, s2.heap.get? b = some o → b ≠ D := fun b o e => by
    rw [hDe]
    exact Nat.ne_of_lt (Heap.lt_size e)
  have ltC : ∀ b o, s2.heap.get? b = some o → b ≠ C := fun b o e => Nat.ne_of_lt (Nat.lt_of_lt_of_le (by rw [hDe]; exact Heap.lt_size e) hC)
  have Dfs : D ∉ frs X.stack := fun hm => by
    obtain ⟨_, o, e, _⟩ := I2.stack.mem hm
    exact ltD _ _ e rfl
  have pinD : ∀ {σ' : St} {H' : Hp} {s' : Shared} {us : List Value} {n : Nat} {pl : List (Addr × Obj)}, Inv (X.inc (own ++ cs.map (·.2)) scope cl fp s2 H2 C) pl σ' H' s' → s'.heap.get? D = some { cls := .type "list", data := .seq us.toArray n } → H' D = none →
      Inv (X.inc (own ++ cs.map (·.2)) scope cl fp s2 H2 C) [(D, { cls := .type "list", data := .seq us.toArray n })] σ' H' s' := fun {σ' H' s' us n pl} J' e n' => J'.pins_of fun p hp => by
    rcases List.mem_singleton.mp hp with rfl
    exact ⟨e, n', hDC, Dfs, fun v z => by cases z⟩
  have fpok : ∀ {H' : Hp} {o : Obj}, (∀ b ∈ fp, H' b = none) → ∀ b ∈ fp, FpOk (X.inc (own ++ cs.map (·.2)) scope cl fp s2 H2 C) [(D, o)] H' b := fun {H' o} hn b hb => by
    refine ⟨hn b hb, (ok'.exf b hb).1, ok'.exfs b hb, .inl hb, (ok'.exf b hb).2, fun p hp => ?_⟩
    rcases List.mem_singleton.mp hp with rfl
    exact Nat.ne_of_gt (hfp b hb)
  have loop : ∀ s3 : Shared, s3 = { s2 with heap := h4, toks := s2.toks + ([] : List (Str × Value)).length } →
      codeAny (model X.prog X.w) X.A (.compLoop (.ListComp elt [⟨tg, iter, [], 0⟩] scope pos) 0 (.ref it) (.ref D) (compEnvC scope cl C X.env)) (RR (.ref D) C) s3 := by
    rintro s3 rfl
    refine comp_turns (fun n s' => ∃ i ys us nn H', Inv (X.inc (own ++ cs.map (·.2)) scope cl fp s2 H2 C) [(D, { cls := .type "list", data := .seq us.toArray nn })] (List.replicate own.length none ++ capsAt cs σ) H' s' ∧ tn i s'.heap ∧ (∀ b ∈ fp, H' b = none) ∧ Vals ys us ∧ W i n ys H') ?_ m0
      ⟨0, [], [], 0, H2, pinD (us := []) (n := 0) I4 hD4 Dfree, T.keep _ _ _ st2 fun b hb o e => old b o e, fun b hb => (f2 b hb).1, .nil, w0⟩
    rintro n s5 ⟨i, ys, us, nn, H5, I5, st5, fr5, vy, w5⟩
    obtain ⟨hz, ⟨stop, qn⟩ | ⟨go, step⟩⟩ := turn i n ys H5 w5
    · refine wpAny_mono (T.done (X.inc (own ++ cs.map (·.2)) scope cl fp s2 H2 C) rfl rfl rfl hc i _ s5 _ H5 (fun _ _ => False) I5 (fpok fr5) st5 stop) (fun r s6 z => ?_) fun _ _ z => z
      obtain ⟨rfl, I6⟩ := z
      obtain ⟨m6, hn6, _⟩ := id I6.loc
      obtain ⟨pD, pN, _, _, _⟩ := I6.pin (D, { cls := .type "list", data := .seq us.toArray nn }) (by simp)
      have Cfree : H5 C = none := I6.free
      refine hRR D C s6 H5 ys (fun h7 hs7 => ?_) pN Cfree hDC ⟨m6, hn6⟩ (by rw [← hDe]; exact hC) qn
      have same : ∀ b, b ≠ C → h7.get? b = s6.heap.get? b := fun b hb => hs7.2 b hb
      have lt2 := ltC
      have u7 : Un (frs X.stack) fp H2 H5 s2.heap h7 := ⟨fun b o e n1 n2 n3 => (same b (lt2 b o e)).trans (I6.base.keep b o e n1 n2 n3), fun b o e n1 n2 n3 => by
          obtain ⟨sl, z⟩ := I6.base.slot b o e n1 n2 n3
          exact ⟨sl, (same b (lt2 b o e)).trans z⟩, I6.base.free, fun b o e n1 => by
          obtain ⟨o', z⟩ := I6.base.there b o e n1
          exact ⟨o', (same b (lt2 b o e)).trans z⟩, I6.base.tups, I6.base.frzs, I6.base.tbls⟩
      have hok7 : HOk X.prog X.w H5 h7 := fun a o e => by
        refine (I6.hok a o e).stay (fun c v hcc q => (same c ?_).trans q) (fun _ q => q) fun _ _ q => q
        rintro rfl
        rcases hcc with z | z
        · rw [← z] at e; rw [Cfree] at e; cases e
        · rw [Cfree] at z; cases z
      have I7 : Inv X pins σ H5 { s6 with heap := h7 } := I2.call' (s' := { s6 with heap := h7 }) I6.os u7 hok7 I6.bare fun b hb => ⟨(f2 b hb).2.2.2.1, (f2 b hb).2.1, (f2 b hb).2.2.2.2.1, (f2 b hb).2.2.2.2.2⟩
      exact I7.track (a := D) (o := .lst ys) pN (Heap.get?_none_of_le (by rw [hDe]; exact I2.sz)) (by rw [hDe]; exact Nat.ne_of_gt I2.lt) (fun x c e z => by
          obtain ⟨v, o, ho, _⟩ := I2.cell x c e
          exact ltD _ _ ho z) (fun p hp z => ltD _ _ (I2.pin p hp).1 z) ⟨hz, us, nn, vy, (same D hDC).trans pD⟩
    · refine wpAny_mono (T.item (X.inc (own ++ cs.map (·.2)) scope cl fp s2 H2 C) rfl rfl rfl hc i _ s5 _ H5 (fun _ _ => False) I5 (fpok fr5) st5 go) (fun r s6 z => ?_) fun _ _ z => z
      obtain ⟨u, rfl, z⟩ := z
      refine wpAny_mono z (fun _ s7 ⟨x, H7, I7, r7, y7, st7, fr7⟩ => ?_) fun _ _ z => z
      have I7' := I7.pinned (fpok fr7) (T.obj _ _ st7)
      refine wpAny_mono (hg fp s2 H2 C _ s7 _ H7 x u _ I7' r7 (step x H7 y7)) (fun _ s8 ⟨σ8, H8, I8, q8⟩ => ?_) fun _ _ z => z
      refine wpAny_mono (he fp s2 H2 C _ s8 σ8 H8 _ I8 q8) (fun uy s9 ⟨y, H9, I9, r9, m', hm', w9⟩ => ?_) fun _ _ z => z
      obtain ⟨pD, pN, _, _, _⟩ := I9.pin (D, { cls := .type "list", data := .seq us.toArray nn }) (by simp)
      refine append_at (its := us.toArray) (n := nn) pD (fun h10 hs10 hD10 => ?_) (by rw [List.size_toArray, ← vy.length]; exact hz)
      have keepfp : ∀ b ∈ fp, ∀ o, s7.heap.get? b = some o → s9.heap.get? b = some o ∧ H9 b = none := fun b hb o e => by
        have z := I9.pin (b, o) (List.mem_append_right _ (List.mem_append_right _ (mem_pinsAt hb e)))
        exact ⟨z.1, z.2.1⟩
      have I9' : Inv (X.inc (own ++ cs.map (·.2)) scope cl fp s2 H2 C) [] (List.replicate own.length none ++ capsAt cs σ) H9 s9 := I2.incAgain I9 f2 hcl hcs
      have I10 : Inv (X.inc (own ++ cs.map (·.2)) scope cl fp s2 H2 C) [] (List.replicate own.length none ++ capsAt cs σ) H9 { s9 with heap := h10 } := I9'.turned (it := D) (t' := s9.toks) (fun b o hb e => (hs10.2 b hb).trans e) pN hDC (.inr (Nat.le_of_eq hDe.symm)) (fun x c e z => by
          obtain ⟨v, o, ho, _⟩ := I2.cell x c (hcl x c e)
          exact ltD _ _ ho z) fun p hp => by simp at hp
      rw [lstP] at hD10
      refine ⟨m', hm', i + 1, ys ++ [y], us ++ [uy], nn + 1, H9, pinD I10 hD10 pN, T.keep _ _ _ st7 fun b hb o e => ?_, fun b hb => ?_, vy.append (.cons r9 .nil), w9⟩
      · exact (hs10.2 b (Nat.ne_of_lt (hfp b hb))).trans (keepfp b hb o e).1
      · obtain ⟨o, e, _⟩ := T.obj _ _ st7 b hb
        exact (keepfp b hb o e).2
  exact codeAny_compStart_list (loop _ rfl) (T.self _ 0 _ _ _ (T.keep _ _ _ st2 fun b hb o e => old b o e) (loop _ rfl))
theorem free_of {X : Cx} {scope : Scope} (hcell : ∀ y ∈ scope.names, y.2 ≠ .cell) {y : Str} (hy : (relabel scope X.env).names.lookup y = some .cell ∨ (relabel scope X.env).names.lookup y = some .free) : (y, NameKind.free) ∈ scope.names := by
  have go : ∀ k, (k = .cell ∨ k = .free) → (relabel scope X.env).names.lookup y = some k → (y, NameKind.free) ∈ scope.names := fun k hk e => by
    have m := PySem.mem_of_lookup e
    obtain ⟨⟨n, k'⟩, hm, e'⟩ := List.mem_map.mp (show (y, k) ∈ scope.names.map _ from m)
    have e2 : (if (k' == NameKind.free && X.env.scope.kind == .function && X.env.kindOf n == some .cell) = true then (n, NameKind.cell) else (n, k')) = (y, k) := e'
    split at e2
    · rename_i c
      rw [Bool.and_eq_true, Bool.and_eq_true] at c
      have := beq_iff_eq.mp c.1.1
      subst this
      cases e2
      exact hm
    · cases e2
      rcases hk with rfl | rfl
      · exact absurd rfl (hcell _ hm)
      · exact hm
  rcases hy with hy | hy
  · exact go _ (.inl rfl) hy
  · exact go _ (.inr rfl) hy
/-- y = [elt for tg in iter] -/
theorem ps_setComp {iter elt : Expr} {scope : Scope} {pos spos py : Pos} {y : Str} {j : Nat} {own : List Str} {cs : List (Nat × Str)} {wi : TI} {g : TG} {te : TE} (hN : X.N.Nodup) (hj : X.N[j]? = some y) (hy : Loc X.env.scope y) (hc : X.calm = true) (hi : PI X tg iter wi)
    (hg : ∀ fp s2 H2 C, PG (X.inc (own ++ cs.map (·.2)) scope (clFold X.env.cells scope.names []) fp s2 H2 C) tg g) (he : ∀ fp s2 H2 C, PE (X.inc (own ++ cs.map (·.2)) scope (clFold X.env.cells scope.names []) fp s2 H2 C) elt te)
    (hfree : ∀ p ∈ scope.names, p.2 = .free → X.env.scope.names.lookup p.1 = some .cell) (hcell : ∀ y ∈ scope.names, y.2 ≠ .cell) (hkind : scope.kind = .function) (hnames : ∀ y ∈ scope.names, y.2 = .local → scope.names.lookup y.1 = some .local)
    (hcs : ∀ p ∈ cs, X.N[p.1]? = some p.2 ∧ X.env.scope.names.lookup p.2 = some .cell ∧ (relabel scope X.env).names.lookup p.2 = some .cell)
    (hsw : swapsWith (.ListComp elt [⟨tg, iter, [], 0⟩] scope pos) (some (.Name y py)) spos.line X.env = pure true := by rfl)
    (hs : ∀ x, foldedSetIterable iter X.env x = pure x := by intro _; rfl) (hf : X.fn y = true ∨ X.env.scope.names.lookup y = some .local := by first | exact .inl rfl | exact .inr rfl) :
    PS X (.Assign [.Name y py] (.ListComp elt [⟨tg, iter, [], 0⟩] scope pos) spos) (tAsg (tComp own.length cs wi g te) (gName j)) := by
  intro pins s σ H D I h
  have hfr : ∀ p ∈ scope.names, p.2 = .free → ∃ c, X.env.cells.lookup p.1 = some c := fun p hp hk => I.ok.has p.1 (.inl (hfree p hp hk))
  have hcl := clFold_sub (cells := X.env.cells) scope.names [] (fun _ _ z => by simp at z) hfr
  rw [exec_Assign_Name_used _ _ _ _ hsw]
  refine wpAny_bind (wpAny_standAt (wpAny_bind ?_))
  show wpAny _ X.A (do let _ ← comprehension (.ListComp elt [⟨tg, iter, [], 0⟩] scope pos) scope X.env _ (newList []) false (eval iter X.env) (some (assign (.Name y py) X.env))) _ _ s
  refine wpAny_bind (wpAny_mono (wpAny_comprehension_free (use := some (assign (.Name y py) X.env)) (Q := fun _ s' => SP X pins D .next s') rfl hs (clos_eq hfr) hkind hnames
    (thn (hi pins s σ H _ I h) fun v s1 h1 => thn h1 fun itv s2 h2 => ?_)) (fun _ s' hq => wpAny_pure (wpAny_pure hq)) fun _ _ e => e)
  obtain ⟨it, fp, tn, J, H2, rfl, I2, T, st2, f2, W, ⟨m0, w0⟩, turn⟩ := h2
  refine comp_block (QN := fun ys H5 => ∀ p, H5 p = none → D.nx (σ.set j (some (.ref p))) (upd H5 p (.lst ys))) hc hg he hcell hkind hcl (fun z hz => clFold_has scope.names [] z (.inr (free_of hcell hz))) hcs I2 T st2 f2 w0 turn ?_
  intro D' C s6 H5 ys inv dN cN dc hm hC q
  obtain ⟨m6, hn6⟩ := hm
  have I8 : Inv X pins σ (upd H5 D' (.lst ys)) s6 := inv s6.heap (Heap.SameBut.refl _ _)
  show wpAny _ X.A (assign (.Name y py) X.env (.ref D')) _ _ s6
  refine wpAny_assign_Name (store_ok2 (v := .ref D') I8 hN hj hy rfl (fun s7 I7 hsb => ?_) hf)
  obtain ⟨a, sb, ha⟩ := hsb
  have nC : C ≠ a := by
    rcases ha with rfl | ha
    · exact Nat.ne_of_gt (Nat.lt_of_lt_of_le I2.lt hC)
    · obtain ⟨v, o, ho, _⟩ := I2.cell y a ha
      exact Nat.ne_of_gt (Nat.lt_of_lt_of_le (Heap.lt_size ho) hC)
  refine ⟨m6, hn6.sameBut sb nC, fun h8 hs8 => ⟨_, _, ?_, q D' dN⟩⟩
  exact I7.turned (it := C) (t' := s7.toks) (fun b o hb e => (hs8.2 b hb).trans e) (by rw [upd_ne (Ne.symm dc)]; exact cN) (Nat.ne_of_gt (Nat.lt_of_lt_of_le I2.lt hC)) (.inr (Nat.le_trans I2.sz hC)) (fun x c e z => by
    obtain ⟨v, o, ho, _⟩ := I2.cell x c e
    exact absurd (Nat.lt_of_lt_of_le (Heap.lt_size ho) hC) (by rw [z]; exact Nat.lt_irrefl _)) (fun p hp z => absurd (Nat.lt_of_lt_of_le (Heap.lt_size (I2.pin p hp).1) hC) (by rw [z]; exact Nat.lt_irrefl _))
end
end L2

set_option Elab.async false
set_option linter.all false
set_option maxRecDepth 100000
set_option maxHeartbeats 4000000

namespace L2
open PySem PySem.Spec PyProof.Rows
section
variable {prog : Program} {w : World} {A : Around} {E : Value → Shared → Prop} {R : Result → Shared → Prop} {s : Shared}
end
/-- [elt for tg in iter if tst] -/
def tCompI (k : Nat) (cs : List (Nat × Str)) (wi : TI) (g : TG) (tt : TT) (te : TE) : TE := fun σ H Q => wi σ H fun J H1 => ∃ W : Nat → Nat → List V → Hp → Prop, (∃ m, W 0 m [] H1) ∧ ∀ i m ys H2, W i m ys H2 → ys.length ≤ sizeLine ∧
  ((J.stop i H2 ∧ ∀ p, H2 p = none → Q (.ref p) (upd H2 p (.lst ys))) ∨
   (J.go i H2 ∧ ∀ x H3, J.yld i H2 x H3 → g x (List.replicate k none ++ capsAt cs σ) H3 fun σ4 H4 => tt σ4 H4 fun b H5 => if b = true then te σ4 H5 fun y H6 => ∃ m', m' < m ∧ W (i + 1) m' (ys ++ [y]) H6 else ∃ m', m' < m ∧ W (i + 1) m' ys H5))
section
variable {X : Cx} {tg : Expr}
end
end L2

set_option Elab.async false
set_option linter.all false
set_option maxRecDepth 100000
set_option maxHeartbeats 4000000

namespace L2
open PySem PySem.Spec PyProof.Rows
section
variable {X : Cx} {pins : List (Addr × Obj)} {σ : St} {H : Hp} {s : Shared} {h' : Heap}
end
def Itz (K : PySem.W.Frag) (a b : Addr) : It :=
  ⟨fun i H => ∃ xs ys x y, SqL K H a xs ∧ SqL K H b ys ∧ xs[i]? = some x ∧ ys[i]? = some y,
   fun i H v H' => ∃ p x y, (∀ xs, SqL K H a xs → xs[i]? = some x) ∧ (∀ ys, SqL K H b ys → ys[i]? = some y) ∧ H p = none ∧ v = .ref p ∧ H' = upd H p (.tup [x, y]),
   fun i H => ∃ xs ys, SqL K H a xs ∧ SqL K H b ys ∧ (xs.length ≤ i ∨ ys.length ≤ i)⟩
section
variable {X : Cx} {elts : List Expr} {x1 : Nat} {tp : Pos}
def iZip (K : PySem.W.Frag) (ta : TA) : TI := fun σ H R => ta σ H fun vs H1 => ∃ a b, vs = [.ref a, .ref b] ∧ (∃ xs, SqL K H1 a xs) ∧ (∃ ys, SqL K H1 b ys) ∧ R (Itz K a b) H1
end
section
variable {σ : St} {H : Hp} {Q : VK} {td ty tv tx : TE} {K : PySem.W.Frag} {En : Ends}
theorem y35y : tDGet td ty σ H Q = td σ H fun x H1 => ty σ H1 fun y H2 => ∃ a v, x = .ref a ∧ DGet H2 a y (some v) ∧ Q v H2 := rfl
theorem y3cy : sDPut td ty tv En σ H = tv σ H fun v H1 => td σ H1 fun x H2 => ty σ H2 fun y H3 => ∃ a H4, x = .ref a ∧ DPut H3 a y v H4 ∧ En.nx σ H4 := rfl
theorem y39y : tDNewT σ H Q = ∀ p, H p = none → Q (.ref p) (upd H p (.dT [])) := rfl
theorem y38y : tDNewK σ H Q = ∀ p, H p = none → Q (.ref p) (upd H p (.dK [])) := rfl
end
end L2

set_option Elab.async false
set_option linter.all false
set_option maxRecDepth 100000
set_option maxHeartbeats 4000000

namespace L2
open PySem PySem.Spec PyProof.Rows
theorem hu1 {a b : Nat} (h : a + 64 < b) : a + 1 < b := by omega
section
variable {X : Cx}
def rMul0 : R2 := fun x y H Q => match x, y with
  | .str z, .int n => 0 ≤ n ∧ n < 1000 ∧ z.length ≤ 1000 ∧ ∀ z' : Str, z'.cps.toList = (List.replicate n.toNat z.cps.toList).flatten → Q (.str z') H
  | x, y => rMulS x y H Q
theorem op_mul0 : OpR X (binaryOp .Mult) rMul0 := fun pins s σ H x y v u Q I rx ry q => by
  unfold rMul0 at q
  split at q
  · rename_i z n
    obtain ⟨h0, h1, h2, q⟩ := q
    by_cases hn : n = 0
    · subst hn
      obtain ⟨t, rfl⟩ := rx
      obtain ⟨t', rfl⟩ := ry
      exact PySem.P.mul_str_none (by decide) (by decide) ⟨.str _, H, I.tok _, ⟨_, rfl⟩, q Str.empty rfl⟩
    · exact op_mulS pins s σ H _ _ v u Q I rx ry ⟨by omega, h1, h2, q⟩
  · exact op_mulS pins s σ H _ _ v u Q I rx ry q
end
section
variable {K : PySem.W.Frag} {H : Hp} {Q : VK} {σ : St} {td ty : TE}
theorem y5by {i j : Int} : rMul0 (.int i) (.int j) H Q = (IntMulOk i j ∧ Q (.int (i * j)) H) := rfl
theorem y36y : tDGet1 td ty σ H Q = td σ H fun x H1 => ∃ a, x = .ref a ∧ IsD H1 a ∧ ty σ H1 fun y H2 => ∃ o, DGet H2 a y o ∧ Q (o.getD .non) H2 := rfl
end
end L2
namespace L2
open PySem PySem.Spec PyProof.Rows
/-- a loop over a list that stays, whatever else changes -/
theorem ForA.byL {K : PySem.W.Frag} {a : Addr} {xs : List V} {g : TG} {tb : TS} {D : Ends} {σ : St} {H : Hp} (hA : SqL K H a xs) (Pv : Nat → St → Hp → Prop) (h0 : Pv 0 σ H) (hl : ∀ i σ H', Pv i σ H' → SqL K H' a xs)
    (hs : ∀ i x σ H, xs[i]? = some x → Pv i σ H → g x σ H fun σ2 H2 => tb { D with nx := Pv (i + 1), ct := Pv (i + 1), bk := D.nx } σ2 H2) (hd : ∀ σ H, Pv xs.length σ H → D.nx σ H) : ForA K a g tb D σ H := by
  refine .inl ⟨⟨xs, hA⟩, fun i m σ H => Pv i σ H ∧ i ≤ xs.length ∧ m = xs.length - i, ⟨_, h0, Nat.zero_le _, rfl⟩, ?_⟩
  rintro i m σ H ⟨hp, hi, rfl⟩
  have hq := hl i σ H hp
  by_cases lt : i < xs.length
  · refine .inr ⟨⟨xs, xs[i], hq, List.getElem?_eq_getElem lt⟩, Pv (i + 1), fun σ' H' p => ⟨_, Nat.sub_lt_sub_left lt (Nat.lt_succ_self i), p, lt, rfl⟩, ?_⟩
    rintro x H' ⟨rfl, hx⟩
    exact hs i x σ _ (hx xs hq) hp
  · have e : i = xs.length := by omega
    subst e
    exact .inl ⟨⟨xs, hq, Nat.le_refl _⟩, hd σ H hp⟩
def ForJ (J : It) (g : TG) (tb : TS) (D : Ends) (σ : St) (H : Hp) : Prop := ∃ W : Nat → Nat → St → Hp → Prop, (∃ m, W 0 m σ H) ∧ ∀ i m σ H, W i m σ H →
  (J.stop i H ∧ D.nx σ H) ∨ (J.go i H ∧ ∃ N : St → Hp → Prop, (∀ σ' H', N σ' H' → ∃ m', m' < m ∧ W (i + 1) m' σ' H') ∧ ∀ x H', J.yld i H x H' → g x σ H' fun σ2 H2 => tb { D with nx := N, ct := N, bk := D.nx } σ2 H2)
theorem y47y {K : PySem.W.Frag} {ta : TA} {g : TG} {tb : TS} {D : Ends} {σ : St} {H : Hp} : tFor (iZip K ta) g tb D σ H = ta σ H fun vs H1 => ∃ a b, vs = [.ref a, .ref b] ∧ (∃ xs, SqL K H1 a xs) ∧ (∃ ys, SqL K H1 b ys) ∧ ForJ (Itz K a b) g tb D σ H1 := rfl
theorem ForJ.zip {K : PySem.W.Frag} {a b : Addr} {xs ys : List V} {g : TG} {tb : TS} {D : Ends} {σ : St} {H : Hp} (Pv : Nat → St → Hp → Prop) (h0 : Pv 0 σ H) (hl : ∀ i σ H', Pv i σ H' → SqL K H' a xs ∧ SqL K H' b ys)
    (hs : ∀ i x y σ H p H', xs[i]? = some x → ys[i]? = some y → Pv i σ H → H p = none → Same H H' → H' p = some (.tup [x, y]) → g (.ref p) σ H' fun σ2 H2 => tb { D with nx := Pv (i + 1), ct := Pv (i + 1), bk := D.nx } σ2 H2)
    (hd : ∀ σ H, Pv (min xs.length ys.length) σ H → D.nx σ H) : ForJ (Itz K a b) g tb D σ H := by
  refine ⟨fun i m σ H => Pv i σ H ∧ i ≤ min xs.length ys.length ∧ m = min xs.length ys.length - i, ⟨_, h0, Nat.zero_le _, rfl⟩, ?_⟩
  rintro i m σ H ⟨hp, hi, rfl⟩
  obtain ⟨qa, qb⟩ := hl i σ H hp
  by_cases lt : i < min xs.length ys.length
  · have l1 : i < xs.length := by omega
    have l2 : i < ys.length := by omega
    refine .inr ⟨⟨xs, ys, xs[i], ys[i], qa, qb, List.getElem?_eq_getElem l1, List.getElem?_eq_getElem l2⟩, Pv (i + 1), fun σ' H' p => ⟨_, Nat.sub_lt_sub_left lt (Nat.lt_succ_self i), p, lt, rfl⟩, ?_⟩
    rintro v H' ⟨p, x, y, hx, hy, hn, rfl, rfl⟩
    exact hs i x y σ H p _ (hx xs qa) (hy ys qb) hp hn (newS hn rfl) (newE rfl)
  · have e : i = min xs.length ys.length := by omega
    subst e
    exact .inl ⟨⟨xs, ys, qa, qb, by omega⟩, hd σ H hp⟩
/-- comprehensions over a list -/
theorem compL {K : PySem.W.Frag} {cs : List (Nat × Str)} {k : Nat} {g : TG} {te : TE} {σ : St} {a : Addr} {xs : List V} {H1 : Hp} {Q : VK} (Pv : Nat → List V → Hp → Prop) (h0 : Pv 0 [] H1) (hl : ∀ i ys H', i ≤ xs.length → Pv i ys H' → SqL K H' a xs ∧ ys.length ≤ sizeLine)
    (hs : ∀ i x ys H2, xs[i]? = some x → Pv i ys H2 → g x (List.replicate k none ++ capsAt cs σ) H2 fun σ4 H4 => te σ4 H4 fun y H5 => Pv (i + 1) (ys ++ [y]) H5) (hd : ∀ ys H2, Pv xs.length ys H2 → ∀ p, H2 p = none → Q (.ref p) (upd H2 p (.lst ys))) :
    ∃ W : Nat → Nat → List V → Hp → Prop, (∃ m, W 0 m [] H1) ∧ ∀ i m ys H2, W i m ys H2 → ys.length ≤ sizeLine ∧ (((Itl K a).stop i H2 ∧ ∀ p, H2 p = none → Q (.ref p) (upd H2 p (.lst ys))) ∨
      ((Itl K a).go i H2 ∧ ∀ x H3, (Itl K a).yld i H2 x H3 → g x (List.replicate k none ++ capsAt cs σ) H3 fun σ4 H4 => te σ4 H4 fun y H5 => ∃ m', m' < m ∧ W (i + 1) m' (ys ++ [y]) H5)) := by
  refine ⟨fun i m ys H2 => Pv i ys H2 ∧ i ≤ xs.length ∧ m = xs.length - i, ⟨_, h0, Nat.zero_le _, rfl⟩, ?_⟩
  rintro i m ys H2 ⟨hp, hi, rfl⟩
  obtain ⟨hq, hz⟩ := hl i ys H2 hi hp
  refine ⟨hz, ?_⟩
  by_cases lt : i < xs.length
  · refine .inr ⟨⟨xs, xs[i], hq, List.getElem?_eq_getElem lt⟩, ?_⟩
    rintro x H3 ⟨rfl, hx⟩
    have e : (fun (σ4 : St) (H4 : Hp) => te σ4 H4 fun y H5 => Pv (i + 1) (ys ++ [y]) H5) = fun σ4 H4 => te σ4 H4 fun y H5 => ∃ m', m' < xs.length - i ∧ Pv (i + 1) (ys ++ [y]) H5 ∧ i + 1 ≤ xs.length ∧ m' = xs.length - (i + 1) := by
      funext σ4 H4
      congr 1
      funext y H5
      exact propext ⟨fun q => ⟨_, Nat.sub_lt_sub_left lt (Nat.lt_succ_self i), q, lt, rfl⟩, fun ⟨_, _, q, _⟩ => q⟩
    rw [← e]
    exact hs i x ys _ (hx xs hq) hp
  · have e : i = xs.length := by omega
    subst e
    exact .inl ⟨⟨xs, hq, Nat.le_refl _⟩, hd ys H2 hp⟩
theorem compIL {K : PySem.W.Frag} {cs : List (Nat × Str)} {k : Nat} {g : TG} {tt : TT} {te : TE} {σ : St} {a : Addr} {xs : List V} {H1 : Hp} {Q : VK} (Pv : Nat → List V → Hp → Prop) (h0 : Pv 0 [] H1) (hl : ∀ i ys H', i ≤ xs.length → Pv i ys H' → SqL K H' a xs ∧ ys.length ≤ sizeLine)
    (hs : ∀ i x ys H2, xs[i]? = some x → Pv i ys H2 → g x (List.replicate k none ++ capsAt cs σ) H2 fun σ4 H4 => tt σ4 H4 fun b H5 => if b = true then te σ4 H5 fun y H6 => Pv (i + 1) (ys ++ [y]) H6 else Pv (i + 1) ys H5) (hd : ∀ ys H2, Pv xs.length ys H2 → ∀ p, H2 p = none → Q (.ref p) (upd H2 p (.lst ys))) :
    ∃ W : Nat → Nat → List V → Hp → Prop, (∃ m, W 0 m [] H1) ∧ ∀ i m ys H2, W i m ys H2 → ys.length ≤ sizeLine ∧ (((Itl K a).stop i H2 ∧ ∀ p, H2 p = none → Q (.ref p) (upd H2 p (.lst ys))) ∨
      ((Itl K a).go i H2 ∧ ∀ x H3, (Itl K a).yld i H2 x H3 → g x (List.replicate k none ++ capsAt cs σ) H3 fun σ4 H4 => tt σ4 H4 fun b H5 => if b = true then te σ4 H5 fun y H6 => ∃ m', m' < m ∧ W (i + 1) m' (ys ++ [y]) H6 else ∃ m', m' < m ∧ W (i + 1) m' ys H5)) := by
  refine ⟨fun i m ys H2 => Pv i ys H2 ∧ i ≤ xs.length ∧ m = xs.length - i, ⟨_, h0, Nat.zero_le _, rfl⟩, ?_⟩
  rintro i m ys H2 ⟨hp, hi, rfl⟩
  obtain ⟨hq, hz⟩ := hl i ys H2 hi hp
  refine ⟨hz, ?_⟩
  by_cases lt : i < xs.length
  · refine .inr ⟨⟨xs, xs[i], hq, List.getElem?_eq_getElem lt⟩, ?_⟩
    rintro x H3 ⟨rfl, hx⟩
    have w : ∀ (zs : List V) (H5 : Hp), Pv (i + 1) zs H5 = ∃ m', m' < xs.length - i ∧ Pv (i + 1) zs H5 ∧ i + 1 ≤ xs.length ∧ m' = xs.length - (i + 1) := fun zs H5 =>
      propext ⟨fun q => ⟨_, Nat.sub_lt_sub_left lt (Nat.lt_succ_self i), q, lt, rfl⟩, fun ⟨_, _, q, _⟩ => q⟩
    have w1 : (fun (y : V) (H6 : Hp) => Pv (i + 1) (ys ++ [y]) H6) = fun y H6 => ∃ m', m' < xs.length - i ∧ Pv (i + 1) (ys ++ [y]) H6 ∧ i + 1 ≤ xs.length ∧ m' = xs.length - (i + 1) := by
      funext y H6
      exact w _ _
    have e : (fun (σ4 : St) (H4 : Hp) => tt σ4 H4 fun b H5 => if b = true then te σ4 H5 fun y H6 => Pv (i + 1) (ys ++ [y]) H6 else Pv (i + 1) ys H5) = fun σ4 H4 => tt σ4 H4 fun b H5 => if b = true then te σ4 H5 fun y H6 => ∃ m', m' < xs.length - i ∧ Pv (i + 1) (ys ++ [y]) H6 ∧ i + 1 ≤ xs.length ∧ m' = xs.length - (i + 1) else ∃ m', m' < xs.length - i ∧ Pv (i + 1) ys H5 ∧ i + 1 ≤ xs.length ∧ m' = xs.length - (i + 1) := by
      funext σ4 H4
      congr 1
      funext b H5
      by_cases hb : b = true
      · rw [if_pos hb, if_pos hb, ← w1]
      · rw [if_neg hb, if_neg hb]
        exact w ys H5
    have := hs i x ys _ (hx xs hq) hp
    rw [e] at this
    exact this
  · have e : i = xs.length := by omega
    subst e
    exact .inl ⟨⟨xs, hq, Nat.le_refl _⟩, hd ys H2 hp⟩
end L2

set_option linter.all false
set_option maxHeartbeats 4000000
namespace Ch
open PySem
structure TD where
  nm : Str
  st : Str
  en : Str
  lo : Option (Int × Int)
  hi : Option (Int × Int)
structure SD where
  src : Str
  dst : Str
  c : Int × Int
  nm : Str
  fw : Bool
def fwd (t : TD) : List SD := match t.hi with
  | some h => [⟨t.st, t.en, h, t.nm, true⟩]
  | none => []
def bwd (t : TD) : List SD := match t.lo with
  | some l => [⟨t.en, t.st, (-l.1, l.2), t.nm, false⟩]
  | none => []
def steps (t : TD) : List SD := fwd t ++ bwd t
def all (ts : List TD) : List SD := ts.flatMap steps
abbrev Pr := Str × Bool
def key (s : SD) : Pr := (s.nm, s.fw)
def find (ss : List SD) (k : Pr) : Option SD := ss.find? fun s => decide (key s = k)
def lastA (acc : Option SD) (ss : List SD) (k : Pr) : Option SD := ss.foldl (fun a s => if key s = k then some s else a) acc
def last (ss : List SD) (k : Pr) : Option SD := lastA none ss k
theorem last_snoc (ss : List SD) (s : SD) (k : Pr) : last (ss ++ [s]) k = if key s = k then some s else last ss k := by
  unfold last lastA
  rw [List.foldl_append]
  rfl
def addF (a c : Int × Int) : Int × Int := (Mth.top (a.1 * c.2 + c.1 * a.2) (a.2 * c.2), Mth.bot (a.1 * c.2 + c.1 * a.2) (a.2 * c.2))
structure FOk (n : Nat) (a : Int × Int) : Prop where
  s1 : Mth.Sz n a.1
  s2 : Mth.Sz n a.2
  b1 : 1 ≤ a.2
  g1 : Mth.g a.1 a.2 = 1
theorem FOk.mono {m n : Nat} {a : Int × Int} (h : FOk m a) (k : m ≤ n) : FOk n a := ⟨h.s1.mono k, h.s2.mono k, h.b1, h.g1⟩
theorem FOk.neg {n : Nat} {a : Int × Int} (h : FOk n a) : FOk n (-a.1, a.2) := ⟨h.s1.neg, h.s2, h.b1, by rw [Mth.g_neg]; exact h.g1⟩
theorem FOk.add {m n : Nat} {a c : Int × Int} (h : FOk m a) (k : FOk n c) : FOk (m + n + 1) (addF a c) := by
  have b0 : a.2 * c.2 ≠ 0 := Int.mul_ne_zero (by have := h.b1; omega) (by have := k.b1; omega)
  have z1 := h.s1.mul k.s2
  have z2 := (k.s1.mul h.s2).mono (n := m + n) (by omega)
  exact ⟨Mth.Sz.top b0 (z1.add z2), (Mth.Sz.bot b0 (h.s2.mul k.s2)).mono (by omega), Mth.bot_pos b0, Mth.g_low b0⟩
end Ch

set_option Elab.async false
set_option linter.all false
set_option maxRecDepth 100000
set_option maxHeartbeats 4000000
namespace L2
open PySem PySem.Spec PyProof.Rows Ch
def isTF : HO → Bool
  | .tup _ => true
  | .frz _ _ => true
  | _ => false
/-- tuples stay -/
def SameT (H H' : Hp) : Prop := ∀ b u, isTF u = true → H b = some u → H' b = some u
theorem SameT.refl (H : Hp) : SameT H H := fun _ _ _ h => h
theorem SameT.trans {H H1 H2 : Hp} (a : SameT H H1) (b : SameT H1 H2) : SameT H H2 := fun c o t h => b c o t (a c o t h)
theorem Same.t {H H' : Hp} (a : Same H H') : SameT H H' := fun b u _ h => a b u h
theorem SameT.put {H H' : Hp} {l : Addr} {o o' : HO} (e : upd H l o = H') (hl : H l = some o') (ht : isTF o' = false) : SameT H H' := fun b u t h => by
  rw [← e, upd_ne (ne_of h hl fun q => by rw [q, ht] at t; cases t)]
  exact h
theorem SqT.sameT {K : PySem.W.Frag} {H H' : Hp} {a : Addr} {xs : List V} (e : SameT H H') (h : SqT K H a xs) : SqT K H' a xs := by
  rcases h with (h | ⟨o, h⟩) | h
  · exact .inl (.inl (e _ _ rfl h))
  · exact .inl (.inr ⟨o, e _ _ rfl h⟩)
  · exact .inr h
theorem FrV.sameT {K : PySem.W.Frag} {H H' : Hp} {v : V} {a b : Int} (S : SameT H H') (h : FrV K H v a b) : FrV K H' v a b := by
  obtain ⟨p, e, q⟩ := h
  exact ⟨p, e, q.sameT S⟩
def frD (a : Int × Int) : D := .tup [.int a.1, .int a.2]
def bD : Option (Int × Int) → D
  | none => .non
  | some a => frD a
def tdD (t : TD) : D := .tup [.str t.nm, .str t.st, .str t.en, bD t.lo, bD t.hi]
def pD (s : SD) : D := .tup [.str s.src, .str s.dst, frD s.c, .bl s.fw]
def prD (c : Pr) : D := .tup [.str c.1, .bl c.2]
/-- a bound in the heap -/
def BV (K : PySem.W.Frag) (H : Hp) : Option (Int × Int) → V → Prop
  | none, v => v = .non
  | some a, v => FrV K H v a.1 a.2
theorem BV.rep {K : PySem.W.Frag} {H : Hp} {o : Option (Int × Int)} {v : V} (h : BV K H o v) : Rep K H (bD o) v := by
  cases o with
  | none => simp only [bD, Rep]; exact h
  | some a => exact FrV.rep h
theorem BV.sameT {K : PySem.W.Frag} {H H' : Hp} {o : Option (Int × Int)} {v : V} (S : SameT H H') (h : BV K H o v) : BV K H' o v := by
  cases o with
  | none => exact h
  | some a => exact FrV.sameT S h
/-- a tie, a step, a pair -/
def TV (K : PySem.W.Frag) (H : Hp) (t : TD) (x : V) : Prop := ∃ b vl vg, x = .ref b ∧ SqT K H b [.str t.nm, .str t.st, .str t.en, vl, vg] ∧ BV K H t.lo vl ∧ BV K H t.hi vg
def PV (K : PySem.W.Frag) (H : Hp) (s : SD) (x : V) : Prop := ∃ b v, x = .ref b ∧ SqT K H b [.str s.src, .str s.dst, v, .bl s.fw] ∧ FrV K H v s.c.1 s.c.2
def CV (H : Hp) (c : Pr) (x : V) : Prop := ∃ b, x = .ref b ∧ H b = some (.tup [.str c.1, .bl c.2])
def LV (K : PySem.W.Frag) (H : Hp) (s : SD) (x : V) : Prop := ∃ b v w, x = .ref b ∧ SqT K H b [.str s.src, .str s.dst, v, w] ∧ FrV K H v s.c.1 s.c.2 ∧ CV H (key s) w
section
variable {K : PySem.W.Frag} {H H' : Hp}
theorem TV.sameT {t : TD} {x : V} (S : SameT H H') : TV K H t x → TV K H' t x := fun ⟨b, vl, vg, e, q, h1, h2⟩ => ⟨b, vl, vg, e, q.sameT S, h1.sameT S, h2.sameT S⟩
theorem PV.sameT {s : SD} {x : V} (S : SameT H H') : PV K H s x → PV K H' s x := fun ⟨b, v, e, q, h⟩ => ⟨b, v, e, q.sameT S, h.sameT S⟩
theorem CV.sameT {c : Pr} {x : V} (S : SameT H H') : CV H c x → CV H' c x := fun ⟨b, e, q⟩ => ⟨b, e, S _ _ rfl q⟩
theorem LV.sameT {s : SD} {x : V} (S : SameT H H') : LV K H s x → LV K H' s x := fun ⟨b, v, w, e, q, h1, h2⟩ => ⟨b, v, w, e, q.sameT S, h1.sameT S, h2.sameT S⟩
theorem TV.rep {t : TD} {x : V} : TV K H t x → Rep K H (tdD t) x := fun ⟨b, vl, vg, e, q, h1, h2⟩ => by
  simp only [tdD, Rep, RepL]
  exact ⟨b, _, e, q, _, _, rfl, rfl, _, _, rfl, rfl, _, _, rfl, rfl, _, _, rfl, h1.rep, _, _, rfl, h2.rep, rfl⟩
theorem PV.rep {s : SD} {x : V} : PV K H s x → Rep K H (pD s) x := fun ⟨b, v, e, q, h⟩ => by
  simp only [pD, Rep, RepL]
  exact ⟨b, _, e, q, _, _, rfl, rfl, _, _, rfl, rfl, _, _, rfl, FrV.rep h, _, _, rfl, rfl, rfl⟩
theorem PV.of {s : SD} {x : V} (h : Rep K H (pD s) x) : PV K H s x := by
  simp only [pD, frD, Rep, RepL] at h
  obtain ⟨b, ys, rfl, q, v1, r1, rfl, rfl, v2, r2, rfl, rfl, v3, r3, rfl, ⟨p, zs, rfl, q2, w1, t1, rfl, rfl, w2, t2, rfl, rfl, rfl⟩, v4, r4, rfl, rfl, rfl⟩ := h
  exact ⟨b, .ref p, rfl, q, p, rfl, q2⟩
theorem CV.rep {c : Pr} {x : V} : CV H c x → Rep K H (prD c) x := fun ⟨b, e, q⟩ => by
  simp only [prD, Rep, RepL]
  exact ⟨b, _, e, SqT.of q, _, _, rfl, rfl, _, _, rfl, rfl, rfl⟩
end
/-- lists of such -/
def All2 {α : Type} (P : α → V → Prop) : List α → List V → Prop
  | [], xs => xs = []
  | a :: as, xs => ∃ x r, xs = x :: r ∧ P a x ∧ All2 P as r
section
variable {α : Type} {P P' : α → V → Prop}
theorem All2.mono : ∀ {as : List α} {xs : List V}, (∀ a x, P a x → P' a x) → All2 P as xs → All2 P' as xs
  | [], _, _, h => h
  | a :: as, xs, f, h => by
    obtain ⟨x, r, e, h1, h2⟩ := h
    exact ⟨x, r, e, f _ _ h1, All2.mono f h2⟩
theorem All2.length : ∀ {as : List α} {xs : List V}, All2 P as xs → xs.length = as.length
  | [], _, h => by rw [show _ = _ from h]; rfl
  | a :: as, xs, h => by
    obtain ⟨x, r, e, h1, h2⟩ := h
    rw [e, List.length_cons, List.length_cons, h2.length]
theorem All2.at_ : ∀ {as : List α} {xs : List V} {i : Nat} {x : V}, All2 P as xs → xs[i]? = some x → ∃ a, as[i]? = some a ∧ P a x
  | [], _, _, _, h, hx => by rw [show _ = _ from h] at hx; simp at hx
  | a :: as, xs, i, y, h, hx => by
    obtain ⟨x, r, e, h1, h2⟩ := h
    subst e
    cases i with
    | zero => simp at hx; subst hx; exact ⟨a, rfl, h1⟩
    | succ i => simpa using All2.at_ h2 (by simpa using hx)
theorem All2.get : ∀ {as : List α} {xs : List V} {i : Nat} {a : α}, All2 P as xs → as[i]? = some a → ∃ x, xs[i]? = some x ∧ P a x
  | [], _, _, _, h, hx => by simp at hx
  | a :: as, xs, i, b, h, hx => by
    obtain ⟨x, r, e, h1, h2⟩ := h
    subst e
    cases i with
    | zero => simp at hx; subst hx; exact ⟨x, rfl, h1⟩
    | succ i => simpa using All2.get h2 (by simpa using hx)
theorem All2.append : ∀ {as bs : List α} {xs ys : List V}, All2 P as xs → All2 P bs ys → All2 P (as ++ bs) (xs ++ ys)
  | [], bs, xs, ys, h, g => by rw [show xs = [] from h]; exact g
  | a :: as, bs, xs, ys, h, g => by
    obtain ⟨x, r, e, h1, h2⟩ := h
    subst e
    exact ⟨x, r ++ ys, rfl, h1, All2.append h2 g⟩
theorem All2.one {a : α} {x : V} (h : P a x) : All2 P [a] [x] := ⟨x, [], rfl, h, rfl⟩
theorem All2.take : ∀ {as : List α} {xs : List V} (j : Nat), All2 P as xs → All2 P (as.take j) (xs.take j)
  | as, xs, 0, _ => by simp only [List.take_zero]; exact rfl
  | [], xs, j + 1, h => by rw [show xs = [] from h]; simp; exact rfl
  | a :: as, xs, j + 1, h => by
    obtain ⟨x, r, e, h1, h2⟩ := h
    subst e
    exact ⟨x, r.take j, by simp, h1, All2.take j h2⟩
theorem All2.drop : ∀ {as : List α} {xs : List V} (j : Nat), All2 P as xs → All2 P (as.drop j) (xs.drop j)
  | as, xs, 0, h => by simpa using h
  | [], xs, j + 1, h => by rw [show xs = [] from h]; simp; exact rfl
  | a :: as, xs, j + 1, h => by
    obtain ⟨x, r, e, h1, h2⟩ := h
    subst e
    simpa using All2.drop j h2
theorem All2.repL {K : PySem.W.Frag} {H : Hp} {f : α → D} (g : ∀ a x, P a x → Rep K H (f a) x) : ∀ {as : List α} {xs : List V}, All2 P as xs → RepL K H (as.map f) xs
  | [], xs, h => by simp only [List.map_nil, RepL]; exact h
  | a :: as, xs, h => by
    obtain ⟨x, r, e, h1, h2⟩ := h
    simp only [List.map_cons, RepL]
    exact ⟨x, r, e, g _ _ h1, All2.repL g h2⟩
end
/-- a good tie -/
structure TOk (t : TD) : Prop where
  n1 : nameS t.nm = true
  n2 : nameS t.st = true
  n3 : nameS t.en = true
  ne : t.st ≠ t.en
  lo : ∀ a, t.lo = some a → FOk 200 a
  hi : ∀ a, t.hi = some a → FOk 200 a
  le : lessD (bD t.hi) (bD t.lo) = false
theorem len8 {z : Str} (h : nameS z = true) : z.length ≤ 8 := by
  unfold nameS at h
  simp only [Bool.and_eq_true, decide_eq_true_eq] at h
  exact h.1.2
theorem bD_ok {o : Option (Int × Int)} (h : ∀ a, o = some a → FOk 200 a) : boundB (bD o) = true ∧ szD (bD o) := by
  cases o with
  | none => exact ⟨rfl, by simp only [bD, szD]⟩
  | some a =>
    have k := h a rfl
    refine ⟨by simp [bD, frD, boundB, fracB, k.b1, k.g1], ?_⟩
    simp only [bD, frD, szD, szL]
    exact ⟨k.s1.mono (by decide), k.s2.mono (by decide), trivial⟩
theorem TOk.tie {t : TD} (h : TOk t) : tieB (tdD t) = true := by
  have e : eqD (.str t.st) (.str t.en) = false := by simp only [eqD, beq_eq_false_iff_ne]; exact h.ne
  simp [tdD, tieB, nameB, facesB, h.n1, h.n2, h.n3, e, boundsB, (bD_ok h.lo).1, (bD_ok h.hi).1, h.le]
theorem TOk.sz {t : TD} (h : TOk t) : szD (tdD t) := by
  simp only [tdD, szD, szL]
  have := len8 h.n1
  have := len8 h.n2
  have := len8 h.n3
  exact ⟨by omega, by omega, by omega, (bD_ok h.lo).2, (bD_ok h.hi).2, trivial⟩
theorem TOk.steps {t : TD} (h : TOk t) : ∀ s ∈ Ch.steps t, FOk 200 s.c := by
  intro s hs
  unfold Ch.steps fwd bwd at hs
  rcases List.mem_append.mp hs with hs | hs
  · split at hs
    · rename_i q; simp at hs; rw [hs]; exact h.hi _ q
    · simp at hs
  · split at hs
    · rename_i l q; simp at hs; rw [hs]; exact (h.lo _ q).neg
    · simp at hs
/-- the dict of the steps -/
def kP (c : Pr) : List Key := [.inr c.1, .inl c.2]
theorem kP_inj {a b : Pr} (h : kP a = kP b) : a = b := by
  unfold kP at h
  simp only [List.cons.injEq, Sum.inr.injEq, Sum.inl.injEq, and_true] at h
  exact Prod.ext h.1 h.2
def DOk (K : PySem.W.Frag) (H : Hp) (kvs : List (List Key × V)) (ss : List SD) : Prop := ∀ c : Pr, match last ss c with
  | none => valV kvs (kP c) = none
  | some s => ∃ v, valV kvs (kP c) = some v ∧ PV K H s v
theorem DOk.nil {K : PySem.W.Frag} {H : Hp} : DOk K H [] [] := fun c => rfl
theorem DOk.sameT {K : PySem.W.Frag} {H H' : Hp} {kvs : List (List Key × V)} {ss : List SD} (S : SameT H H') (h : DOk K H kvs ss) : DOk K H' kvs ss := fun c => by
  have := h c
  cases e : last ss c with
  | none => rw [e] at this; exact this
  | some s =>
    rw [e] at this
    obtain ⟨v, h1, h2⟩ := this
    exact ⟨v, h1, h2.sameT S⟩
theorem DOk.put {K : PySem.W.Frag} {H : Hp} {kvs : List (List Key × V)} {ss : List SD} {s : SD} {v : V} (h : DOk K H kvs ss) (p : PV K H s v) : DOk K H (putK kvs (kP (key s)) v) (ss ++ [s]) := fun c => by
  rw [last_snoc, valV_put]
  by_cases e : key s = c
  · rw [if_pos e, if_pos (by rw [e])]
    exact ⟨v, rfl, p⟩
  · rw [if_neg e, if_neg (fun q => e (kP_inj q).symm)]
    exact h c
end L2

set_option Elab.async false
set_option linter.all false
set_option maxRecDepth 100000
set_option maxHeartbeats 4000000
namespace L2
open PySem PySem.Spec PyProof.Rows Ch
section
variable {K : PySem.W.Frag} {H : Hp} {kvs : List (List Key × V)} {ss : List SD}
end
def CompJ (J : It) (k : Nat) (cs : List (Nat × Str)) (g : TG) (te : TE) (σ : St) (Q : VK) (H1 : Hp) : Prop := ∃ W : Nat → Nat → List V → Hp → Prop, (∃ m, W 0 m [] H1) ∧ ∀ i m ys H2, W i m ys H2 → ys.length ≤ sizeLine ∧
  ((J.stop i H2 ∧ ∀ p, H2 p = none → Q (.ref p) (upd H2 p (.lst ys))) ∨
   (J.go i H2 ∧ ∀ x H3, J.yld i H2 x H3 → g x (List.replicate k none ++ capsAt cs σ) H3 fun σ4 H4 => te σ4 H4 fun y H5 => ∃ m', m' < m ∧ W (i + 1) m' (ys ++ [y]) H5))
def CompIJ (J : It) (k : Nat) (cs : List (Nat × Str)) (g : TG) (tt : TT) (te : TE) (σ : St) (Q : VK) (H1 : Hp) : Prop := ∃ W : Nat → Nat → List V → Hp → Prop, (∃ m, W 0 m [] H1) ∧ ∀ i m ys H2, W i m ys H2 → ys.length ≤ sizeLine ∧
  ((J.stop i H2 ∧ ∀ p, H2 p = none → Q (.ref p) (upd H2 p (.lst ys))) ∨
   (J.go i H2 ∧ ∀ x H3, J.yld i H2 x H3 → g x (List.replicate k none ++ capsAt cs σ) H3 fun σ4 H4 => tt σ4 H4 fun b H5 => if b = true then te σ4 H5 fun y H6 => ∃ m', m' < m ∧ W (i + 1) m' (ys ++ [y]) H6 else ∃ m', m' < m ∧ W (i + 1) m' ys H5))
section
variable {K : PySem.W.Frag} {k : Nat} {cs : List (Nat × Str)} {g : TG} {tt : TT} {te tl : TE} {σ : St} {H H1 : Hp} {Q : VK} {a : Addr} {xs : List V}
theorem y32y : tComp k cs (iAny K tl) g te σ H Q = tl σ H fun x H1 => ∃ a, x = .ref a ∧ (((∃ xs, SqL K H1 a xs) ∧ CompJ (Itl K a) k cs g te σ Q H1) ∨ ((∃ xs, SqT K H1 a xs) ∧ CompJ (Itt K a) k cs g te σ Q H1)) := rfl
theorem y33y : tCompI k cs (iAny K tl) g tt te σ H Q = tl σ H fun x H1 => ∃ a, x = .ref a ∧ (((∃ xs, SqL K H1 a xs) ∧ CompIJ (Itl K a) k cs g tt te σ Q H1) ∨ ((∃ xs, SqT K H1 a xs) ∧ CompIJ (Itt K a) k cs g tt te σ Q H1)) := rfl
theorem CompJ.list (Pv : Nat → List V → Hp → Prop) (h0 : Pv 0 [] H1) (hl : ∀ i ys H', i ≤ xs.length → Pv i ys H' → SqL K H' a xs ∧ ys.length ≤ sizeLine)
    (hs : ∀ i x ys H2, xs[i]? = some x → Pv i ys H2 → g x (List.replicate k none ++ capsAt cs σ) H2 fun σ4 H4 => te σ4 H4 fun y H5 => Pv (i + 1) (ys ++ [y]) H5) (hd : ∀ ys H2, Pv xs.length ys H2 → ∀ p, H2 p = none → Q (.ref p) (upd H2 p (.lst ys))) :
    CompJ (Itl K a) k cs g te σ Q H1 := compL Pv h0 hl hs hd
theorem CompIJ.list (Pv : Nat → List V → Hp → Prop) (h0 : Pv 0 [] H1) (hl : ∀ i ys H', i ≤ xs.length → Pv i ys H' → SqL K H' a xs ∧ ys.length ≤ sizeLine)
    (hs : ∀ i x ys H2, xs[i]? = some x → Pv i ys H2 → g x (List.replicate k none ++ capsAt cs σ) H2 fun σ4 H4 => tt σ4 H4 fun b H5 => if b = true then te σ4 H5 fun y H6 => Pv (i + 1) (ys ++ [y]) H6 else Pv (i + 1) ys H5) (hd : ∀ ys H2, Pv xs.length ys H2 → ∀ p, H2 p = none → Q (.ref p) (upd H2 p (.lst ys))) :
    CompIJ (Itl K a) k cs g tt te σ Q H1 := compIL Pv h0 hl hs hd
end

theorem fmod_two {x f : Int} (h0 : 0 ≤ x) (h1 : x < 2 * f) : x.fmod f = x ∨ x.fmod f = x - f := by
  rw [Int.fmod_eq_emod_of_nonneg _ (by omega)]
  by_cases c : x < f
  · exact .inl (Int.emod_eq_of_lt h0 c)
  · refine .inr ?_
    have e : (x - f + f) % f = (x - f) % f := by simp
    rw [Int.sub_add_cancel] at e
    rw [e, Int.emod_eq_of_lt (by omega) (by omega)]
end L2

set_option linter.all false
namespace L2
open PySem PySem.Spec PyProof.Rows Ch
section
variable {ss : List SD} {c : Pr} {cs : List Pr} {s : SD} {tot : Int × Int} {f l : Str}
end
end L2

set_option linter.all false
set_option maxHeartbeats 4000000
namespace L2
open PySem PySem.Spec PyProof.Rows Ch
theorem depL_map {α : Type} {f : α → D} {n : Nat} (h : ∀ a, depD (f a) ≤ n) : ∀ as : List α, depL (as.map f) ≤ n
  | [] => by simp [depL]
  | a :: as => by
    rw [List.map_cons, depL]
    exact Nat.max_le.mpr ⟨h a, depL_map h as⟩
theorem dep_td (t : TD) : depD (tdD t) ≤ 10 := by
  cases h1 : t.lo <;> cases h2 : t.hi <;> simp [tdD, bD, frD, depD, depL, h1, h2]
section
variable {K : PySem.W.Frag} {H : Hp} {Q : VK}
end
end L2

set_option linter.all false
set_option maxHeartbeats 4000000
set_option maxRecDepth 100000
namespace L2
open PySem PySem.Spec PyProof.Rows
theorem relay_plain (t : SetTable) (es : Array (Int × Value)) (n : Nat) (hp : t.plain = false) : (relayAll t es n).2.1.plain = false := by
  unfold relayAll
  split
  · rename_i t' order e
    have e1 : t'.plain = false := by
      unfold SetTable.relaid at e
      unfold SetTable.laid at e
      cases hl : SetTable.layClean (SetTable.sizeAbove n - 1) (es.map (·.1)) with
      | none => rw [hl] at e; cases e
      | some ow =>
        rw [hl] at e
        simp only [Option.bind_eq_bind, Option.bind_some, Option.pure_def, Option.some.injEq, Prod.mk.injEq] at e
        rw [← e.1]
        exact hp
    dsimp only
    split
    · exact e1
    · rfl
  · rfl
section
variable {prog : Program} {w : World} {A : Around} {E : Value → Shared → Prop} {s : Shared}
/-- a set of the texts ks (told by its table) -/
def SetS (prog : Program) (w : World) (h : Heap) (a : Addr) (ks : List Str) : Prop :=
  ∃ es ep t, h.get? a = some { cls := .type "set", dict := none, data := .set es ep t, slots := #[] } ∧ ElemsOf (strKind prog w) es.toList ∧
    (es.toList.map fun e => strOf e.2).Perm ks ∧ ks.length < scanBound ∧ t.fits es.size = true ∧ (ks ≠ [] → t.plain = false)
theorem str_of_is {k : Str} {v : Value} (h : (strKind prog w).is k v = true) : strOf v = k := by
  obtain ⟨t, rfl⟩ := Value.isStrOf_shape h
  rfl
theorem stored {h : Heap} {a : Addr} {es es' : Array (Int × Value)} {ep : Nat} {t t' : SetTable} (ho : h.get? a = some { cls := .type "set", dict := none, data := .set es ep t, slots := #[] }) :
    (h.update a (Obj.putSet es' t')).get? a = some { cls := .type "set", dict := none, data := .set es' (ep + 1) t', slots := #[] } := by
  have e := Heap.get?_update_self (Obj.putSet es' t') ho (by rw [putSet_of es' t' rfl]; rfl)
  rw [e, putSet_of es' t' rfl]
theorem set_add {a : Addr} {ks : List Str} {z : Str} {tk : Tok} {Q : Bool → Shared → Prop} (hS : SetS prog w s.heap a ks) (hr : ks.length + 1 < scanBound)
    (q : ∀ h' b, Heap.SameBut a s.heap h' → SetS prog w h' a (if z ∈ ks then ks else ks ++ [z]) → Q b { s with heap := h' }) :
    wpAny (model prog w) A (setAddHashed a (.str z tk) ((strKind prog w).hash z)) Q E s := by
  obtain ⟨es, ep, t, ho, hel, hp, hb, hf, hpl⟩ := hS
  have hk : (strKind prog w).is z (.str z tk) = true := by show Value.isStrOf z (.str z tk) = true; simp [Value.isStrOf]
  have sz : es.size = ks.length := by rw [← hp.length_eq, List.length_map, Array.length_toList]
  unfold setAddHashed; unfold setAddHashedIn
  refine wpAny_holding (wpAny_bind (wpAny_setState_of ho rfl hf ?_))
  dsimp only
  rw [byScan_of (knd := strKind prog w) (x := .str z tk) rfl (by omega) hel]
  rw [if_pos rfl]
  unfold setAddByScan
  refine wpAny_bind (wpAny_bind (wpAny_rule (wpAny_bind (wpAny_setScan_of (knd := strKind prog w) hk ho rfl hf hel ?_))))
  have iff : ∀ e ∈ es.toList, ((strKind prog w).is z e.2 = true ↔ strOf e.2 = z) := fun e he => by
    obtain ⟨⟨k, h1, _⟩, _⟩ := hel e he
    constructor
    · exact str_of_is
    · intro h2
      rw [str_of_is h1] at h2
      rw [← h2]
      exact h1
  cases fi : es.toList.findIdx? (fun e => (strKind prog w).is z e.2) with
  | some j =>
    dsimp only
    obtain ⟨hj, pj, _⟩ := List.findIdx?_eq_some_iff_getElem.mp fi
    have hz : z ∈ ks := hp.mem_iff.mp (List.mem_map.mpr ⟨_, List.getElem_mem hj, (iff _ (List.getElem_mem hj)).mp pj⟩)
    refine wpAny_pure (wpAny_pure ?_)
    have := q s.heap false (Heap.SameBut.refl a s.heap) (by rw [if_pos hz]; exact ⟨es, ep, t, ho, hel, hp, hb, hf, hpl⟩)
    cases s
    exact this
  | none =>
    dsimp only
    have hz : ¬ z ∈ ks := fun hz => by
      obtain ⟨e, he, ez⟩ := List.mem_map.mp (hp.mem_iff.mpr hz)
      have h1 := List.findIdx?_eq_none_iff.mp fi e he
      rw [(iff e he).mpr ez] at h1
      cases h1
    have lp := layNew_perm t es ((strKind prog w).hash z) (.str z tk)
    have lf := layNew_fits t es ((strKind prog w).hash z) (.str z tk)
    generalize layNew t es ((strKind prog w).hash z) (.str z tk) = LL at lp lf ⊢
    obtain ⟨es1, t1, wd, gv⟩ := LL
    dsimp only at lp lf ⊢
    rw [Array.toList_push] at lp
    have hel1 : ElemsOf (strKind prog w) es1.toList := (hel.push hk rfl).perm lp
    have hp1 : (es1.toList.map fun e => strOf e.2).Perm (ks ++ [z]) := by
      refine (lp.map _).trans ?_
      rw [List.map_append]
      exact hp.append (.refl _)
    have sz1 : es1.size = ks.length + 1 := by
      rw [← Array.length_toList, ← List.length_map (f := fun e : Int × Value => strOf e.2), hp1.length_eq]
      simp
    have fin : ∀ (t2 : SetTable), t2.plain = false → t2.fits es1.size = true → wpAny (model prog w) A (do
        storeSet a es1 t2
        if (!wd && t2.tooFull) = true then do
            (match (relayAll t2 es1 (SetTable.grown es1.size)).2.2 with | true => rule "set.scan.the-table-gave-way" | false => pure ())
            storeSet a (relayAll t2 es1 (SetTable.grown es1.size)).1 (relayAll t2 es1 (SetTable.grown es1.size)).2.1
            pure (some true)
          else pure (some true)) (fun r s' => ∃ h', Heap.SameBut a s.heap h' ∧ SetS prog w h' a (ks ++ [z]) ∧ r = some true ∧ s' = { s with heap := h' }) E s := fun t2 p2 f2 => by
      refine wpAny_bind (wpAny_storeSet_of ho rfl ?_ (fits_of_scanBound (by omega)))
      have ho1 := stored (es' := es1) (t' := t2) ho
      have sb1 := Heap.SameBut.update s.heap a (Obj.putSet es1 t2)
      split
      · have rp := relayAll_perm t2 es1 (SetTable.grown es1.size)
        have rf := relayAll_fits t2 es1 (SetTable.grown es1.size)
        have rl := relay_plain t2 es1 (SetTable.grown es1.size) p2
        generalize relayAll t2 es1 (SetTable.grown es1.size) = RR at rp rf rl ⊢
        obtain ⟨es2, t3, gv2⟩ := RR
        dsimp only at rp rf rl ⊢
        have sz2 : es2.size = es1.size := by rw [← Array.length_toList, rp.length_eq, Array.length_toList]
        refine wpAny_bind ?_
        have nxt : wpAny (model prog w) A (do storeSet a es2 t3; pure (some true)) (fun r s' => ∃ h', Heap.SameBut a s.heap h' ∧ SetS prog w h' a (ks ++ [z]) ∧ r = some true ∧ s' = { s with heap := h' }) E { s with heap := s.heap.update a (Obj.putSet es1 t2) } := by
          refine wpAny_bind (wpAny_storeSet_of ho1 rfl (wpAny_pure ⟨_, sb1.trans (Heap.SameBut.update _ a _), ⟨es2, _, t3, stored ho1, hel1.perm rp, (rp.map _).trans hp1, by simpa using hr, rf, fun _ => rl⟩, rfl, rfl⟩) (fits_of_scanBound (by omega)))
        cases gv2
        · exact wpAny_pure nxt
        · exact wpAny_rule nxt
      · exact wpAny_pure ⟨_, sb1, ⟨es1, _, t2, ho1, hel1, hp1, by simpa using hr, f2, fun _ => p2⟩, rfl, rfl⟩
    have out : ∀ r s', (∃ h', Heap.SameBut a s.heap h' ∧ SetS prog w h' a (ks ++ [z]) ∧ r = some true ∧ s' = { s with heap := h' }) → wpAny (model prog w) A (match r with | some b => pure b | none => setAddHashedIn a (.str z tk) ((strKind prog w).hash z) 99999) Q E s' := by
      rintro r s' ⟨h', sb, hS', rfl, rfl⟩
      exact wpAny_pure (q h' true sb (by rw [if_neg hz]; exact hS'))
    refine wpAny_bind ?_
    have gw : ∀ (b : Bool) {Q' : Unit → Shared → Prop}, Q' () s → wpAny (model prog w) A (match b with | true => rule "set.scan.the-table-gave-way" | false => pure ()) Q' E s := fun b Q' h => by
      cases b
      · exact wpAny_pure h
      · exact wpAny_rule h
    refine gw gv ?_
    split
    · refine wpAny_bind ?_
      rw [hashByValue_scannable 8 (x := .str z tk) rfl]
      refine wpAny_pure ?_
      exact wpAny_mono (fin { t1 with plain := false } rfl (SetTable.fits_plain_off lf)) out fun _ _ e => e
    · rename_i np
      refine wpAny_bind (wpAny_pure ?_)
      exact wpAny_mono (fin t1 (by simpa using np) lf) out fun _ _ e => e
end
end L2

set_option linter.all false
set_option maxHeartbeats 4000000
set_option maxRecDepth 100000
namespace L2
open PySem PySem.Spec PyProof.Rows
def addS (l : List Str) (z : Str) : List Str := if z ∈ l then l else l ++ [z]
def met (val : Nat → Str) (i : Nat) : List Str := ((List.range i).map val).foldl addS []
theorem met_succ (val : Nat → Str) (i : Nat) : met val (i + 1) = addS (met val i) (val i) := by
  unfold met
  rw [List.range_succ, List.map_append, List.foldl_append]
  rfl
theorem met_len (val : Nat → Str) : ∀ i, (met val i).length ≤ i
  | 0 => Nat.le_refl _
  | i + 1 => by
    have := met_len val i
    rw [met_succ]
    unfold addS
    split <;> simp <;> omega
theorem met_nd (val : Nat → Str) : ∀ i, (met val i).Nodup
  | 0 => List.nodup_nil
  | i + 1 => by
    have := met_nd val i
    rw [met_succ]
    unfold addS
    split
    · exact this
    · rename_i h
      rw [List.nodup_append]
      refine ⟨this, by simp, fun a ha b hb => ?_⟩
      rw [List.mem_singleton.mp hb]
      exact fun e => h (e ▸ ha)
theorem met_mem (val : Nat → Str) (z : Str) : ∀ i, z ∈ met val i ↔ ∃ j, j < i ∧ val j = z
  | 0 => by simp [met]
  | i + 1 => by
    have ih := met_mem val z i
    rw [met_succ]
    have e : z ∈ addS (met val i) (val i) ↔ z ∈ met val i ∨ z = val i := by
      unfold addS
      split
      · rename_i h
        constructor
        · exact .inl
        · rintro (h' | rfl)
          · exact h'
          · exact h
      · simp
    rw [e, ih]
    constructor
    · rintro (⟨j, hj, h⟩ | rfl)
      · exact ⟨j, by omega, h⟩
      · exact ⟨i, by omega, rfl⟩
    · rintro ⟨j, hj, rfl⟩
      by_cases c : j < i
      · exact .inl ⟨j, c, rfl⟩
      · have : j = i := by omega
        subst this
        exact .inr rfl
section
variable {prog : Program} {w : World} {A : Around} {E : Value → Shared → Prop} {s : Shared}
theorem is_str {z : Str} {t : Tok} : (PySem.strKind prog w).is z (.str z t) = true := by
  show Value.isStrOf z (.str z t) = true
  simp [Value.isStrOf]
theorem SetS.at_ {h h' : Heap} {a : Addr} {ks : List Str} (x : SetS prog w h a ks) (k : ∀ o, h.get? a = some o → h'.get? a = some o) : SetS prog w h' a ks := by
  obtain ⟨es, ep, t, ho, r⟩ := x
  exact ⟨es, ep, t, k _ ho, r⟩
theorem set_loop {R : Result → Shared → Prop} {I : Addr} {fp wr : List Addr} {G : Array GenState → Array GenState → Prop} {n : Nat} {P : Nat → Value → Prop} {St : Nat → Shared → Prop}
    (W : WalksS prog w A.in1 I fp wr G n P St) (S : Addr) (hSf : S ∉ fp) (val : Nat → Str) (hval : ∀ i v, P i v → ∃ t, v = .str (val i) t) (hb : n + 1 < scanBound) :
    ∀ (k i : Nat) (s : Shared), n - i = k → i ≤ n → St i s → SetS prog w s.heap S (met val i) → (∀ s', Moved (S :: wr) G s s' → SetS prog w s'.heap S (met val n) → R (.ok (.ret .none)) s') →
      codeAny (model prog w) A (.builtin "set.update.loop" ⟨[.ref S, .ref I], []⟩) R s := by
  have nw : S ∉ wr := fun h => hSf (W.sub _ h)
  have up : ∀ b ∈ wr, b ∈ S :: wr := fun b h => List.mem_cons_of_mem _ h
  intro k
  induction k with
  | zero =>
    intro i s hk hi st hS q
    have : i = n := by omega
    subst this
    refine codeAny_builtin (PyProof.Rows.F.entry_set_update_loop) ?_
    rw [Around.under_plainId (PyProof.Rows.F.plain_set_update_loop) _]
    refine wpAny_bind (m := pyNext (.ref I)) (W.done s _ _ st fun s' hm => ?_)
    exact wpAny_pure (q s' (hm.mono up) (hS.at_ fun o e => hm.heap S o nw e))
  | succ k ih =>
    intro i s hk hi st hS q
    have hlt : i < n := by omega
    refine codeAny_builtin (PyProof.Rows.F.entry_set_update_loop) ?_
    rw [Around.under_plainId (PyProof.Rows.F.plain_set_update_loop) _]
    refine wpAny_bind (m := pyNext (.ref I)) (W.item i s _ _ hlt st fun v s' hP st' hm => ?_)
    obtain ⟨t, rfl⟩ := hval i v hP
    have hS' : SetS prog w s'.heap S (met val i) := hS.at_ fun o e => hm.heap S o nw e
    have ml := met_len val i
    refine wpAny_bind (m := holding [Value.str (val i) t] (setAdd S (.str (val i) t))) (wpAny_holding ?_)
    unfold setAdd
    refine wpAny_holding (wpAny_bind ((strKind prog w).pyHash (k := val i) is_str ?_))
    refine set_add (s := { s' with toks := s'.toks + 1 }) hS' (by omega) fun h' b sb hS2 => ?_
    have hS3 : SetS prog w h' S (met val (i + 1)) := by
      rw [met_succ]
      exact hS2
    refine wpAny_pure ⟨plainId_quiet (PyProof.Rows.F.plain_set_update_loop) _, ih (i + 1) _ (by omega) hlt (W.frame _ s' _ _ st' (Nat.le_succ _) fun b hb o e => ?_) hS3 fun s2 m2 hSn => ?_⟩
    · rw [sb.2 b (fun h : b = S => hSf (h ▸ hb))]
      exact e
    · refine q s2 (Moved.trans W.gtrans ((hm.mono up).then_heap (Nat.le_succ _) fun b o hb e => ?_) m2) hSn
      rw [sb.2 b (fun h : b = S => hb (by rw [h]; exact List.mem_cons_self))]
      exact e
end
end L2

set_option linter.all false
set_option maxHeartbeats 4000000
set_option maxRecDepth 100000
namespace L2
open PySem PySem.Spec PyProof.Rows
section
variable {prog : Program} {w : World} {A : Around} {E : Value → Shared → Prop} {s : Shared}
theorem strs_at : ∀ {vs : List Value} {ss : List Str}, StrsAre vs ss → ∀ (i : Nat) (v : Value), vs[i]? = some v → ∃ t, v = .str (ss.getD i ⟨#[]⟩) t
  | _, _, .nil, i, v, h => by simp at h
  | _, _, .cons n t r, 0, v, h => by
    simp at h
    exact ⟨t, by rw [← h]; rfl⟩
  | _, _, .cons n t r, i + 1, v, h => by
    rw [List.getElem?_cons_succ] at h
    obtain ⟨t', e⟩ := strs_at r i v h
    exact ⟨t', by rw [e]; rfl⟩
abbrev set0 (led : Bool) : Obj := { cls := .type "set", dict := none, data := .set #[] 0 (.fresh 0 0 led) }
theorem set_init {l : Addr} {items : Array Value} {ss : List Str} {led : Bool} {R : Result → Shared → Prop} (hh : A.handled = none) (hl : s.heap.IsList l items) (hi : StrsAre items.toList ss) (hb : items.size + 1 < scanBound)
    (q : ∀ h' tk, SetS prog w h' s.heap.objs.size (met (fun i => ss.getD i ⟨#[]⟩) items.size) → (∀ b o, s.heap.get? b = some o → h'.get? b = some o) → s.toks ≤ tk → R (.ok (.ret .none)) { s with heap := h', toks := tk }) :
    wpAny (model prog w) A.in1.in1 (Builtin.«set.__init__» ⟨[.ref s.heap.objs.size, .ref l], []⟩) (fun fin s' => match fin with | .done f => R (.ok f) s' | .again c' => c'.quiet = true ∧ codeAny (model prog w) A.in1 c' R s') (fun e s' => R (.error e) s') { s with heap := s.heap.push (set0 led) } := by
  have e0 : (s.heap.push (set0 led)).get? s.heap.objs.size = some (set0 led) := Heap.get?_push_size _ rfl
  have lt : l < s.heap.objs.size := by obtain ⟨o, ho, _⟩ := hl; exact Heap.lt_size ho
  have hl1 : (s.heap.push (set0 led)).IsList l items := hl.push _
  have s1 := F.sub_list_set
  have s2 := F.sub_list_frozenset
  obtain ⟨ol, hol, hcl, nl, hdl⟩ := id hl1
  obtain ⟨ocls, odict, odata, oslots⟩ := ol
  simp only at hcl hdl
  subst hcl
  subst hdl
  have ne1 : (Value.type "list" == Value.type "dict") = false := by decide
  unfold Builtin.«set.__init__»; unfold noKeywords; unfold Builtin.Frozenset.updateFrom
  generalize hPI : pyIter = PI
  wp_walk
  subst hPI
  refine wpAny_pyIter_list hl1 ?_
  refine wpAny_bind (wpAny_runValue ?_)
  have h3 : A.in1.in1.in1.handled = none := by simp [hh]
  have z1 : (s.heap.push (set0 led)).objs.size = s.heap.objs.size + 1 := Heap.size_push ..
  have nI : l ≠ (s.heap.push (set0 led)).objs.size := by
    rw [z1]
    exact Nat.ne_of_lt (Nat.lt_succ_of_lt lt)
  have nf : s.heap.objs.size ∉ [(s.heap.push (set0 led)).objs.size, l] := by
    rw [z1]
    simp only [List.mem_cons, List.not_mem_nil, or_false, not_or]
    exact ⟨Nat.ne_of_lt (Nat.lt_succ_self _), Nat.ne_of_gt lt⟩
  refine set_loop ((Walks.list h3 _ l nI items).toS) s.heap.objs.size nf (fun i => ss.getD i ⟨#[]⟩) (fun i v hv => strs_at hi i v (by rw [Array.getElem?_toList]; exact hv)) hb (items.size - 0) 0 _ (by omega) (Nat.zero_le _) ⟨⟨_, Heap.get?_push_size _ rfl, rfl, rfl⟩, hl1.push _⟩ ?_ ?_
  · have g : ((s.heap.push (set0 led)).push { cls := .type "list_iterator", data := .fields #[.ref l, .int 0 0] }).get? s.heap.objs.size = some (set0 led) := Heap.get?_push_of_some _ e0
    exact ⟨#[], 0, _, g, fun e he => by simp at he, by show List.Perm [] _; exact .refl _, (show (0 : Nat) < scanBound by decide), by rfl, fun z => absurd rfl z⟩
  · intro s' hm hS'
    obtain ⟨h', g', d', tk', os'⟩ := s'
    have eg : g' = s.gens := hm.gens
    have ed : d' = s.drawn := hm.drawn
    have eo : os' = s.os := hm.os
    subst eg
    subst ed
    subst eo
    refine wpAny_pure ?_
    refine wpAny_pure ?_
    refine q h' tk' hS' (fun b o e => ?_) hm.toks
    have lb := Heap.lt_size e
    exact hm.heap b o (by rw [z1]; simp only [List.mem_cons, List.not_mem_nil, or_false, not_or]; exact ⟨Nat.ne_of_lt lb, Nat.ne_of_lt (Nat.lt_succ_of_lt lb)⟩) (Heap.get?_push_of_some _ (Heap.get?_push_of_some _ e))
theorem call_set_texts {l : Addr} {items : Array Value} {ss : List Str} {Q : Value → Shared → Prop} (hh : A.handled = none) (hl : s.heap.IsList l items) (hi : StrsAre items.toList ss) (hb : items.size + 1 < scanBound)
    (q : ∀ h' tk, SetS prog w h' s.heap.objs.size (met (fun i => ss.getD i ⟨#[]⟩) items.size) → (∀ b o, s.heap.get? b = some o → h'.get? b = some o) → s.toks ≤ tk → Q (.ref s.heap.objs.size) { s with heap := h', toks := tk }) :
    wpAny (model prog w) A (call (.type "set") [.ref l]) Q E s := by
  obtain ⟨c0, tl0, m0⟩ := F.called_set.mro
  have m1 := F.called_set.made
  have m2 := F.called_set.sub
  have m3 := F.called_set.notType
  have m4 := F.called_set.canCreate
  have m5 := F.typeCall_set_1 (.ref l)
  refine (wpAny_call (codeAny_of_tree ?_))
  show wpAny (model prog w) _ (callAny (.type "set") _) _ _ _
  refine wpAny_pure ⟨Code.quiet_builtin _ (by decide +kernel), codeAny_builtin (F.entry_type_call) ?_⟩
  rw [Around.under_plain (weight_type_call_type "set" ([.ref l]) []) rfl]
  repeat (any_goals (first | assumption | wp_step))
  refine codeAny_mono (code_set_new_1 (.ref l) (E := E) (Q₁ := fun obj s1 => ∃ led : Bool, obj = .ref s.heap.objs.size ∧ s1 = { s with heap := s.heap.push (set0 led) }) fun led => ⟨led, rfl, rfl⟩) fun r s1 hr => ?_
  cases r with
  | error e => exact hr
  | ok fl =>
    cases fl with
    | ret obj =>
      obtain ⟨led, rfl, rfl⟩ := hr
      have e0 : (s.heap.push (set0 led)).get? s.heap.objs.size = some (set0 led) := Heap.get?_push_size _ rfl
      have ty : Shared.TypeIs { s with heap := s.heap.push (set0 led) } (.ref s.heap.objs.size) "set" := ⟨_, e0, rfl⟩
      have m6 := F.called_set.init.lookup
      have m7 := F.called_set.init.bind (.ref s.heap.objs.size)
      repeat (any_goals (first | assumption | wp_step))
      refine codeAny_mono (codeAny_call_builtin (R := wants (fun r s2 => r = .none ∧ Q (.ref s.heap.objs.size) s2) E) F.called_set.init.plain F.entry_set_init (check_set_init_1 ty ?_)) fun r2 s2 hr2 => ?_
      · exact set_init hh hl hi hb fun h' tk a b c => ⟨rfl, q h' tk a b c⟩
      · cases r2 with
        | error e => exact hr2
        | ok f2 =>
          cases f2 with
          | ret r =>
            obtain ⟨rfl, hq⟩ := hr2
            repeat (any_goals (first | assumption | wp_step))
          | _ => exact hr2.elim
    | _ => exact hr.elim
end
end L2

set_option linter.all false
set_option maxHeartbeats 4000000
set_option maxRecDepth 100000
namespace L2
open PySem PySem.Spec PyProof.Rows
theorem slot_sn : Slot "set_iterator" "__next__" "set_iterator.__next__" := .of (owner := "set_iterator") (n := "__next__") (by rw [typeLookup_type, builtinLookup_eq_fast]; kernel_rfl) (by decide +kernel) (by decide +kernel) (by decide +kernel) (by first | exact .inl (by decide +kernel) | exact .inr (by decide +kernel)) (by rw [isSubtype_type]; kernel_rfl)
theorem entry_sn : entryFor table "set_iterator.__next__" = some Builtin.«set_iterator.__next__» := entryFor_of_tree (by kernel_rfl)
theorem args_sn (a : Value) : argsOk "set_iterator.__next__" ⟨[a], []⟩ := by unfold argsOk; kernel_rfl
theorem slot_si : Slot "set_iterator" "__iter__" "set_iterator.__iter__" := .of (owner := "set_iterator") (n := "__iter__") (by rw [typeLookup_type, builtinLookup_eq_fast]; kernel_rfl) (by decide +kernel) (by decide +kernel) (by decide +kernel) (by first | exact .inl (by decide +kernel) | exact .inr (by decide +kernel)) (by rw [isSubtype_type]; kernel_rfl)
theorem args_si (a : Value) : argsOk "set_iterator.__iter__" ⟨[a], []⟩ := by unfold argsOk; kernel_rfl
theorem entry_ssi : entryFor table "set.__iter__" = some Builtin.«frozenset.__iter__» := entryFor_alias (id' := "frozenset.__iter__") (by kernel_rfl) rfl (by decide +kernel) (by kernel_rfl)
end L2

set_option linter.all false
set_option maxHeartbeats 4000000
set_option maxRecDepth 100000
namespace L2
open PySem PySem.Spec PyProof.Rows
theorem cons_erase {α : Type} : ∀ {l : List α} {i : Nat} (h : i < l.length), (l[i] :: l.eraseIdx i).Perm l
  | x :: l, 0, h => .refl _
  | x :: l, i + 1, h => (List.Perm.swap _ _ _).trans ((cons_erase (l := l) (i := i) (by simpa using h)).cons x)
section
variable {M : Model} {A : Around} {E : Value → Shared → Prop} {s : Shared}
theorem wp_choose {src : Source} {n : Nat} {Q : Nat → Shared → Prop} (hn : n ≠ 0) (h : ∀ i, i < n → Q i { s with drawn := s.drawn.bump src }) : wpAny M A (choose src n) Q E s :=
  fun Γ p _ => ⟨hn, h _ (Nat.mod_lt _ (Nat.pos_of_ne_zero hn))⟩
theorem draw_order {α : Type} : ∀ (n : Nat) (xs : List α) (s : Shared) (Q : List α → Shared → Prop), xs.length = n → (∀ ys d, ys.Perm xs → Q ys { s with drawn := d }) → wpAny M A (drawOrder n xs) Q E s
  | 0, xs, s, Q, hl, q => by
    have : xs = [] := List.eq_nil_of_length_eq_zero hl
    subst this
    exact wpAny_pure (q [] s.drawn (.refl _))
  | n + 1, [], s, Q, hl, q => by simp at hl
  | n + 1, x :: xs, s, Q, hl, q => by
    unfold drawOrder
    refine wpAny_bind (wp_choose (by simp) fun i hi => ?_)
    rw [List.getElem?_eq_getElem hi]
    refine wpAny_bind (draw_order n _ _ _ (by rw [List.length_eraseIdx_of_lt hi]; omega) fun ys d hp => ?_)
    exact wpAny_pure (q _ d ((hp.cons _).trans (cons_erase hi)))
end
theorem pick_go {α : Type} (next : Nat → Nat) : ∀ (n k : Nat) (l : List α) (out : Array α), l.length = n → (pickOrder.go next n k l out).toList.Perm (out.toList ++ l)
  | 0, k, l, out, hl => by
    have : l = [] := List.eq_nil_of_length_eq_zero hl
    subst this
    unfold pickOrder.go
    simp
  | n + 1, k, l, out, hl => by
    unfold pickOrder.go
    have hi : next k % l.length < l.length := Nat.mod_lt _ (by omega)
    rw [List.getElem?_eq_getElem hi]
    dsimp only
    refine (pick_go next n (k + 1) _ _ (by rw [List.length_eraseIdx_of_lt hi]; omega)).trans ?_
    rw [Array.toList_push, List.append_assoc]
    exact (List.Perm.refl _).append (cons_erase hi)
theorem pick_perm {α : Type} (next : Nat → Nat) (xs : Array α) : (pickOrder next xs).toList.Perm xs.toList := by
  have := pick_go next xs.size 0 xs.toList #[] (by simp)
  simpa [pickOrder] using this
section
variable {prog : Program} {w : World} {A : Around} {E : Value → Shared → Prop} {s : Shared}
def setO (es : Array (Int × Value)) (ep : Nat) (t : SetTable) : Obj := { cls := .type "set", dict := none, data := .set es ep t, slots := #[] }
def itO (f : Value) (i : Nat) (a : Addr) (n ep : Nat) : Obj := { cls := .type "set_iterator", data := .fields #[f, .int i 0, .ref a, .int n 0, .int ep 0] }
theorem by_text {Q : Bool → Shared → Prop} (h : Q (w.params.followText "set-order") s) : wpAny (model prog w) A setsByText Q E s := by
  unfold setsByText
  exact wpAny_bind (wpAny_askSetting (wpAny_pure h))
theorem walk_text {a : Addr} {es : Array (Int × Value)} {ep : Nat} {t : SetTable} {Q : Array (Int × Value) → Shared → Prop} (ha : s.heap.get? a = some (setO es ep t)) (hf : t.fits es.size = true) (ht : w.params.followText "set-order" = true)
    (q : Q (pickOrder (w.params.setOrder a ep) es) s) : wpAny (model prog w) A (setWalk a) Q E s := by
  unfold setWalk
  refine wpAny_bind (wpAny_setState_of ha rfl hf ?_)
  dsimp only
  refine wpAny_bind (by_text ?_)
  rw [if_pos ht]
  exact wpAny_bind (wpAny_askSetting (wpAny_pure q))
theorem it_put {h : Heap} {I a : Addr} {f f' : Value} {i j n ep : Nat} {g : Array Value → Array Value} (hI : h.get? I = some (itO f i a n ep)) (hg : g #[f, .int i 0, .ref a, .int n 0, .int ep 0] = #[f', .int j 0, .ref a, .int n 0, .int ep 0]) :
    (h.update I (Obj.mapFields g)).get? I = some (itO f' j a n ep) := by
  have e := Heap.get?_update_self (Obj.mapFields g) hI (Obj.isFreed_of_fields (Obj.data_mapFields (o := itO f i a n ep) rfl _))
  rw [e]
  unfold itO
  simp only [Obj.mapFields, hg]
theorem stop_it {P : PySem.Fin → Shared → Prop} {Q : Option Value → Shared → Prop} (hh : A.handled = none) (q : ∀ h', (∀ b o, s.heap.get? b = some o → h'.get? b = some o) → Q none { s with heap := h' }) :
    wpAny (model prog w) A.in1 (do let x ← newExc (.type "StopIteration") []; raiseNew x) P (fun e s' => wpAny (model prog w) A (do let b ← isInstance e (.type "StopIteration"); if b = true then pure none else throw e) Q E s') s := by
  refine wpAny_bind ?_
  simp only [newExc]; simp only [newTuple]
  refine wpAny_bind (wpAny_newObj_type ?_ (by size_fits))
  refine wpAny_bind (m := firstArgMember _ _) (wpAny_of_eq (a := Value.none) (by simp only [firstArgMember]; rfl) ?_)
  refine wpAny_newObj_type ?_ (by size_fits)
  simp only [raiseNew]
  refine wpAny_bind (wpAny_handled ?_)
  rw [show A.in1.handled = none from hh]
  refine wpAny_bind (wpAny_pure (wpAny_throw ?_))
  refine wpAny_bind (wpAny_isInstance (T := "StopIteration") (b := true) ⟨_, Heap.get?_push_size _ rfl, rfl⟩ isSubtype_stop ?_)
  exact wpAny_pure (q _ fun b o e => Heap.get?_push_of_some _ (Heap.get?_push_of_some _ e))
section
variable {I a : Addr} {es : Array (Int × Value)} {i ep : Nat} {t : SetTable} {Q : Option Value → Shared → Prop}
theorem next_text {v : Value} (hI : s.heap.get? I = some (itO (.int 0 0) i a es.size ep)) (ha : s.heap.get? a = some (setO es ep t)) (hf : t.fits es.size = true)
    (ht : w.params.followText "set-order" = true) (hv : ((pickOrder (w.params.setOrder a ep) es).toList.map (·.2))[i]? = some v)
    (q : ∀ h', h'.get? I = some (itO (.int 0 0) (i + 1) a es.size ep) → Heap.SameBut I s.heap h' → Q (some v) { s with heap := h' }) : wpAny (model prog w) A (pyNext (.ref I)) Q E s := by
  have ty : s.TypeIs (.ref I) "set_iterator" := ⟨_, hI, rfl⟩
  unfold pyNext
  refine wpAny_bind (wpAny_attempt (wpAny_callSpecial?_slot (name := Str.ofString "__next__") ty slot_sn (wpAny_call_entry slot_sn ty entry_sn ?_ (args_sn _))))
  unfold Builtin.«set_iterator.__next__»
  refine wpAny_bind (m := slotArgs _ _ _) (wpAny_pure ?_)
  refine wpAny_bind (wpAny_fieldsOf hI rfl ?_)
  show wpAny _ _ (setEntries a >>= _) _ _ _
  refine wpAny_bind (wpAny_setEntries_of ha rfl hf ?_)
  rw [if_neg (by simp)]
  dsimp only
  unfold setNext
  refine wpAny_bind (wpAny_bind (wpAny_setState_of ha rfl hf ?_))
  dsimp only
  refine wpAny_bind (by_text ?_)
  rw [if_pos ht, if_neg (by simp)]
  refine wpAny_bind (walk_text ha hf ht (wpAny_pure ?_))
  rw [List.getElem?_map, Array.getElem?_toList] at hv
  obtain ⟨x, hx, rfl⟩ := Option.map_eq_some_iff.mp hv
  rw [Int.toNat_natCast, hx]
  dsimp only [Option.map]
  refine wpAny_bind (wpAny_setField hI rfl (by simp) ?_)
  have h1 := it_put (f' := .int 0 0) (j := i) (g := fun vs => vs.setIfInBounds 0 (rawInt ((Int.toNat 0 : Nat) : Int))) hI rfl
  refine wpAny_bind (wpAny_setField h1 rfl (by simp) ?_)
  have h2 := it_put (f' := .int 0 0) (j := i + 1) (g := fun vs => vs.setIfInBounds 1 (rawInt ((i : Int) + 1))) h1 rfl
  exact wpAny_pure ⟨_, rfl, wpAny_pure (q _ h2 ((Heap.SameBut.update ..).trans (Heap.SameBut.update ..)))⟩
theorem end_text (hh : A.handled = none) (hI : s.heap.get? I = some (itO (.int 0 0) i a es.size ep)) (ha : s.heap.get? a = some (setO es ep t)) (hf : t.fits es.size = true)
    (ht : w.params.followText "set-order" = true) (hv : (pickOrder (w.params.setOrder a ep) es)[i]? = none)
    (q : ∀ h', (∀ b o, b ≠ I → s.heap.get? b = some o → h'.get? b = some o) → Q none { s with heap := h' }) : wpAny (model prog w) A (pyNext (.ref I)) Q E s := by
  have ty : s.TypeIs (.ref I) "set_iterator" := ⟨_, hI, rfl⟩
  unfold pyNext
  refine wpAny_bind (wpAny_attempt (wpAny_callSpecial?_slot (name := Str.ofString "__next__") ty slot_sn (wpAny_call_entry slot_sn ty entry_sn ?_ (args_sn _))))
  unfold Builtin.«set_iterator.__next__»
  refine wpAny_bind (m := slotArgs _ _ _) (wpAny_pure ?_)
  refine wpAny_bind (wpAny_fieldsOf hI rfl ?_)
  show wpAny _ _ (setEntries a >>= _) _ _ _
  refine wpAny_bind (wpAny_setEntries_of ha rfl hf ?_)
  rw [if_neg (by simp)]
  dsimp only
  unfold setNext
  refine wpAny_bind (wpAny_bind (wpAny_setState_of ha rfl hf ?_))
  dsimp only
  refine wpAny_bind (by_text ?_)
  rw [if_pos ht, if_neg (by simp)]
  refine wpAny_bind (walk_text ha hf ht (wpAny_pure ?_))
  rw [Int.toNat_natCast, hv]
  dsimp only [Option.map]
  refine wpAny_bind (wpAny_setField hI rfl (by simp) ?_)
  refine stop_it hh fun h' k => q h' fun b o hb e => k b o ?_
  exact ((Heap.SameBut.update ..).extBut b o hb e)
theorem next_drawn {v : Value} {tp : Addr} {ps : List Nat} {j : Nat} {hs : Int} (hI : s.heap.get? I = some (itO (.ref tp) i a es.size ep)) (ha : s.heap.get? a = some (setO es ep t)) (hf : t.fits es.size = true)
    (hp : s.heap.get? tp = some (seqObj "tuple" (ps.map fun (n : Nat) => rawInt n).toArray 0)) (hj : ps[i]? = some j) (hv : es[j]? = some (hs, v))
    (q : ∀ h', h'.get? I = some (itO (.ref tp) (i + 1) a es.size ep) → Heap.SameBut I s.heap h' → Q (some v) { s with heap := h' }) : wpAny (model prog w) A (pyNext (.ref I)) Q E s := by
  have ty : s.TypeIs (.ref I) "set_iterator" := ⟨_, hI, rfl⟩
  unfold pyNext
  refine wpAny_bind (wpAny_attempt (wpAny_callSpecial?_slot (name := Str.ofString "__next__") ty slot_sn (wpAny_call_entry slot_sn ty entry_sn ?_ (args_sn _))))
  unfold Builtin.«set_iterator.__next__»
  refine wpAny_bind (m := slotArgs _ _ _) (wpAny_pure ?_)
  refine wpAny_bind (wpAny_fieldsOf hI rfl ?_)
  show wpAny _ _ (setEntries a >>= _) _ _ _
  refine wpAny_bind (wpAny_setEntries_of ha rfl hf ?_)
  rw [if_neg (by simp)]
  dsimp only
  unfold seqItems?
  refine wpAny_bind (wpAny_bind (wpAny_load hp (wpAny_pure ?_)))
  dsimp only
  have e : ((ps.map fun (n : Nat) => rawInt n).toArray)[((i : Int)).toNat]? = some (rawInt j) := by
    rw [Int.toNat_natCast, List.getElem?_toArray, List.getElem?_map, hj]
    rfl
  rw [e]
  show wpAny _ _ (setNextDrawn a _ _ >>= _) _ _ _
  unfold setNextDrawn
  refine wpAny_bind (wpAny_bind (wpAny_setState_of ha rfl hf ?_))
  dsimp only
  rw [if_neg (by simp), Int.toNat_natCast, hv]
  refine wpAny_pure ?_
  refine wpAny_bind (wpAny_setField hI rfl (by simp) ?_)
  have h2 := it_put (f' := .ref tp) (j := i + 1) (g := fun vs => vs.setIfInBounds 1 (rawInt ((i : Int) + 1))) hI rfl
  exact wpAny_pure ⟨_, rfl, wpAny_pure (q _ h2 (Heap.SameBut.update ..))⟩
theorem end_drawn {tp : Addr} {ps : List Nat} (hh : A.handled = none) (hI : s.heap.get? I = some (itO (.ref tp) i a es.size ep)) (ha : s.heap.get? a = some (setO es ep t)) (hf : t.fits es.size = true)
    (hp : s.heap.get? tp = some (seqObj "tuple" (ps.map fun (n : Nat) => rawInt n).toArray 0)) (hj : ps[i]? = none)
    (q : ∀ h', (∀ b o, b ≠ I → s.heap.get? b = some o → h'.get? b = some o) → Q none { s with heap := h' }) : wpAny (model prog w) A (pyNext (.ref I)) Q E s := by
  have ty : s.TypeIs (.ref I) "set_iterator" := ⟨_, hI, rfl⟩
  unfold pyNext
  refine wpAny_bind (wpAny_attempt (wpAny_callSpecial?_slot (name := Str.ofString "__next__") ty slot_sn (wpAny_call_entry slot_sn ty entry_sn ?_ (args_sn _))))
  unfold Builtin.«set_iterator.__next__»
  refine wpAny_bind (m := slotArgs _ _ _) (wpAny_pure ?_)
  refine wpAny_bind (wpAny_fieldsOf hI rfl ?_)
  show wpAny _ _ (setEntries a >>= _) _ _ _
  refine wpAny_bind (wpAny_setEntries_of ha rfl hf ?_)
  rw [if_neg (by simp)]
  dsimp only
  unfold seqItems?
  refine wpAny_bind (wpAny_bind (wpAny_load hp (wpAny_pure ?_)))
  dsimp only
  have e : ((ps.map fun (n : Nat) => rawInt n).toArray)[((i : Int)).toNat]? = none := by
    rw [Int.toNat_natCast, List.getElem?_toArray, List.getElem?_map, hj]
    rfl
  rw [e]
  dsimp only
  refine wpAny_bind (wpAny_setField hI rfl (by simp) ?_)
  have h1 := it_put (f' := rawInt 0) (j := i) (g := fun vs => vs.setIfInBounds 0 (rawInt 0)) hI rfl
  refine wpAny_bind (wpAny_setField h1 rfl (by simp) ?_)
  refine stop_it hh fun h' k => q h' fun b o hb e => k b o ?_
  exact ((Heap.SameBut.update ..).extBut b o hb ((Heap.SameBut.update ..).extBut b o hb e))
end
end
end L2

set_option linter.all false
set_option maxHeartbeats 4000000
set_option maxRecDepth 100000
namespace L2
open PySem PySem.Spec PyProof.Rows
theorem entry_sit : entryFor table "set_iterator.__iter__" = some Builtin.«dict_keyiterator.__iter__» := entryFor_alias (id' := "dict_keyiterator.__iter__") (by kernel_rfl) rfl (by decide +kernel) (by kernel_rfl)
section
variable {prog : Program} {w : World} {A : Around} {E : Value → Shared → Prop} {s : Shared}
theorem iter_it {I a : Addr} {f : Value} {i n ep : Nat} {Q : Value → Shared → Prop} (hI : s.heap.get? I = some (itO f i a n ep)) (q : Q (.ref I) s) : wpAny (model prog w) A (pyIter (.ref I)) Q E s := by
  have ty : s.TypeIs (.ref I) "set_iterator" := ⟨_, hI, rfl⟩
  refine wpAny_pyIter_slot ty slot_si (wpAny_call_entry slot_si ty entry_sit ?_ (args_si _))
  exact wpAny_pure ⟨_, rfl, "set_iterator", _, ty, slot_sn.lookup, q⟩
theorem walk_setT (hh : A.handled = none) (I a : Addr) (hne : a ≠ I) {es : Array (Int × Value)} {ep : Nat} {t : SetTable} (hf : t.fits es.size = true) (ht : w.params.followText "set-order" = true) :
    Walks prog w A I [I, a] [I] es.size (fun i v => ((pickOrder (w.params.setOrder a ep) es).toList.map (·.2))[i]? = some v) (fun i h => h.get? I = some (itO (.int 0 0) i a es.size ep) ∧ h.get? a = some (setO es ep t)) where
  sub := fun b hb => by simp at hb; simp [hb]
  frame := fun _ _ _ st k => ⟨k I (by simp) _ st.1, k a (by simp) _ st.2⟩
  item := fun i s Q E hi st q => by
    have hl : ((pickOrder (w.params.setOrder a ep) es).toList.map (·.2)).length = es.size := by rw [List.length_map, (pick_perm _ es).length_eq, Array.length_toList]
    have hv := List.getElem?_eq_getElem (l := (pickOrder (w.params.setOrder a ep) es).toList.map (·.2)) (by rw [hl]; exact hi)
    exact next_text st.1 st.2 hf ht hv fun h' e sb => q _ h' s.toks hv ⟨e, sb.extBut a _ hne st.2⟩ fun b o hb z => sb.extBut b o (fun h => hb (by simp [h])) z
  done := fun s Q E st q => end_text hh st.1 st.2 hf ht (by
    rw [← Array.getElem?_toList]
    exact List.getElem?_eq_none (by rw [(pick_perm _ es).length_eq, Array.length_toList]; exact Nat.le_refl _)) fun h' k => q h' s.toks fun b o hb z => k b o (fun h => hb (by simp [h])) z
  self := fun _ _ _ _ st q => iter_it st.1 q
theorem walk_setD (hh : A.handled = none) (I a tp : Addr) (hne : a ≠ I) (hnt : tp ≠ I) {es : Array (Int × Value)} {ep : Nat} {t : SetTable} {ps : List Nat} (hf : t.fits es.size = true) (hp : ps.Perm (List.range es.size)) :
    Walks prog w A I [I, a, tp] [I] es.size (fun i v => (ps.map fun j => (es.getD j (0, .none)).2)[i]? = some v) (fun i h => h.get? I = some (itO (.ref tp) i a es.size ep) ∧ h.get? a = some (setO es ep t) ∧ h.get? tp = some (seqObj "tuple" (ps.map fun (n : Nat) => rawInt n).toArray 0)) where
  sub := fun b hb => by simp at hb; simp [hb]
  frame := fun _ _ _ st k => ⟨k I (by simp) _ st.1, k a (by simp) _ st.2.1, k tp (by simp) _ st.2.2⟩
  item := fun i s Q E hi st q => by
    have hl : ps.length = es.size := by rw [hp.length_eq, List.length_range]
    have li : i < ps.length := by rw [hl]; exact hi
    have hj := List.getElem?_eq_getElem li
    have lj : ps[i] < es.size := List.mem_range.mp (hp.mem_iff.mp (List.getElem_mem li))
    have hv : es[ps[i]]? = some (es[ps[i]].1, es[ps[i]].2) := Array.getElem?_eq_getElem lj
    have hP : (ps.map fun j => (es.getD j (0, .none)).2)[i]? = some es[ps[i]].2 := by
      rw [List.getElem?_map, hj, Option.map_some, Array.getD_eq_getD_getElem?, Array.getElem?_eq_getElem lj]
      rfl
    exact next_drawn st.1 st.2.1 hf st.2.2 hj hv fun h' e sb => q _ h' s.toks hP ⟨e, sb.extBut a _ hne st.2.1, sb.extBut tp _ hnt st.2.2⟩ fun b o hb z => sb.extBut b o (fun h => hb (by simp [h])) z
  done := fun s Q E st q => end_drawn hh st.1 st.2.1 hf st.2.2 (List.getElem?_eq_none (by rw [hp.length_eq, List.length_range]; exact Nat.le_refl _)) fun h' k => q h' s.toks fun b o hb z => k b o (fun h => hb (by simp [h])) z
  self := fun _ _ _ _ st q => iter_it st.1 q
theorem hint_set {r : Addr} {Q : Bool → Shared → Prop} (ty : s.TypeIs (.ref r) "set") (h : Q false s) : wpAny (model prog w) A (Builtin.List.listLengthHint (.ref r)) Q E s := by
  unfold Builtin.List.listLengthHint
  refine wpAny_bind (wpAny_specialOf ty PySem.F.slot_set_len.lookup ?_)
  generalize eid : ("set.__len__" : String) = id0
  wp_delta
  rw [show splitId id0 = some ("set", "__len__") from by subst eid; decide +kernel]
  subst eid
  refine wpAny_bind (wpAny_isInstance (T := "set") (b := true) ty (by rw [isSubtype_type]; kernel_rfl) ?_)
  refine wpAny_ite_split (fun z => absurd z (by decide)) (fun _ => ?_)
  refine wpAny_ite_split (fun _ => ?_) (fun z => absurd (by decide +kernel) z)
  exact wpAny_bind (wpAny_typeOf ty (wpAny_pure h))
theorem iter_set {a : Addr} {es : Array (Int × Value)} {ep : Nat} {t : SetTable} {Q : Value → Shared → Prop} (ha : s.heap.get? a = some (setO es ep t)) (hf : t.fits es.size = true) (hp : t.plain = false) (h2 : 2 ≤ es.size) (hz : es.size ≤ sizeLine)
    (q1 : w.params.followText "set-order" = true → Q (.ref s.heap.objs.size) { s with heap := s.heap.push (itO (.int 0 0) 0 a es.size ep) })
    (q2 : ∀ (ps : List Nat) d, ps.Perm (List.range es.size) → Q (.ref (s.heap.objs.size + 1)) { s with heap := (s.heap.push (seqObj "tuple" (ps.map fun (n : Nat) => rawInt n).toArray 0)).push (itO (.ref s.heap.objs.size) 0 a es.size ep), drawn := d }) :
    wpAny (model prog w) A (pyIter (.ref a)) Q E s := by
  have ty : s.TypeIs (.ref a) "set" := ⟨_, ha, rfl⟩
  refine wpAny_pyIter_slot ty PySem.F.slot_set_iter (wpAny_call_entry PySem.F.slot_set_iter ty entry_ssi ?_ (PySem.F.args_set_iter_1 _))
  unfold Builtin.«frozenset.__iter__»
  refine wpAny_bind (m := Builtin.Frozenset.slot0 _ _) (wpAny_pure ?_)
  unfold Builtin.Frozenset.sizeOf
  refine wpAny_bind (wpAny_bind (wpAny_setEntries_of ha rfl hf (wpAny_pure ?_)))
  unfold setDrawn
  refine wpAny_bind (wpAny_bind (wpAny_setState_of ha rfl hf ?_))
  dsimp only
  refine wpAny_bind (by_text ?_)
  refine wpAny_pure ?_
  cases ht : w.params.followText "set-order" with
  | true =>
    rw [if_neg (by simp)]
    refine wpAny_bind (wpAny_pure (wpAny_bind (wpAny_setEpoch_of ha rfl hf ?_)))
    unfold newFields
    refine wpAny_bind (wpAny_newObj_type (wpAny_pure ⟨_, rfl, "set_iterator", _, ⟨_, Heap.get?_push_size _ rfl, rfl⟩, slot_sn.lookup, ?_⟩))
    exact q1 ht
  | false =>
    have g2 : decide (es.size > 1) = true := decide_eq_true (show 1 < es.size from h2)
    show wpAny _ _ (if (!false && (!t.plain && decide (es.size > 1))) = true then _ else _) _ _ _
    rw [if_pos (by rw [hp, g2]; rfl)]
    refine wpAny_bind (draw_order _ _ _ _ (by simp) fun ps d pp => ?_)
    refine wpAny_bind (wpAny_newTuple ?_ (by rw [List.length_map, pp.length_eq, List.length_range]; exact hz))
    have z1 : (s.heap.push (seqObj "tuple" (ps.map fun (n : Nat) => rawInt n).toArray 0)).objs.size = s.heap.objs.size + 1 := Heap.size_push ..
    refine wpAny_bind (wpAny_setEpoch_of (Heap.get?_push_of_some _ ha) rfl hf ?_)
    unfold newFields
    refine wpAny_bind (wpAny_newObj_type (wpAny_pure ⟨_, rfl, "set_iterator", _, ⟨_, Heap.get?_push_size _ rfl, rfl⟩, slot_sn.lookup, ?_⟩))
    have := q2 ps d pp
    rw [← z1] at this
    exact this
theorem ext_set {a S : Addr} {es : Array (Int × Value)} {ep c0 : Nat} {t : SetTable} {res : Value} {R : Result → Shared → Prop} (hh : A.handled = none) (ha : s.heap.get? a = some (setO es ep t)) (hf : t.fits es.size = true) (hp : t.plain = false) (h2 : 2 ≤ es.size) (hz : es.size ≤ sizeLine)
    (hSa : S ≠ a) (hS : s.heap.get? S = some { cls := .type "list", data := .seq #[] c0 })
    (q : ∀ s' acc c', (∀ b o, b ≠ S → s.heap.get? b = some o → s'.heap.get? b = some o) → s'.gens = s.gens → s'.os = s.os → s.toks ≤ s'.toks → s'.heap.get? S = some { cls := .type "list", dict := none, data := .seq acc c', slots := #[] } → acc.toList.Perm (es.toList.map (·.2)) → R (.ok (.ret res)) s') :
    wpAny (model prog w) A.in1 (Builtin.List.listExtendWith (.ref S) (.ref a) res) (fun fin s' => match fin with | .done f => R (.ok f) s' | .again c' => c'.quiet = true ∧ codeAny (model prog w) A c' R s') (fun e s' => R (.error e) s') s := by
  have key : ∀ (I : Addr) (fp : List Addr) (vs : List Value) (St : Nat → Heap → Prop) (s1 : Shared), Walks prog w A.in1 I fp [I] es.size (fun i v => vs[i]? = some v) St → vs.Perm (es.toList.map (·.2)) → S ∉ fp → s.heap.get? I = none → St 0 s1.heap →
      (∀ b o, s.heap.get? b = some o → s1.heap.get? b = some o) → s1.gens = s.gens → s1.os = s.os → s.toks ≤ s1.toks → ∀ c1, ∀ h, (∀ b o, b ≠ S → s1.heap.get? b = some o → h.get? b = some o) → h.get? S = some { cls := .type "list", data := .seq #[] c1 } →
      codeAny (model prog w) A (.builtin "list.extend.loop" ⟨[.ref S, .ref I, res], []⟩) R { s1 with heap := h } := by
    intro I fp vs St s1 W hv nf nI st k1 eg eo et c1 h kh hS1
    have st' := W.frame 0 s1.heap h st fun b hb o e => kh b o (fun z => nf (z ▸ hb)) e
    refine codeAny_extend_loopS W.toS hz S nf res es.size 0 _ #[] c1 rfl (Nat.zero_le _) st' hS1 (ItemsOf.nil _) fun s' acc' c' hm hS' hacc => ?_
    have g1 : s'.gens = s1.gens := hm.gens
    have al : acc'.toList = vs := by
      have l1 : vs.length = es.size := by rw [hv.length_eq, List.length_map, Array.length_toList]
      have l2 : acc'.size = es.size := hacc.1
      refine List.ext_getElem? fun j => ?_
      by_cases c : j < es.size
      · have e1 : acc'[j]? = some acc'[j] := Array.getElem?_eq_getElem (by rw [l2]; exact c)
        rw [Array.getElem?_toList, e1, hacc.2 j _ e1]
      · rw [List.getElem?_eq_none (by rw [Array.length_toList]; omega), List.getElem?_eq_none (by omega)]
    refine q s' acc' c' (fun b o hb e => ?_) (g1.trans eg) (hm.os.trans eo) (Nat.le_trans et hm.toks) hS' (by rw [al]; exact hv)
    refine hm.heap b o (fun hmem => ?_) (kh b o hb (k1 b o e))
    rcases List.mem_cons.mp hmem with z | z
    · exact hb z
    · rw [List.mem_singleton.mp z, nI] at e
      cases e
  have go : ∀ (I : Addr) (fp : List Addr) (vs : List Value) (St : Nat → Heap → Prop) (s1 : Shared), Walks prog w A.in1 I fp [I] es.size (fun i v => vs[i]? = some v) St → vs.Perm (es.toList.map (·.2)) → S ∉ fp → s.heap.get? I = none → St 0 s1.heap →
      (∀ b o, s.heap.get? b = some o → s1.heap.get? b = some o) → s1.gens = s.gens → s1.os = s.os → s.toks ≤ s1.toks → ∀ (b : Bool), wpAny (model prog w) A.in1 (if b = true then (do rule "list.extend.makes-room"; Builtin.List.listTouch (.ref S); again (.builtin "list.extend.loop" ⟨[.ref S, .ref I, res], []⟩)) else again (.builtin "list.extend.loop" ⟨[.ref S, .ref I, res], []⟩)) (fun fin s' => match fin with | .done f => R (.ok f) s' | .again c' => c'.quiet = true ∧ codeAny (model prog w) A c' R s') (fun e s' => R (.error e) s') s1 := by
    intro I fp vs St s1 W hv nf nI st k1 eg eo et b
    have S1 := k1 _ _ hS
    cases b
    · exact wpAny_pure ⟨plainId_quiet PySem.F.plain_extend_loop _, key I fp vs St s1 W hv nf nI st k1 eg eo et c0 s1.heap (fun _ _ _ e => e) S1⟩
    · rw [if_pos rfl]
      refine wpAny_bind (wpAny_rule ?_)
      refine wpAny_bind ?_
      show wpAny _ _ (updateSeq S (·.push .none) >>= fun _ => updateSeq S (fun x => x.pop)) _ _ _
      refine wpAny_bind (wpAny_updateSeq S1 rfl ?_)
      have S2 := Heap.get?_update_self (Obj.mapSeq (·.push Value.none)) S1 rfl
      refine wpAny_updateSeq (hz := by seq_fits) S2 rfl ?_
      have S3 := Heap.get?_update_self (Obj.mapSeq (fun x => x.pop)) S2 rfl
      refine wpAny_pure ⟨plainId_quiet PySem.F.plain_extend_loop _, key I fp vs St s1 W hv nf nI st k1 eg eo et _ _ (fun b o hb e => ?_) S3⟩
      exact (Heap.get?_update_other _ _ (Ne.symm hb)).trans ((Heap.get?_update_other _ _ (Ne.symm hb)).trans e)
  have h1 : A.in1.handled = none := by simp [hh]
  have la := Heap.lt_size ha
  have lS := Heap.lt_size hS
  unfold Builtin.List.listExtendWith
  refine wpAny_bind (wpAny_typeOf (T := "set") ⟨_, ha, rfl⟩ ?_)
  have n1 : Builtin.List.listSameRef (.ref S) (.ref a) = false := by simp [Builtin.List.listSameRef, hSa]
  rw [if_neg (by rw [n1]; decide)]
  have hnone : ∀ b, s.heap.objs.size ≤ b → s.heap.get? b = none := fun b hb => by
    cases e : s.heap.get? b with
    | none => rfl
    | some o => exact absurd (Heap.lt_size e) (Nat.not_lt.mpr hb)
  refine wpAny_bind (iter_set ha hf hp h2 hz (fun ht => ?_) fun ps d pp => ?_)
  · have kk : ∀ b o, s.heap.get? b = some o → (s.heap.push (itO (.int 0 0) 0 a es.size ep)).get? b = some o := fun b o e => Heap.get?_push_of_some _ e
    refine wpAny_bind (wpAny_holding (hint_set ⟨_, kk _ _ ha, rfl⟩ ?_))
    exact go s.heap.objs.size _ _ _ { s with heap := s.heap.push (itO (.int 0 0) 0 a es.size ep) } (walk_setT h1 _ a (Nat.ne_of_lt la) hf ht) ((pick_perm _ es).map _) (by simp only [List.mem_cons, List.not_mem_nil, or_false, not_or]; exact ⟨Nat.ne_of_lt lS, hSa⟩) (hnone _ (Nat.le_refl _)) ⟨Heap.get?_push_size _ rfl, kk _ _ ha⟩ kk rfl rfl (Nat.le_refl _) _
  · generalize hO : seqObj "tuple" (ps.map fun (n : Nat) => rawInt n).toArray 0 = oT
    have kk : ∀ b o, s.heap.get? b = some o → ((s.heap.push oT).push (itO (.ref s.heap.objs.size) 0 a es.size ep)).get? b = some o := fun b o e => Heap.get?_push_of_some _ (Heap.get?_push_of_some _ e)
    have z1 : (s.heap.push oT).objs.size = s.heap.objs.size + 1 := Heap.size_push ..
    have tI : ((s.heap.push oT).push (itO (.ref s.heap.objs.size) 0 a es.size ep)).get? (s.heap.objs.size + 1) = some (itO (.ref s.heap.objs.size) 0 a es.size ep) := by
      rw [← z1]
      exact Heap.get?_push_size _ rfl
    have tT : ((s.heap.push oT).push (itO (.ref s.heap.objs.size) 0 a es.size ep)).get? s.heap.objs.size = some oT := Heap.get?_push_of_some _ (Heap.get?_push_size _ (by rw [← hO]; rfl))
    refine wpAny_bind (wpAny_holding (hint_set ⟨_, kk _ _ ha, rfl⟩ ?_))
    have vp : (ps.map fun j => (es.getD j (0, .none)).2).Perm (es.toList.map (·.2)) := by
      have e : es.toList.map (·.2) = (List.range es.size).map fun j => (es.getD j (0, Value.none)).2 := by
        refine List.ext_getElem? fun j => ?_
        rw [List.getElem?_map, List.getElem?_map, Array.getElem?_toList]
        by_cases c : j < es.size
        · rw [Array.getElem?_eq_getElem c, List.getElem?_range c]
          simp [Array.getD_eq_getD_getElem?, Array.getElem?_eq_getElem c]
        · rw [Array.getElem?_eq_none (by omega), List.getElem?_eq_none (by rw [List.length_range]; omega)]
          rfl
      rw [e]
      exact pp.map _
    exact go (s.heap.objs.size + 1) _ _ _ { s with heap := (s.heap.push oT).push (itO (.ref s.heap.objs.size) 0 a es.size ep), drawn := d } (walk_setD (tp := s.heap.objs.size) h1 _ a (Nat.ne_of_lt (Nat.lt_succ_of_lt la)) (Nat.ne_of_lt (Nat.lt_succ_self _)) hf pp) vp (by simp only [List.mem_cons, List.not_mem_nil, or_false, not_or]; exact ⟨Nat.ne_of_lt (Nat.lt_succ_of_lt lS), hSa, Nat.ne_of_lt lS⟩) (hnone _ (Nat.le_succ _)) ⟨tI, kk _ _ ha, by rw [hO]; exact tT⟩ kk rfl rfl (Nat.le_refl _) _
end
end L2

set_option linter.all false
set_option maxHeartbeats 4000000
set_option maxRecDepth 100000
namespace L2
open PySem PySem.Spec PyProof.Rows
section
variable {prog : Program} {w : World} {A : Around} {E : Value → Shared → Prop} {s : Shared}
theorem iadd_of {S r : Addr} {R : Result → Shared → Prop} (h : wpAny (model prog w) A.in1 (Builtin.List.listExtendWith (.ref S) (.ref r) (.ref S)) (fun fin s' => match fin with | .done f => R (.ok f) s' | .again c' => c'.quiet = true ∧ codeAny (model prog w) A c' R s') (fun e s' => R (.error e) s') s) :
    codeAny (model prog w) A (.builtin "list.__iadd__" ⟨[.ref S, .ref r], []⟩) R s := by
  refine codeAny_builtin (PySem.F.entry_list_iadd) ?_
  rw [Around.under_plainId (PySem.F.plain_list_iadd) _]
  exact h
theorem sorted_src {r : Addr} {ss : List Str} {Q : Value → Shared → Prop} (h64 : ss.length < 64)
    (hx : ∀ (R : Result → Shared → Prop), (∀ s' (vs : List Value) c' ss', (∀ b o, s.heap.get? b = some o → s'.heap.get? b = some o) → s'.gens = s.gens → s'.os = s.os → s.toks ≤ s'.toks →
        s'.heap.get? s.heap.objs.size = some { cls := .type "list", dict := none, data := .seq vs.toArray c', slots := #[] } → StrsAre vs ss' → ss'.Perm ss → R (.ok (.ret (.ref s.heap.objs.size))) s') →
      codeAny (model prog w) A.in1 (.builtin "list.__iadd__" ⟨[.ref s.heap.objs.size, .ref r], []⟩) R { s with heap := s.heap.push { cls := .type "list", data := .seq ([] : List Value).toArray } })
    (q : ∀ s' l (out : Array Value) ss' e, (∀ b o, s.heap.get? b = some o → s'.heap.get? b = some o) → s'.gens = s.gens → s'.os = s.os → s.toks ≤ s'.toks → s.heap.objs.size ≤ l → s'.heap.get? l = some (seqObj "list" out e) → StrsAre out.toList ss' → ss'.Perm ss → sortedS ss' = true → Q (.ref l) s') :
    wpAny (model prog w) A (call (.builtin "sorted") [.ref r]) Q E s := by
  refine Calls.call_function_entry kind_sorted plain_sorted entry_sorted (args_sorted1 _) ?_
  unfold Builtin.«sorted»
  refine wpAny_bind (m := checkCount "sorted" 1 1 _) (wpAny_pure ?_)
  refine wpAny_bind ?_
  unfold collect
  refine wpAny_bind (wpAny_runValue (codeAny_builtin (PySem.F.entry_proto_collect) ?_))
  rw [Around.under_plainId (PySem.F.plain_proto_collect) _]
  show wpAny _ A.in1.in1 (newList [] >>= fun l => again (.builtin "list.__iadd__" ⟨[l, .ref r], []⟩)) _ _ s
  refine wpAny_bind (wpAny_newObj_type ?_)
  refine wpAny_pure ⟨plainId_quiet (PySem.F.plain_list_iadd) _, hx _ fun s' vs c' ss0 k eg eo et hS hs hp => ?_⟩
  refine wpAny_bind (m := load s.heap.objs.size) (wpAny_load hS (wpAny_pure ?_))
  have vl : vs.length < 64 := by rw [hs.length, hp.length_eq]; exact h64
  have slb : (64 : Nat) ≤ sizeLine := by decide
  dsimp only
  refine wpAny_bind (wpAny_newList ?_ (by show vs.length ≤ sizeLine; omega))
  have o1 : (s'.heap.push (seqObj "list" vs.toArray 0)).get? s'.heap.objs.size = some (seqObj "list" vs.toArray 0) := Heap.get?_push_size _ rfl
  refine wpAny_bind (wpAny_holding (wpAny_call_entry slot_list_sort ⟨_, o1, rfl⟩ entry_list_sort (list_sort_treeK strKind_oneLt o1 hs.keysOf (fun v1 v2 rest e => keyKind_strs (by rw [← e]; exact hs)) vl fun st hp2 hs2 => ⟨_, rfl, ?_⟩) (args_list_sort _)))
  obtain ⟨ss1, r1, r2, r3⟩ := sorted_out_str hs hp2 hs2
  obtain ⟨e1, o2⟩ := sortedHeap_at (out := (arrOf st).map (·.2)) o1
  refine wpAny_pure ⟨_, rfl, q _ s'.heap.objs.size _ ss1 e1 (fun b o e => ?_) eg eo et ?_ o2 r1 (r2.trans hp) r3⟩
  · have lb := Heap.lt_size (k b o e)
    rw [sortedHeap_old (Nat.ne_of_lt lb) (by rw [size_push']; exact Nat.lt_succ_of_lt lb)]
    exact Heap.get?_push_of_some _ (k b o e)
  · exact Nat.le_of_lt (Heap.lt_size hS)
theorem strsAll : ∀ (vs : List Value), (∀ v ∈ vs, ∃ x t, v = .str x t) → StrsAre vs (vs.map strOf)
  | [], _ => .nil
  | v :: vs, h => by
    obtain ⟨x, t, rfl⟩ := h v (by simp)
    exact .cons x t (strsAll vs fun u hu => h u (by simp [hu]))
theorem sorted_set {a : Addr} {ks : List Str} {Q : Value → Shared → Prop} (hh : A.handled = none) (hS : SetS prog w s.heap a ks) (h2 : 2 ≤ ks.length) (h64 : ks.length < 64)
    (q : ∀ s' l (out : Array Value) ss' e, (∀ b o, s.heap.get? b = some o → s'.heap.get? b = some o) → s'.gens = s.gens → s'.os = s.os → s.toks ≤ s'.toks → s.heap.objs.size ≤ l → s'.heap.get? l = some (seqObj "list" out e) → StrsAre out.toList ss' → ss'.Perm ks → sortedS ss' = true → Q (.ref l) s') :
    wpAny (model prog w) A (call (.builtin "sorted") [.ref a]) Q E s := by
  obtain ⟨es, ep, t, ho, hel, hp, hb, hf, hpl⟩ := hS
  have sz : es.size = ks.length := by rw [← hp.length_eq, List.length_map, Array.length_toList]
  have slb : (64 : Nat) ≤ sizeLine := by decide
  have la := Heap.lt_size ho
  have h1 : A.in1.handled = none := by simp [hh]
  refine sorted_src (ss := ks) h64 (fun R k => iadd_of (ext_set h1 (Heap.get?_push_of_some _ ho) hf (hpl (fun z => by rw [z] at h2; simp at h2)) (by omega) (by omega) (Nat.ne_of_gt la) (Heap.get?_push_size _ rfl) fun s' acc c' kk eg eo et hl hperm => ?_)) q
  have hall : ∀ v ∈ acc.toList, ∃ x t, v = .str x t := fun v hv => by
    obtain ⟨e, he, rfl⟩ := List.mem_map.mp (hperm.mem_iff.mp hv)
    obtain ⟨⟨k', h', _⟩, _⟩ := hel e he
    obtain ⟨u, hu⟩ := Value.isStrOf_shape h'
    exact ⟨k', u, hu⟩
  refine k s' acc.toList c' (acc.toList.map strOf) (fun b o e => kk b o (Nat.ne_of_lt (Heap.lt_size e)) (Heap.get?_push_of_some _ e)) eg eo et (by rw [Array.toArray_toList]; exact hl) (strsAll _ hall) ?_
  refine (hperm.map strOf).trans ?_
  rw [List.map_map]
  exact hp
theorem sorted_dict {K : Type} [DecidableEq K] {knd : PySem.KeyKind prog w K} {d : Addr} {kvs : List (K × Value)} {ep : Nat} {ss : List Str} {Q : Value → Shared → Prop} (hh : A.handled = none) (lo : (d == sysModules) = false) (hd : s.heap.DictAt knd d kvs ep) (h64 : kvs.length < 64)
    (hl : ss.length = kvs.length) (hk : ∀ i k x v, kvs[i]? = some (k, x) → knd.is k v = true → ∃ t, v = .str (ss.getD i ⟨#[]⟩) t)
    (q : ∀ s' l (out : Array Value) ss' e, (∀ b o, s.heap.get? b = some o → s'.heap.get? b = some o) → s'.gens = s.gens → s'.os = s.os → s.toks ≤ s'.toks → s.heap.objs.size ≤ l → s'.heap.get? l = some (seqObj "list" out e) → StrsAre out.toList ss' → ss'.Perm ss → sortedS ss' = true → Q (.ref l) s') :
    wpAny (model prog w) A (call (.builtin "sorted") [.ref d]) Q E s := by
  have slb : (64 : Nat) ≤ sizeLine := by decide
  have la := hd.lt_size
  have h1 : A.in1.handled = none := by simp [hh]
  refine sorted_src (ss := ss) (by omega) (fun R k => ?_) q
  obtain ⟨R0, hR0⟩ : ∃ R0 : Result → Shared → Prop, ∀ r s', R0 r s' ↔ ∃ h' tk acc c', r = .ok (.ret (.ref s.heap.objs.size)) ∧ s' = { s with heap := h', toks := tk } ∧ (∀ b o, b ≠ s.heap.objs.size → (s.heap.push { cls := .type "list", data := .seq ([] : List Value).toArray }).get? b = some o → h'.get? b = some o) ∧ h'.get? s.heap.objs.size = some { cls := .type "list", dict := none, data := .seq acc c', slots := #[] } ∧ ItemsOf (fun i v => ∃ k x, kvs[i]? = some (k, x) ∧ knd.is k v = true) acc kvs.length := ⟨_, fun _ _ => Iff.rfl⟩
  have base := codeAny_toks_of (n := s.toks) (s := { s with heap := s.heap.push { cls := .type "list", data := .seq ([] : List Value).toArray } }) (Nat.le_refl _) (iadd_of (A := A.in1) (R := R0)
    (PySem.W.kdl_extend (R := R0) (s := { s with heap := s.heap.push { cls := .type "list", data := .seq ([] : List Value).toArray } }) (PySem.W.kdl_dict (knd := knd) (kvs := kvs) (ep := ep) lo) h1 (hd.push _) s.heap.objs.size (Nat.ne_of_gt la) (Nat.ne_of_gt la) (.ref s.heap.objs.size) 0 (Heap.get?_push_size _ rfl) (fun h' tk acc c' kk hl hacc => (hR0 _ _).mpr ⟨h', tk, acc, c', rfl, rfl, kk, hl, hacc⟩) (by omega)))
  refine codeAny_mono base ?_
  rintro r s' ⟨ht, hr⟩
  obtain ⟨h', tk, acc, c', rfl, rfl, kk, hlst, hacc⟩ := (hR0 _ _).mp hr
  have ha : StrsAre acc.toList ss := by
    have hall : ∀ v ∈ acc.toList, ∃ x t, v = .str x t := fun v hv => by
      obtain ⟨i, hi⟩ := List.getElem?_of_mem hv
      rw [Array.getElem?_toList] at hi
      obtain ⟨k', x, e1, e2⟩ := hacc.2 i v hi
      obtain ⟨t, e⟩ := hk i k' x v e1 e2
      exact ⟨_, t, e⟩
    have := strsAll _ hall
    have e : acc.toList.map strOf = ss := by
      refine List.ext_getElem? fun i => ?_
      rw [List.getElem?_map, Array.getElem?_toList]
      have l2 : acc.size = kvs.length := hacc.1
      by_cases c : i < kvs.length
      · have e1 : acc[i]? = some acc[i] := Array.getElem?_eq_getElem (by omega)
        obtain ⟨k', x, e2, e3⟩ := hacc.2 i _ e1
        obtain ⟨t, e4⟩ := hk i k' x _ e2 e3
        rw [e1, Option.map_some, e4, List.getElem?_eq_getElem (by omega)]
        simp [strOf, List.getD_eq_getElem?_getD, List.getElem?_eq_getElem (show i < ss.length by omega)]
      · rw [Array.getElem?_eq_none (by omega), List.getElem?_eq_none (by omega)]
        rfl
    rw [e] at this
    exact this
  exact k _ acc.toList c' ss (fun b o e => kk b o (Nat.ne_of_lt (Heap.lt_size e)) (Heap.get?_push_of_some _ e)) rfl rfl ht (by rw [Array.toArray_toList]; exact hlst) ha (.refl _)
end
end L2

set_option linter.all false
set_option maxHeartbeats 4000000
set_option maxRecDepth 100000
namespace L2
open PySem PySem.Spec PyProof.Rows
section
variable {prog : Program} {w : World} {A : Around} {E : Value → Shared → Prop} {s : Shared} {a : Addr} {its : Array Value} {n : Nat}
end
end L2

set_option linter.all false
set_option maxHeartbeats 4000000
set_option maxRecDepth 100000
namespace L2
open PySem PySem.Spec PyProof.Rows
section
variable {prog : Program} {w : World} {A : Around} {E : Value → Shared → Prop} {s : Shared}
def PairAt (h : Heap) (a : Addr) (k v : Value) : Prop := ∃ o c, h.get? a = some o ∧ o.cls = .type "tuple" ∧ o.data = .seq #[k, v] c
theorem PairAt.at_ {h h' : Heap} {a : Addr} {k v : Value} (x : PairAt h a k v) (m : ∀ o, h.get? a = some o → h'.get? a = some o) : PairAt h' a k v := by
  obtain ⟨o, c, e, r⟩ := x
  exact ⟨o, c, m o e, r⟩
end
end L2

set_option linter.all false
set_option maxHeartbeats 4000000
set_option maxRecDepth 100000
namespace L2
open PySem PySem.Spec PyProof.Rows
section
variable {X : Cx} {pins : List (Addr × Obj)} {σ : List (Option V)} {H : Hp} {s s' : Shared}
theorem Inv.like (I : Inv X pins σ H { s with heap := s'.heap, toks := s'.toks }) (eg : s'.gens = s.gens) (eo : s'.os = s.os) : Inv X pins σ H s' :=
  ⟨I.ok, by rw [eo]; exact I.os, by rw [eg]; exact I.bare, I.base, I.loc, I.cell, I.free, I.freeC, I.pin, I.hok, I.len⟩
theorem vals_strs : ∀ {vs : List Value} {ss : List Str}, StrsAre vs ss → Vals (ss.map V.str) vs
  | _, _, .nil => .nil
  | _, _, .cons z t r => .cons ⟨t, rfl⟩ (vals_strs r)
theorem strs_vals : ∀ {vs : List Value} {ss : List Str}, Vals (ss.map V.str) vs → StrsAre vs ss
  | [], [], _ => .nil
  | [], _ :: _, h => by cases h
  | _ :: _, [], h => by cases h
  | v :: vs, z :: ss, h => by
    cases h with
    | cons h1 h2 =>
      obtain ⟨t, rfl⟩ := h1
      exact .cons z t (strs_vals h2)
/-- out: ss put in order -/
def InOrder (out ss : List Str) : Prop := out.Perm ss ∧ sortedS out = true
def rSortD (xs : List V) (H : Hp) (Q : VK) : Prop := ∃ d kvs ss, xs = [.ref d] ∧ H d = some (.dK kvs) ∧ kvs.map (·.1) = ss.map Sum.inr ∧ ss.length < 64 ∧ ∀ l out, H l = none → InOrder out ss → Q (.ref l) (upd H l (.lst (out.map V.str)))
theorem call_sortD (hc : X.calm = true) : CallR X (.builtin "sorted") rSortD := by
  intro pins s σ H xs us Q I r h
  obtain ⟨d, kvs, ss, rfl, e, hk, h64, q⟩ := h
  obtain ⟨u, rfl, rx⟩ := vals1 r
  cases rx
  obtain ⟨hz, hS, vs, rel, dd⟩ := dk_of I.hok e
  obtain ⟨ep, da⟩ := dd.dictAt
  have sl : (64 : Nat) ≤ sizeLine := by decide
  have lk : ss.length = kvs.length := by simpa using (congrArg List.length hk).symm
  have lv : vs.length = kvs.length := rel.length.symm
  have keys : vs.map (·.1) = kvs.map (·.1) := by
    clear dd da hk lk lv hz q e
    induction rel with
    | nil => rfl
    | cons h1 _ ih =>
      rw [List.map_cons, List.map_cons, ih, h1.1]
  refine sorted_dict (ss := ss) (I.ok.hd hc) hS da (by omega) (by omega) (fun i k x v hi hv => ?_) fun s' l out ss' ex k eg eo et hl ho hs hp hso => ?_
  · have e1 : (vs.map (·.1))[i]? = some k := by rw [List.getElem?_map, hi]; rfl
    rw [keys, hk, List.getElem?_map] at e1
    obtain ⟨z, hz1, rfl⟩ := Option.map_eq_some_iff.mp e1
    rcases keyIs_shape (show keyIs (Sum.inr z) v = true from hv) with ⟨b, hb, _⟩ | ⟨y, t, hy, rfl⟩
    · cases hb
    · cases hy
      exact ⟨t, by rw [List.getD_eq_getElem?_getD, hz1]; rfl⟩
  · have lo : out.toList.length ≤ sizeLine := by
      rw [hs.length, hp.length_eq]
      omega
    refine ⟨.ref l, _, Inv.like (s := s) (I.laid (t' := s'.toks) (o := .lst (ss'.map V.str)) k hl (show ObjOk X.prog X.w _ s'.heap l (.lst (ss'.map V.str)) from ⟨by rw [List.length_map, hp.length_eq]; omega, out.toList, ex, vals_strs hs, by rw [Array.toArray_toList]; exact ho⟩)) eg eo, rfl, q l ss' (I.hok.fresh hl) ⟨hp, hso⟩⟩
def rIndex : V → List V → Hp → VK → Prop := fun x vs H Q => ∃ (l : Addr) (ss : List Str) (z : Str) (j : Nat), x = .ref l ∧ vs = [.str z] ∧ H l = some (.lst (ss.map V.str)) ∧ ss[j]? = some z ∧ (∀ m, m < j → ss[m]? ≠ some z) ∧ Q (.int (j : Int)) H
theorem mt_index : MtM X "list.index" rIndex := by
  intro pins s σ H x vs v us Q I rx rv h
  obtain ⟨l, ss, z, j, rfl, rfl, hH, hj, hno, q⟩ := h
  cases rx
  obtain ⟨u, rfl, ru⟩ := rv.one
  obtain ⟨t, rfl⟩ := ru
  obtain ⟨hz, its, n, r, hl, e⟩ := I.lstM hH
  have hs := strs_vals r
  have ls := hs.length
  have lj : j < ss.length := (List.getElem?_eq_some_iff.mp hj).1
  have iz : its.toArray.size = ss.length := by rw [List.size_toArray]; exact ls
  have at_ : ∀ m (hm : m < its.toArray.size), ∃ t' z', ss[m]? = some z' ∧ its.toArray[m] = .str z' t' := fun m hm => by
    have hm' : m < ss.length := by omega
    obtain ⟨t', e'⟩ := hs.get m ss[m] (List.getElem?_eq_getElem hm')
    refine ⟨t', ss[m], List.getElem?_eq_getElem hm', ?_⟩
    rw [List.getElem?_eq_getElem (l := its) (i := m) (by simpa using hm)] at e'
    simpa using e'
  have sl : (sizeLine : Int) < 2 ^ 63 - 1 := by decide
  have hz' : ss.length ≤ sizeLine := by simpa using hz
  refine call_meets F.slot_list_index ⟨_, e, rfl⟩ F.entry_list_index (F.args_list_index_2 _ _) (MeetsSeq.list_index l its.toArray n (.str z t) (fun y => strOf y == z) (fun y hy => ?_) j (by omega) (by omega) ?_ fun m hm hlt => ?_) ⟨e, ?_⟩
  · obtain ⟨z', t', rfl⟩ := hs.all y (by simpa using hy)
    have := SeqRoads2.EqGives.str z' z t' t
    rw [SeqAt.str_beq] at this
    exact this
  · obtain ⟨t', z', h1, h2⟩ := at_ j (by omega)
    rw [hj] at h1
    cases h1
    rw [h2]
    simp [strOf]
  · obtain ⟨t', z', h1, h2⟩ := at_ m hm
    rw [h2]
    have := hno m hlt
    rw [h1] at this
    simp only [strOf, beq_eq_false_iff_ne]
    exact fun h => this (by rw [h])
  · exact ⟨.int (j : Int), H, I.tok _, ⟨_, rfl⟩, q⟩
theorem met_two {val : Nat → Str} {n : Nat} {x y : Str} (hx : x ∈ met val n) (hy : y ∈ met val n) (h : x ≠ y) : 2 ≤ (met val n).length := by
  match e : met val n with
  | [] => rw [e] at hx; simp at hx
  | [a] =>
    rw [e] at hx hy
    simp only [List.mem_singleton] at hx hy
    exact absurd (hx.trans hy.symm) h
  | _ :: _ :: _ => simp
end
end L2

set_option linter.all false
set_option maxHeartbeats 4000000
set_option maxRecDepth 100000
namespace L2
open PySem PySem.Spec PyProof.Rows Ch
theorem any_key {kvs : List (Key × V)} {ss : List Str} (h : kvs.map (·.1) = ss.map Sum.inr) (z : Str) : (kvs.any fun kv => decide (kv.1 = Sum.inr z)) = decide (z ∈ ss) := by
  have e : (kvs.any fun kv => decide (kv.1 = Sum.inr z)) = (kvs.map (·.1)).any fun k => decide (k = Sum.inr z) := by rw [List.any_map]; rfl
  rw [e, h, List.any_map, Bool.eq_iff_iff]
  simp
theorem keys_put {kvs : List (Key × V)} {ss : List Str} (h : kvs.map (·.1) = ss.map Sum.inr) (z : Str) (v : V) : (putK kvs (Sum.inr z) v).map (·.1) = (addS ss z).map Sum.inr := by
  unfold putK addS
  rw [any_key h]
  by_cases c : z ∈ ss
  · rw [if_pos (by simpa using c), if_pos c, ← h, List.map_map]
    refine List.map_congr_left fun kv _ => ?_
    simp only [Function.comp]
    split
    · rfl
    · rfl
  · rw [if_neg (by simpa using c), if_neg c, List.map_append, List.map_append, h]
    rfl
theorem addS_nd {ss : List Str} (z : Str) (h : ss.Nodup) : (addS ss z).Nodup := by
  unfold addS
  split
  · exact h
  · rename_i c
    rw [List.nodup_append]
    refine ⟨h, by simp, fun a ha b hb => ?_⟩
    rw [List.mem_singleton.mp hb]
    exact fun e => c (e ▸ ha)
theorem addS_mem {ss : List Str} (z x : Str) : x ∈ addS ss z ↔ x ∈ ss ∨ x = z := by
  unfold addS
  split
  · rename_i c
    constructor
    · exact .inl
    · rintro (h | rfl)
      · exact h
      · exact c
  · simp
theorem addS_len (ss : List Str) (z : Str) : (addS ss z).length ≤ ss.length + 1 := by
  unfold addS
  split <;> simp
/-- the faces of ties, in order, each once -/
def FacesIs (ts : List TD) (out : List Str) : Prop := out.Nodup ∧ sortedS out = true ∧ ∀ z, z ∈ out ↔ ∃ t ∈ ts, z = t.st ∨ z = t.en
def leS (a b : Str) : Prop := a.cps.toList ≤ b.cps.toList
theorem rising_pw : ∀ (p : Str) (l : List Str), risingS p l = true → (p :: l).Pairwise leS
  | p, [], _ => by simp
  | p, x :: r, h => by
    have h' : (!ltCps x.cps.toList p.cps.toList && risingS x r) = true := h
    rw [Bool.and_eq_true] at h'
    have ih := rising_pw x r h'.2
    have h1 : leS p x := by
      have := h'.1
      rw [ltCps_eq] at this
      exact List.not_lt.mp (by simpa using this)
    refine List.pairwise_cons.mpr ⟨fun b hb => ?_, ih⟩
    rcases List.mem_cons.mp hb with rfl | hb
    · exact h1
    · exact List.le_trans h1 ((List.pairwise_cons.mp ih).1 b hb)
theorem sorted_pw (l : List Str) (h : sortedS l = true) : l.Pairwise leS := by
  cases l with
  | nil => simp
  | cons p l => exact rising_pw p l h
theorem leS_anti {a b : Str} (h : leS a b) (g : leS b a) : a = b := by
  have e := List.le_antisymm h g
  cases a
  cases b
  simp only [Str.mk.injEq]
  exact Array.toList_inj.mp e
theorem sorted_eq {l l' : List Str} (h : sortedS l = true) (h' : sortedS l' = true) (hn : l.Nodup) (hn' : l'.Nodup) (hm : ∀ z, z ∈ l ↔ z ∈ l') : l = l' :=
  List.Perm.eq_of_pairwise (le := leS) (fun _ _ _ _ => leS_anti) (sorted_pw l h) (sorted_pw l' h') ((List.perm_ext_iff_of_nodup hn hn').mpr hm)
theorem FacesIs.eq {ts : List TD} {l l' : List Str} (h : FacesIs ts l) (h' : FacesIs ts l') : l = l' := sorted_eq h.2.1 h'.2.1 h.1 h'.1 fun z => (h.2.2 z).trans (h'.2.2 z).symm
theorem FacesIs.nil {l : List Str} (h : FacesIs [] l) : l = [] := by
  cases l with
  | nil => rfl
  | cons a l =>
    have := (h.2.2 a).mp (by simp)
    simp at this
/-- pairs of a face and a place -/
abbrev Pl := List (Str × (Int × Int))
def look (ps : Pl) (z : Str) : Int × Int := ((ps.find? fun p => decide (p.1 = z)).map (·.2)).getD (0, 1)
def negF (a : Int × Int) : Int × Int := (-a.1, a.2)
def apart (ps : Pl) (t : TD) : Int × Int := addF (look ps t.en) (negF (look ps t.st))
def lessF (a c : Int × Int) : Bool := decide (a.1 * c.2 < c.1 * a.2)
def okB (lo hi : Option (Int × Int)) (a : Int × Int) : Bool :=
  (match lo with | none => true | some l => !lessF a l) && (match hi with | none => true | some h => !lessF h a)
/-- two-sided size of a fraction -/
structure FB (A B : Nat) (a : Int × Int) : Prop where
  s1 : Mth.Sz A a.1
  s2 : Mth.Sz B a.2
  b1 : 1 ≤ a.2
  g1 : Mth.g a.1 a.2 = 1
theorem FB.ok {A B n : Nat} {a : Int × Int} (h : FB A B a) (h1 : A ≤ n) (h2 : B ≤ n) : FOk n a := ⟨h.s1.mono h1, h.s2.mono h2, h.b1, h.g1⟩
theorem FB.neg {A B : Nat} {a : Int × Int} (h : FB A B a) : FB A B (negF a) := ⟨by
  have := h.s1
  unfold Mth.Sz at this ⊢
  unfold negF
  rw [Int.natAbs_neg]
  exact this, h.s2, h.b1, by
  have := h.g1
  unfold Mth.g negF at *
  simpa using this⟩
theorem FB.add {A B C D n m : Nat} {a c : Int × Int} (h : FB A B a) (k : FB C D c) (h1 : A + D ≤ n) (h2 : C + B ≤ n) (h3 : B + D ≤ m) : FB (n + 1) m (addF a c) := by
  have b0 : a.2 * c.2 ≠ 0 := Int.mul_ne_zero (by have := h.b1; omega) (by have := k.b1; omega)
  have z1 := (h.s1.mul k.s2).mono h1
  have z2 := (k.s1.mul h.s2).mono h2
  exact ⟨Mth.Sz.top b0 (z1.add z2), (Mth.Sz.bot b0 (h.s2.mul k.s2)).mono h3, Mth.bot_pos b0, Mth.g_low b0⟩
end L2

set_option linter.all false
set_option maxHeartbeats 4000000
set_option maxRecDepth 100000
namespace L2
open PySem PySem.Spec PyProof.Rows Ch
/-- a face and its place -/
def QV (K : PySem.W.Frag) (H : Hp) (p : Str × (Int × Int)) (x : V) : Prop := ∃ b v, x = .ref b ∧ H b = some (.tup [.str p.1, v]) ∧ FrV K H v p.2.1 p.2.2
theorem QV.sameT {K : PySem.W.Frag} {H H' : Hp} {p : Str × (Int × Int)} {x : V} (S : SameT H H') : QV K H p x → QV K H' p x := fun ⟨b, v, e, h, f⟩ => ⟨b, v, e, S _ _ rfl h, f.sameT S⟩
end L2

set_option linter.all false
namespace L2
open PySem PySem.Spec PyProof.Rows Ch
end L2
namespace L2
open PySem PySem.Spec PyProof.Rows Ch
theorem eq_strs : ∀ (ls rs : List Str), eqL (ls.map D.str) (rs.map D.str) = decide (ls = rs)
  | [], [] => rfl
  | [], _ :: _ => by simp [eqL]
  | _ :: _, [] => by simp [eqL]
  | a :: ls, b :: rs => by
    rw [List.map_cons, List.map_cons, eqL, eq_strs ls rs]
    simp only [eqD, List.cons.injEq]
    by_cases c : a = b
    · subst c; simp
    · simp [c]
theorem rep_strs {K : PySem.W.Frag} {H : Hp} : ∀ (ls : List Str), RepL K H (ls.map D.str) (ls.map V.str)
  | [] => by simp [RepL]
  | a :: ls => by
    simp only [List.map_cons, RepL, Rep]
    exact ⟨_, _, rfl, rfl, rep_strs ls⟩
theorem neStrs {K : PySem.W.Frag} {H : Hp} {Q : VK} {p q : Addr} {ls rs : List Str} (hp : SqL K H p (ls.map V.str)) (hq : SqL K H q (rs.map V.str)) (k : Q (.bl (!decide (ls = rs))) H) : rNeU K (.ref p) (.ref q) H Q := by
  refine ⟨.lst (ls.map D.str), .lst (rs.map D.str), by simp only [Rep]; exact ⟨p, _, rfl, hp, rep_strs ls⟩, by simp only [Rep]; exact ⟨q, _, rfl, hq, rep_strs rs⟩, ?_, rfl, ?_⟩
  · have : ∀ l : List Str, depL (l.map D.str) ≤ 10 := depL_map (n := 10) fun a => by simp [depD]
    rw [depD]
    have := this ls
    omega
  · rw [eqD, eq_strs]
    exact k
end L2
namespace L2
open PySem PySem.Spec PyProof.Rows Ch
theorem FOk.neg {n : Nat} {a : Int × Int} (h : FOk n a) : FOk n (negF a) := by
  have := FB.neg (A := n) (B := n) ⟨h.s1, h.s2, h.b1, h.g1⟩
  exact ⟨this.s1, this.s2, this.b1, this.g1⟩
end L2

set_option linter.all false
set_option maxHeartbeats 4000000
namespace L2
open PySem PySem.Spec PyProof.Rows Ch
/-- sizes of a fraction, lowest or not -/
structure FW (A B : Nat) (a : Int × Int) : Prop where
  s1 : Mth.Sz A a.1
  s2 : Mth.Sz B a.2
  b1 : 1 ≤ a.2
theorem FB.w {A B : Nat} {a : Int × Int} (h : FB A B a) : FW A B a := ⟨h.s1, h.s2, h.b1⟩
theorem FW.mono {A B C D : Nat} {a : Int × Int} (h : FW A B a) (h1 : A ≤ C) (h2 : B ≤ D) : FW C D a := ⟨h.s1.mono h1, h.s2.mono h2, h.b1⟩
theorem FW.add {A B C D n m : Nat} {a c : Int × Int} (h : FW A B a) (k : FW C D c) (h1 : A + D ≤ n) (h2 : C + B ≤ n) (h3 : B + D ≤ m) : FB (n + 1) m (addF a c) := by
  have b0 : a.2 * c.2 ≠ 0 := Int.mul_ne_zero (by have := h.b1; omega) (by have := k.b1; omega)
  have z1 := (h.s1.mul k.s2).mono h1
  have z2 := (k.s1.mul h.s2).mono h2
  exact ⟨Mth.Sz.top b0 (z1.add z2), (Mth.Sz.bot b0 (h.s2.mul k.s2)).mono h3, Mth.bot_pos b0, Mth.g_low b0⟩
end L2

set_option linter.all false
set_option maxHeartbeats 4000000
namespace L2
open PySem PySem.Spec PyProof.Rows Ch
end L2

set_option linter.all false
namespace L2
open PySem PySem.Spec PyProof.Rows Ch
section
variable {X : Cx} {K : PySem.W.Frag} {o e : Expr} {es : List Expr} {to : TE} {t : TA} {name : Str} {apos cpos : Pos} {T id : String} {r : V → List V → Hp → VK → Prop}
end
end L2

set_option linter.all false
set_option maxHeartbeats 4000000
set_option maxRecDepth 100000
namespace L2
open PySem PySem.Spec PyProof.Rows
section
variable {X : Cx}
/-- list(o.values()) -/
def tValsL (td : TE) : TE := fun σ H Q => td σ H fun x H1 => ∃ d kvs, x = .ref d ∧ H1 d = some (.dK kvs) ∧ ∀ l, H1 l = none → Q (.ref l) (upd H1 l (.lst (kvs.map (·.2))))
theorem vals_of {kvs : List (Key × V)} {vs : List (Key × Value)} (r : KV kvs vs) : Vals (kvs.map (·.2)) (vs.map (·.2)) := by
  unfold KV at r
  induction r with
  | nil => exact .nil
  | cons h _ ih => exact .cons h.2 ih
theorem pe_vals {o : Expr} {td : TE} {p1 apos cpos pos : Pos} {x : Str} (hc : X.calm = true) (hx : x = "list") (hg : Gl X x) (hm : X.mg x = none) (hv : bootBuiltins x = some (.type "list")) (ho : PE X o td)
    (hb : attributeBase o "values" X.env (eval o X.env) = eval o X.env := by rfl) (hn : (apos.endLine == cpos.line) = true := by rfl) :
    PE X (.Call (.Name x p1) [.Call (.Attribute o "values" apos) [] [] cpos] [] pos) (tValsL td) := by
  intro pins s σ H Q I h
  have nx : x ≠ "__name__" := by rw [hx]; decide
  have dx : (x == ("__debug__" : Str)) = false := by rw [hx]; decide
  refine wpAny_Call_Name_kw (ld_blt I hg hm hv ?_ nx dx)
  refine PyProof.Rows.callWith_type1 ?_ rfl rfl
  show wpAny _ _ (spliced ((false, eval (.Call (.Attribute o "values" apos) [] [] cpos) X.env) :: backTo pos (starEach [] X.env))) _ _ s
  refine Calls.spliced_cons ?_
  refine wpAny_Call_method0_late hb hn (thn (ho pins s σ H _ I h) fun v s1 ⟨y, H1, I1, r1, d, kvs, ex, e, q1⟩ => ?_)
  subst ex
  obtain rfl : v = Value.ref d := r1
  obtain ⟨t1, t2, hS⟩ := isD_at I1 (.inl ⟨kvs, .inl e⟩)
  obtain ⟨hz, _, vs, rel, dd⟩ := dk_of I1.hok e
  refine ⟨"dict", "dict.values", PySem.F.plainAttrs_dict, PySem.F.slot_dict_values, PySem.F.type_dict_values, t1, t2, Calls.callWith_builtin rfl (PySem.evalArgs_none ?_)⟩
  refine call_meetsIn PySem.F.slot_dict_values t1 PySem.F.entry_dict_values (PySem.F.args_dict_values_1 _) (meets_dict_values (mixKind X.prog X.w) d hS) ⟨⟨vs, dd⟩, ?_⟩
  refine Calls.spliced_nil ?_
  obtain ⟨ep, da⟩ := dd.dictAt
  refine PySem.W.kdl_call (PySem.W.kdl_values (knd := mixKind X.prog X.w) (r := s1.heap.objs.size) (d := d) (kvs := vs) (ep := ep)) (I.ok.hd hc) ⟨⟨_, Heap.get?_push_size _ rfl, rfl, rfl⟩, da.push _⟩ (by have := rel.length; omega) fun h' tk acc' c' k hD hacc => ?_
  have ev : acc'.toList = vs.map (·.2) := PySem.W.kdl_vals_eq _ (by rw [Array.length_toList]; exact hacc.1) fun j v hj => hacc.2 j v (by rw [← Array.getElem?_toList]; exact hj)
  have kk : ∀ b o, s1.heap.get? b = some o → h'.get? b = some o := fun b o z => k b o (Heap.get?_push_of_some _ z)
  have sz : s1.heap.objs.size ≤ (s1.heap.push { cls := .type "dict_values", data := .fields #[.ref d] }).objs.size := by
    rw [Heap.size_push]
    exact Nat.le_succ _
  exact ⟨.ref _, _, I1.laid (t' := tk) (o := .lst (kvs.map (·.2))) kk sz (show ObjOk X.prog X.w _ h' _ (.lst (kvs.map (·.2))) from ⟨by rw [List.length_map]; exact hz, vs.map (·.2), c', vals_of rel, by rw [← ev, Array.toArray_toList]; exact hD⟩), rfl, q1 _ (I1.hok.fresh sz)⟩
end
section
variable {prog : Program} {w : World} {A : Around} {E : Value → Shared → Prop} {s : Shared}
theorem end_none {I a : Addr} {ep : Nat} {t : SetTable} {Q : Option Value → Shared → Prop} (hh : A.handled = none) (hI : s.heap.get? I = some (itO (.int 0 0) 0 a 0 ep)) (ha : s.heap.get? a = some (setO #[] ep t)) (hf : t.fits 0 = true)
    (q : ∀ h', (∀ b o, b ≠ I → s.heap.get? b = some o → h'.get? b = some o) → Q none { s with heap := h' }) : wpAny (model prog w) A (pyNext (.ref I)) Q E s := by
  have ty : s.TypeIs (.ref I) "set_iterator" := ⟨_, hI, rfl⟩
  cases ht : w.params.followText "set-order" with
  | true => exact end_text (es := #[]) (i := 0) hh hI ha hf ht (by rw [← Array.getElem?_toList]; exact List.getElem?_eq_none (by rw [(pick_perm _ _).length_eq]; simp)) q
  | false =>
    unfold pyNext
    refine wpAny_bind (wpAny_attempt (wpAny_callSpecial?_slot (name := Str.ofString "__next__") ty slot_sn (wpAny_call_entry slot_sn ty entry_sn ?_ (args_sn _))))
    unfold Builtin.«set_iterator.__next__»
    refine wpAny_bind (m := slotArgs _ _ _) (wpAny_pure ?_)
    refine wpAny_bind (wpAny_fieldsOf hI rfl ?_)
    show wpAny _ _ (setEntries a >>= _) _ _ _
    refine wpAny_bind (wpAny_setEntries_of ha rfl hf ?_)
    rw [if_neg (by simp)]
    dsimp only
    unfold setNext
    refine wpAny_bind (wpAny_bind (wpAny_setState_of ha rfl hf ?_))
    dsimp only
    refine wpAny_bind (by_text ?_)
    rw [if_neg (by rw [ht]; decide)]
    refine wpAny_ite_split (fun z => absurd (show (!t.plain && decide ((#[] : Array (Int × Value)).size > 1)) = true from z) (by simp)) (fun _ => ?_)
    refine wpAny_bind ?_
    show wpAny _ _ (if (!t.led && !(#[] : Array (Int × Value)).isEmpty) = true then unsupported _ else pure ()) _ _ _
    rw [if_neg (by simp)]
    refine wpAny_pure (wpAny_pure ?_)
    have e0 : ∀ i : Nat, (#[] : Array (Int × Value))[i]? = none := fun i => by simp
    rw [e0]
    dsimp only
    refine wpAny_bind (wpAny_setField hI rfl (by simp) ?_)
    refine stop_it hh fun h' k => q h' fun b o hb e => k b o ?_
    exact ((Heap.SameBut.update ..).extBut b o hb e)
theorem iter_none {a : Addr} {ep : Nat} {t : SetTable} {Q : Value → Shared → Prop} (ha : s.heap.get? a = some (setO #[] ep t)) (hf : t.fits 0 = true)
    (q1 : Q (.ref s.heap.objs.size) { s with heap := s.heap.push (itO (.int 0 0) 0 a 0 ep) }) : wpAny (model prog w) A (pyIter (.ref a)) Q E s := by
  have ty : s.TypeIs (.ref a) "set" := ⟨_, ha, rfl⟩
  refine wpAny_pyIter_slot ty PySem.F.slot_set_iter (wpAny_call_entry PySem.F.slot_set_iter ty entry_ssi ?_ (PySem.F.args_set_iter_1 _))
  unfold Builtin.«frozenset.__iter__»
  refine wpAny_bind (m := Builtin.Frozenset.slot0 _ _) (wpAny_pure ?_)
  unfold Builtin.Frozenset.sizeOf
  refine wpAny_bind (wpAny_bind (wpAny_setEntries_of ha rfl hf (wpAny_pure ?_)))
  unfold setDrawn
  refine wpAny_bind (wpAny_bind (wpAny_setState_of ha rfl hf ?_))
  dsimp only
  refine wpAny_bind (by_text ?_)
  refine wpAny_pure ?_
  refine wpAny_ite_split (fun z => absurd (show (!w.params.followText "set-order" && (!t.plain && decide ((#[] : Array (Int × Value)).size > 1))) = true from z) (by simp)) (fun _ => ?_)
  refine wpAny_bind (wpAny_pure (wpAny_bind (wpAny_setEpoch_of ha rfl hf ?_)))
  unfold newFields
  refine wpAny_bind (wpAny_newObj_type (wpAny_pure ⟨_, rfl, "set_iterator", _, ⟨_, Heap.get?_push_size _ rfl, rfl⟩, slot_sn.lookup, ?_⟩))
  exact q1
theorem kdl_none {a : Addr} {ep : Nat} {t : SetTable} (hf : t.fits 0 = true) : PySem.W.KdlSrc prog w "set" a a 0 (fun _ _ => False) (fun h => h.get? a = some (setO #[] ep t)) where
  type := fun _ ha => ⟨_, ha, rfl⟩
  there := fun _ ha => ⟨Heap.lt_size ha, Heap.lt_size ha⟩
  keep := fun _ _ ha k => k a (.inl rfl) _ ha
  notList := by decide
  notTuple := by decide
  hint := fun _ _ _ _ ha q => hint_set ⟨_, ha, rfl⟩ q
  iter := fun A s hh ha => ⟨itO (.int 0 0) 0 a 0 ep, fun _ h => h.get? s.heap.objs.size = some (itO (.int 0 0) 0 a 0 ep) ∧ h.get? a = some (setO #[] ep t), fun _ _ q => iter_none ha hf q,
    { sub := fun b hb => by simp at hb; simp [hb]
      frame := fun _ _ _ st k => ⟨k _ (by simp) _ st.1, k _ (by simp) _ st.2⟩
      item := fun i _ _ _ hi _ _ => absurd hi (Nat.not_lt_zero _)
      done := fun s' Q E st q => end_none hh st.1 st.2 hf fun h' k => q h' s'.toks fun b o hb z => k b o (fun h => hb (by simp [h])) z
      self := fun _ _ _ _ st q => iter_it st.1 q }, ⟨Heap.get?_push_size _ rfl, Heap.get?_push_of_some _ ha⟩⟩
theorem sorted_none {a : Addr} {ep : Nat} {t : SetTable} {Q : Value → Shared → Prop} (hh : A.handled = none) (ha : s.heap.get? a = some (setO #[] ep t)) (hf : t.fits 0 = true)
    (q : ∀ s' l (out : Array Value) ss' e, (∀ b o, s.heap.get? b = some o → s'.heap.get? b = some o) → s'.gens = s.gens → s'.os = s.os → s.toks ≤ s'.toks → s.heap.objs.size ≤ l → s'.heap.get? l = some (seqObj "list" out e) → StrsAre out.toList ss' → ss'.Perm [] → sortedS ss' = true → Q (.ref l) s') :
    wpAny (model prog w) A (call (.builtin "sorted") [.ref a]) Q E s := by
  have la := Heap.lt_size ha
  have h1 : A.in1.handled = none := by simp [hh]
  refine sorted_src (ss := []) (by decide) (fun R k => ?_) q
  obtain ⟨R0, hR0⟩ : ∃ R0 : Result → Shared → Prop, ∀ r s', R0 r s' ↔ ∃ h' tk acc c', r = .ok (.ret (.ref s.heap.objs.size)) ∧ s' = { s with heap := h', toks := tk } ∧ (∀ b o, b ≠ s.heap.objs.size → (s.heap.push { cls := .type "list", data := .seq ([] : List Value).toArray }).get? b = some o → h'.get? b = some o) ∧ h'.get? s.heap.objs.size = some { cls := .type "list", dict := none, data := .seq acc c', slots := #[] } ∧ ItemsOf (fun _ _ => False) acc 0 := ⟨_, fun _ _ => Iff.rfl⟩
  have base := codeAny_toks_of (n := s.toks) (s := { s with heap := s.heap.push { cls := .type "list", data := .seq ([] : List Value).toArray } }) (Nat.le_refl _) (iadd_of (A := A.in1) (R := R0)
    (PySem.W.kdl_extend (R := R0) (s := { s with heap := s.heap.push { cls := .type "list", data := .seq ([] : List Value).toArray } }) (kdl_none (prog := prog) (w := w) (a := a) (ep := ep) hf) h1 (Heap.get?_push_of_some _ ha) s.heap.objs.size (Nat.ne_of_gt la) (Nat.ne_of_gt la) (.ref s.heap.objs.size) 0 (Heap.get?_push_size _ rfl) (fun h' tk acc' c' k' hS hacc => (hR0 _ _).mpr ⟨h', tk, acc', c', rfl, rfl, k', hS, hacc⟩) (Nat.zero_le _)))
  refine codeAny_mono base ?_
  rintro r s' ⟨ht, hr⟩
  obtain ⟨h', tk, acc, c', rfl, rfl, kk, hlst, hacc⟩ := (hR0 _ _).mp hr
  have e : acc.toList = [] := List.eq_nil_of_length_eq_zero (by rw [Array.length_toList]; exact hacc.1)
  exact k _ acc.toList c' [] (fun b o e => kk b o (Nat.ne_of_lt (Heap.lt_size e)) (Heap.get?_push_of_some _ e)) rfl rfl ht (by rw [Array.toArray_toList]; exact hlst) (by rw [e]; exact .nil) (.refl _)
end
end L2

set_option linter.all false
set_option maxHeartbeats 4000000
set_option maxRecDepth 100000
namespace L2
open PySem PySem.Spec PyProof.Rows
section
variable {X : Cx}
/-- sorted(set(e)), e a list of texts: empty, or with two unlike -/
def rSortE (K : PySem.W.Frag) (xs : List V) (H : Hp) (Q : VK) : Prop := ∃ (l : Addr) (ss : List Str), xs = [.ref l] ∧ SqL K H l (ss.map V.str) ∧ ss.length < 64 ∧ (ss = [] ∨ ∃ x y, x ∈ ss ∧ y ∈ ss ∧ x ≠ y) ∧ ∀ p out, H p = none → out.Nodup → (∀ z, z ∈ out ↔ z ∈ ss) → sortedS out = true → Q (.ref p) (upd H p (.lst (out.map V.str)))
theorem pe_sortsetE {e : Expr} {t : TA} {p1 p2 pos pos2 : Pos} {x y : Str} (hc : X.calm = true) (hx : x = "sorted") (hy : y = "set") (hg : Gl X x) (hm : X.mg x = none) (hv : bootBuiltins x = some (.builtin "sorted")) (hg2 : Gl X y) (hm2 : X.mg y = none) (hv2 : bootBuiltins y = some (.type "set")) (ha : PA X [e] t)
    (he : starEach [e] X.env = (false, eval e X.env) :: starEach [] X.env := by rfl) :
    PE X (.Call (.Name x p1) [.Call (.Name y p2) [e] [] pos2] [] pos) (tCB (rSortE X.K) t) := by
  intro pins s σ H Q I h
  have nx : x ≠ "__name__" := by rw [hx]; decide
  have ny : y ≠ "__name__" := by rw [hy]; decide
  have dx : (x == ("__debug__" : Str)) = false := by rw [hx]; decide
  have dy : (y == ("__debug__" : Str)) = false := by rw [hy]; decide
  refine wpAny_Call_Name_kw (ld_blt I hg hm hv ?_ nx dx)
  refine PyProof.Rows.callWith_builtin1 ?_ rfl rfl
  show wpAny _ _ (spliced ((false, eval (.Call (.Name y p2) [e] [] pos2) X.env) :: backTo pos (starEach [] X.env))) _ _ s
  refine Calls.spliced_cons ?_
  refine wpAny_Call_Name_kw (ld_blt I hg2 hm2 hv2 ?_ ny dy)
  refine PyProof.Rows.callWith_type1 (thn (ha pos2 pins s σ H _ I h) fun us s1 ⟨vs, H1, I1, r1, q1⟩ => ?_) he rfl
  obtain ⟨l, ss, rfl, hl, h64, htwo, q⟩ := q1
  obtain ⟨u, rfl, rx⟩ := vals1 r1
  cases rx
  obtain ⟨its, ri, pl, hz⟩ := I1.list hl
  have hs := strs_vals ri
  have ls := hs.length
  have hd := I1.ok.hd hc
  have sb : (66 : Nat) < scanBound := by decide
  refine call_set_texts hd pl.isList (ss := ss) (by simpa using hs) (by rw [List.size_toArray]; omega) fun h' tk hS k et => Calls.spliced_nil ?_
  have sz : its.toArray.size = ss.length := by rw [List.size_toArray]; exact ls
  rw [sz] at hS
  have mem : ∀ z, z ∈ met (fun i => ss.getD i ⟨#[]⟩) ss.length ↔ z ∈ ss := fun z => by
    rw [met_mem]
    constructor
    · rintro ⟨j, hj, rfl⟩
      rw [List.getD_eq_getElem?_getD, List.getElem?_eq_getElem hj]
      exact List.getElem_mem hj
    · intro hz
      obtain ⟨j, hj⟩ := List.getElem?_of_mem hz
      exact ⟨j, (List.getElem?_eq_some_iff.mp hj).1, by rw [List.getD_eq_getElem?_getD, hj]; rfl⟩
  have ml := met_len (fun i => ss.getD i ⟨#[]⟩) ss.length
  have fin : ∀ s' l' (out : Array Value) ss' ex, (∀ b o, h'.get? b = some o → s'.heap.get? b = some o) → s'.gens = s1.gens → s'.os = s1.os → h'.objs.size ≤ l' → s'.heap.get? l' = some (seqObj "list" out ex) → StrsAre out.toList ss' → ss'.Perm (met (fun i => ss.getD i ⟨#[]⟩) ss.length) → sortedS ss' = true → EP X pins σ Q (.ref l') s' := fun s' l' out ss' ex k2 eg eo hl' ho hs2 hp hso => by
    have kk : ∀ b o, s1.heap.get? b = some o → s'.heap.get? b = some o := fun b o e => k2 b o (k b o e)
    have hl2 : s1.heap.objs.size ≤ l' := by
      have : s1.heap.objs.size < h'.objs.size := by
        obtain ⟨es, ep, tt, ho, _⟩ := hS
        exact Heap.lt_size ho
      exact Nat.le_of_lt (Nat.lt_of_lt_of_le this hl')
    have nd : ss'.Nodup := hp.nodup_iff.mpr (met_nd _ _)
    have lo : ss'.length ≤ sizeLine := by
      have : (64 : Nat) ≤ sizeLine := by decide
      rw [hp.length_eq]
      omega
    exact ⟨.ref l', _, Inv.like (s := s1) (I1.laid (t' := s'.toks) (o := .lst (ss'.map V.str)) kk hl2 (show ObjOk X.prog X.w _ s'.heap l' (.lst (ss'.map V.str)) from ⟨by rw [List.length_map]; exact lo, out.toList, ex, vals_strs hs2, by rw [Array.toArray_toList]; exact ho⟩)) eg eo, rfl, q l' ss' (I1.hok.fresh hl2) nd (fun z => (hp.mem_iff).trans (mem z)) hso⟩
  rcases htwo with rfl | ⟨a, b, ha', hb', hab⟩
  · obtain ⟨es, ep, tt, ho, hel, hp0, _, hf, _⟩ := hS
    have e0 : es = #[] := by
      have := hp0.length_eq
      rw [List.length_map, Array.length_toList] at this
      exact Array.eq_empty_of_size_eq_zero (by rw [this]; rfl)
    subst e0
    exact sorted_none (s := { s1 with heap := h', toks := tk }) hd ho hf fun s' l' out ss' ex k2 eg eo et2 hl' ho' hs2 hp hso => fin s' l' out ss' ex k2 eg eo hl' ho' hs2 hp hso
  · exact sorted_set (s := { s1 with heap := h', toks := tk }) hd hS (met_two ((mem a).mpr ha') ((mem b).mpr hb') hab) (by omega) fun s' l' out ss' ex k2 eg eo et2 hl' ho hs2 hp hso => fin s' l' out ss' ex k2 eg eo hl' ho hs2 hp hso
end
section
variable {X : Cx} {k k' : Nat} {x mn : Str} {C : Addr} {Cs : Addr → Prop} {ps : List Str} {sp : Sp} {p pos apos : Pos} {e o : Expr} {es : List Expr} {t : TA} {ta : TE}
abbrev TX := St → Hp → VK → XK → Prop
def PB (X : Cx) (b : List Stmt) (t : TX) : Prop :=
  ∀ (pins : List (Addr × Obj)) (s : Shared) (σ : St) (H : Hp) (Q : VK) (E : XK), Inv X pins σ H s → t σ H Q E →
    wpAny (model X.prog X.w) X.A (execs b X.env) (fun f s1 => f = .next ∧ ∃ v H1, Inv X pins σ H1 s1 ∧ Q v H1) (fun ev s' => ∃ H1 s1, Inv X pins σ H1 s1 ∧ CX1 X.prog X.w X.stack H1 s1 E ev s') s
def PB1 (X : Cx) (b : Stmt) (t : TX) : Prop :=
  ∀ (pins : List (Addr × Obj)) (s : Shared) (σ : St) (H : Hp) (Q : VK) (E : XK), Inv X pins σ H s → t σ H Q E →
    wpAny (model X.prog X.w) X.A (exec b X.env) (fun f s1 => f = .next ∧ ∃ v H1, Inv X pins σ H1 s1 ∧ Q v H1) (fun ev s' => ∃ H1 s1, Inv X pins σ H1 s1 ∧ CX1 X.prog X.w X.stack H1 s1 E ev s') s
def xNil : TX := fun _ H Q _ => Q .non H
def xSeq (t u : TX) : TX := fun σ H Q E => t σ H (fun _ H1 => u σ H1 Q E) E
def xChoose (tc : TT) (t u : TX) : TX := fun σ H Q E => tc σ H fun b H1 => if b = true then t σ H1 Q E else u σ H1 Q E
theorem pb_nil : PB X [] xNil := fun pins s σ H Q E I q => wpAny_execs_nil ⟨rfl, .non, H, I, q⟩
theorem pb_cons {a : Stmt} {b : List Stmt} {t u : TX} (ha : PB1 X a t) (hb : PB X b u) : PB X (a :: b) (xSeq t u) := fun pins s σ H Q E I q =>
  wpAny_execs_cons (wpAny_mono (ha pins s σ H _ E I q) (fun f s1 ⟨ef, v, H1, I1, q1⟩ => by subst ef; exact hb pins s1 σ H1 Q E I1 q1) fun _ _ z => z)
theorem pb1_call {ce : Expr} {epos : Pos} {t : TX} (h : PEx X ce t) (hs : swapsWith ce none epos.line X.env = pure false := by rfl) : PB1 X (.Expr ce epos) t := fun pins s σ H Q E I q =>
  wpAny_Expr_any (wpAny_mono (h pins s σ H Q E I q) (fun v s1 ⟨y, H1, I1, r1, q1⟩ => ⟨rfl, y, H1, I1, q1⟩) fun _ _ z => z) I.quiet hs
theorem pb1_if {c : Expr} {a b : List Stmt} {pos : Pos} {tc : TT} {t u : TX} (hc : PT X.nox c tc) (ha : PB X a t) (hb : PB X b u) : PB1 X (.If c a b pos) (xChoose tc t u) := fun pins s σ H Q E I q => by
  refine wpAny_If (wpAny_mono (hc pins s σ H _ (I.wish _) q) (fun d s1 ⟨H1, I1, q1⟩ => ?_) fun _ _ y => y.elim)
  cases d with
  | true => exact ha pins s1 σ H1 Q E I1.unwish q1
  | false => exact hb pins s1 σ H1 Q E I1.unwish q1
def xMake (C : Addr) (sp : Sp) (t : TA) : TX := fun σ H Q E => t σ H fun vs H1 => ∀ x dx, H1 x = none → H1 dx = none → dx ≠ x →
  sp (.ref x :: (vs ++ [])) (upd (upd H1 dx (.own x)) x (.ins C dx [])) (fun v H2 => v = .non ∧ Q (.ref x) H2) E
theorem KCal.tr (G : KCal X.prog X.w X.K X.mg X.base k x C ps sp) (hr : Room k' X.A) (hk : k + 1 ≤ k') (hg : Gl X x) (ha : PA X.nox (e :: es) t)
    (hdb : (x == ("__debug__" : Str)) = false := by decide) (he : starEach (e :: es) X.env = (false, eval e X.env) :: starEach es X.env := by rfl) (hpl : (backTo pos (starEach es X.env)).any (·.1) = false := by rfl) :
    PEx X (.Call (.Name x p) (e :: es) [] pos) (xMake C sp t) := by
  obtain ⟨f, fd, F, hm, M, hb⟩ := G.ex
  intro pins s σ H Q E I h
  refine wpAny_Call_Name_kw (ld_glob I hg hm ?_ hdb)
  have z := ha pos pins s σ H _ (I.wish _) h
  refine PySem.W.callWith_K (h₀ := X.base) I.ok.mod.kin M.kp (wpAny_mono z (fun us s1 ⟨vs, H1, I1', r, q⟩ => ⟨I1'.unwish.kIn, ?_⟩) fun _ _ y => y.elim) he hpl
  have I1 := I1'.unwish
  have hq := q (s1.heap.objs.size + 1) s1.heap.objs.size (I1.hok.fresh (Nat.le_succ _)) (I1.hok.fresh (Nat.le_refl _)) (Nat.ne_of_lt (Nat.lt_succ_self _))
  have I2 := Inv.made (C := C) I1
  have r2 : Vals (V.ref (s1.heap.objs.size + 1) :: (vs ++ [])) (Value.ref (s1.heap.objs.size + 1) :: (us ++ [])) := .cons rfl (r.append .nil)
  have hl : (Value.ref (s1.heap.objs.size + 1) :: us ++ []).length = ps.length := by
    have e := r2.length
    rw [F.len _ _ _ _ hq] at e
    exact e.symm
  refine wpAny_call (make_map (f := f) I1.kIn M.makes M.init (beq_iff_eq.mp M.fn) (codeAny_mono (F.run _ X.stack _ _ ⟨Value.ref (s1.heap.objs.size + 1) :: us, []⟩ (Value.ref (s1.heap.objs.size + 1) :: (us ++ [])) _ _ E ((hr.mono hk).make C us [])
    (I2.env0.make C us []) (by have := hb _ (Value.ref (s1.heap.objs.size + 1) :: us) I2.kIn hl; rw [List.cons_append] at this; exact this) r2 hq) fun r s' hq' => ?_))
  cases r with
  | error e => exact ⟨_, _, I2, hq'⟩
  | ok fl =>
    cases fl with
    | ret u =>
      obtain ⟨v, H', I3, rv, ev, q3⟩ := I2.after hq'
      subst ev
      exact ⟨rv, ⟨V.ref (s1.heap.objs.size + 1), H', I3, rfl, q3⟩⟩
    | next => exact False.elim hq'
    | brk => exact False.elim hq'
    | cont => exact False.elim hq'
def xMeth (Cs : Addr → Prop) (m : Str) (sp : Sp) (ta : TE) (t : TA) : TX := fun σ H Q E => ta σ H fun x H1 => ∃ a C dx fs, x = .ref a ∧ H1 a = some (.ins C dx fs) ∧ Cs C ∧ fs.lookup m = none ∧ t σ H1 fun vs H2 => sp (x :: vs) H2 Q E
theorem MCal.tr {pl : Sem Bool} (G : MCal X.prog X.w X.K X.mg X.base k mn Cs ps sp) (hr : Room k' X.A) (hk : k ≤ k') (ho : PE X.nox o ta) (ha : PA X.nox (e :: es) t)
    (hst : starEach (e :: es) X.env = (false, eval e X.env) :: starEach es X.env := by rfl) (hpl : (backTo pos (starEach es X.env)).any (·.1) = false := by rfl)
    (ht : eval (.Call (.Attribute o mn apos) (e :: es) [] pos) X.env = (do
      let ov ← eval o X.env
      standAt apos.atName
      let (f, first) ← holding [ov] (getMethod ov mn pl)
      callWith pos f first (backTo pos (starEach (e :: es) X.env)) (backToKw pos (keywordEach [] X.env))) := by rfl) :
    PEx X (.Call (.Attribute o mn apos) (e :: es) [] pos) (xMeth Cs mn sp ta t) := by
  obtain ⟨f, fd, F, hm, kp, hb⟩ := G.ex
  intro pins s σ H Q E I h
  have z := ho pins s σ H _ (I.wish _) h
  refine PySem.W.methodCall_KW (pl := pl) (wpAny_mono z (fun u s1 ⟨x, H1, I1, rx, a, C, dx, fs, ex, ea, hC, l, q⟩ => ?_) fun _ _ y => y.elim) ht
  subst ex
  obtain rfl : u = Value.ref a := rx
  refine getmeth_ok I1.unwish ea (hm C hC).1 (hm C hC).2 l ?_
  have z2 := ha pos pins s1 σ H1 _ I1 q
  refine PySem.W.callWith_K (first := [.ref a]) (h₀ := X.base) I.ok.mod.kin kp (wpAny_mono z2 (fun us s2 ⟨vs, H2, I2, r, q2⟩ => ⟨I2.unwish.kIn, ?_⟩) fun _ _ y => y.elim) hst hpl
  exact run_fnx (us := .ref a :: us) (vs := .ref a :: vs) (ds := []) (dvs := []) F (hr.mono hk) hb .nil I2.unwish (.cons rfl r) (by simpa using q2)
end
end L2

set_option linter.all false
set_option maxHeartbeats 4000000
set_option maxRecDepth 100000
namespace L2
open PySem PySem.Spec PyProof.Rows
section
variable {X : Cx}
theorem op_notinU : OpR X (compareOp .NotIn) (rIn X.K true) := op_notIn_seq
theorem ps_tryAsC {pos hpos np : Pos} {x n : Str} {b0 : Stmt} {b suite : List Stmt} {D : Addr} {t : TX} {ts : TS} {i : Nat} (hN : X.N.Nodup) (hi : X.N[i]? = some n) (hl : X.env.scope.names.lookup n = some .local) (hcall : PB X b t) (hg : Gl X x) (hm : X.mg x = some (.ref D)) (hsu : ∀ e, PSs (X.inx e) (b0 :: suite) ts)
    (hex : X.ex = [] := by rfl) (hst : X.stack = X.env :: X.outer := by rfl) (hfl : X.env.frame = some X.env.locals := by rfl) (hdb : (x == ("__debug__" : Str)) = false := by decide) :
    PS X (.Try b [.ExceptHandler (some (.Name x np)) (some n) (b0 :: suite) hpos] [] [] pos) (tTryAs X.K D i t ts) := by
  intro pins s σ H Dn I h
  refine wpAny_Try_except (wpAny_mono (hcall pins s σ H _ _ I h) (fun f s1 ⟨e, y, H1, I1, q1⟩ => ?_) (fun ev s1 hx => ?_))
  · subst e
    exact wpAny_execs_nil ⟨σ, H1, I1, q1⟩
  · obtain ⟨H1, s0, I1, ea, cls, a0, B, H', rfl, hos, hb, u, hok, F, C, rfl, hcat, hq⟩ := hx
    have hfr : X.A.frames = some (X.env :: X.outer) := by rw [← hst]; exact I.ok.frames
    have F' := F.fly
    rw [hst] at F'
    refine wpAny_looks_onW hfr hfl F' fun h4 hheld hup4 => ?_
    refine wpAny_landsW hheld fun h5 hfl5 hup5 => ?_
    have hup := hup4.trans hup5
    have hfl5' := hfl5
    rw [← hst] at hfl5'
    have I5 := I1.landed hex u hok F hos hb hfl5' hup rfl
    obtain ⟨oe, vs, he, hc, _, _⟩ := hfl5.first
    refine wpAny_handleBy_cons (codeAny_handlers_test (ld_glob (X := X.inx ea) (I5.inx ea) hg hm ?_ hdb)) (by intro z; cases z)
    refine excMatches_K I5.kIn he hc hcat (codeAny_handlers_suite_as ?_)
    refine lands_againW hfl5 fun h6 hfl6 hup6 => ?_
    have hfl6' := hfl6
    rw [← hst] at hfl6'
    have I6 := I1.landed hex u hok F hos hb hfl6' (hup.trans hup6) rfl
    refine store_ok (X := X) (v := .ref ea) I6 hN hi (.inl hl) rfl (fun s7 I7 => ?_) (.inr hl)
    refine wpAny_mono (hsu ea pins s7 _ _ _ (I7.inx ea) (hq ea F.free)) (fun f s2 z => ?_) (fun _ _ z => z.elim)
    have goes : ∀ {σ' : St} {H2 : Hp} {R : Flow → Shared → Prop} {E2 : Value → Shared → Prop}, Inv (X.inx ea) pins σ' H2 s2 → (∀ s3, Inv X pins (σ'.set i none) H2 s3 → R f s3) →
        wpAny (model X.prog X.w) X.A (do bindName X.env n .none; unbindBehindTheSuite X.env n hpos) (fun _ s3 => R f s3) E2 s2 := fun {σ' H2 R E2} J k => by
      have J' := J.outx I.ok
      obtain ⟨m, hn, _⟩ := J'.loc
      refine wpAny_nameGoes_keeps hl hn (by rw [I.ok.kind]; rfl) fun h' v hn' hs' => k _ (J'.goes hN hi hs' hn hn' fun y hy => if_neg hy)
    cases f with
    | next => obtain ⟨σ', H2, J, q⟩ := z; exact goes J fun s3 J3 => ⟨_, _, J3, q⟩
    | brk => obtain ⟨σ', H2, J, q⟩ := z; exact goes J fun s3 J3 => ⟨_, _, J3, q⟩
    | cont => obtain ⟨σ', H2, J, q⟩ := z; exact goes J fun s3 J3 => ⟨_, _, J3, q⟩
    | ret v => obtain ⟨y, σ', H2, J, r, q⟩ := z; exact goes J fun s3 J3 => ⟨y, _, _, J3, r, q⟩
end
section
variable {σ : St} {H : Hp} {Q : VK} {E : XK} {ta td ty : TE} {ts : TA} {tc : TT} {t u : TX} {C : Addr} {sp : Sp} {Cs : Addr → Prop} {m : Str}
theorem y84y : xNil σ H Q E = Q .non H := rfl
theorem y85y : xSeq t u σ H Q E = t σ H (fun _ H1 => u σ H1 Q E) E := rfl
theorem y81y : xChoose tc t u σ H Q E = tc σ H fun b H1 => if b = true then t σ H1 Q E else u σ H1 Q E := rfl
theorem y82y : xMake C sp ts σ H Q E = ts σ H fun vs H1 => ∀ x dx, H1 x = none → H1 dx = none → dx ≠ x → sp (.ref x :: (vs ++ [])) (upd (upd H1 dx (.own x)) x (.ins C dx [])) (fun v H2 => v = .non ∧ Q (.ref x) H2) E := rfl
theorem y83y : xMeth Cs m sp ta ts σ H Q E = ta σ H fun x H1 => ∃ a C dx fs, x = .ref a ∧ H1 a = some (.ins C dx fs) ∧ Cs C ∧ fs.lookup m = none ∧ ts σ H1 fun vs H2 => sp (x :: vs) H2 Q E := rfl
theorem y7ey : tValsL td σ H Q = td σ H fun x H1 => ∃ d kvs, x = .ref d ∧ H1 d = some (.dK kvs) ∧ ∀ l, H1 l = none → Q (.ref l) (upd H1 l (.lst (kvs.map (·.2)))) := rfl
theorem y37y : tDIn ty td σ H Q = ty σ H fun y H1 => td σ H1 fun x H2 => ∃ a o, x = .ref a ∧ DGet H2 a y o ∧ Q (.bl o.isSome) H2 := rfl
theorem y3ay : tDNotIn ty td σ H Q = ty σ H fun y H1 => td σ H1 fun x H2 => ∃ a o, x = .ref a ∧ DGet H2 a y o ∧ Q (.bl (!o.isSome)) H2 := rfl
theorem y3by : tDPop1 td ty σ H Q = td σ H fun x H1 => ∃ a, x = .ref a ∧ IsD H1 a ∧ ty σ H1 fun y H2 => ∃ kvs k v, H2 a = some (.dK kvs) ∧ y = kV k ∧ valV kvs k = some v ∧ Q v (upd H2 a (.dK (dropK kvs k))) := rfl
end
section
variable {α κ : Type} [DecidableEq κ] {f : α → κ} {k : κ} {u y : α}
theorem rep_set : ∀ {l : List α} {i : Nat}, (l.map f).Nodup → l[i]? = some u → f u = k → l.map (fun a => if f a = k then y else a) = l.set i y
  | [], i, _, h, _ => by simp at h
  | a :: l, 0, hn, h, hk => by
    simp at h
    subst h
    rw [List.map_cons, List.nodup_cons] at hn
    rw [List.map_cons, if_pos hk, List.set_cons_zero]
    congr 1
    refine (List.map_congr_left fun b hb => if_neg fun z => hn.1 ?_).trans (List.map_id _)
    rw [hk, ← z]
    exact List.mem_map_of_mem hb
  | a :: l, i + 1, hn, h, hk => by
    rw [List.getElem?_cons_succ] at h
    rw [List.map_cons, List.nodup_cons] at hn
    have ne : f a ≠ k := fun z => hn.1 (by rw [z, ← hk]; exact List.mem_map_of_mem (List.mem_of_getElem? h))
    rw [List.map_cons, if_neg ne, List.set_cons_succ, rep_set hn.2 h hk]
theorem fil_erase : ∀ {l : List α} {i : Nat}, (l.map f).Nodup → l[i]? = some u → f u = k → l.filter (fun a => decide (f a ≠ k)) = l.eraseIdx i
  | [], i, _, h, _ => by simp at h
  | a :: l, 0, hn, h, hk => by
    simp at h
    subst h
    rw [List.map_cons, List.nodup_cons] at hn
    rw [List.filter_cons_of_neg (by simp [hk]), List.eraseIdx_cons_zero]
    refine List.filter_eq_self.mpr fun b hb => decide_eq_true fun z => hn.1 ?_
    rw [hk, ← z]
    exact List.mem_map_of_mem hb
  | a :: l, i + 1, hn, h, hk => by
    rw [List.getElem?_cons_succ] at h
    rw [List.map_cons, List.nodup_cons] at hn
    have ne : f a ≠ k := fun z => hn.1 (by rw [z, ← hk]; exact List.mem_map_of_mem (List.mem_of_getElem? h))
    rw [List.filter_cons_of_pos (by simp [ne]), List.eraseIdx_cons_succ, fil_erase hn.2 h hk]
end
section
variable {α : Type} {P : α → V → Prop}
theorem All2.set : ∀ {as : List α} {xs : List V} {i : Nat} {a : α} {x : V}, All2 P as xs → P a x → All2 P (as.set i a) (xs.set i x)
  | [], xs, i, a, x, h, _ => by
    have : xs = [] := h
    subst this
    simp
    exact h
  | b :: as, xs, 0, a, x, h, p => by
    obtain ⟨y, r, rfl, _, h2⟩ := h
    exact ⟨x, r, rfl, p, h2⟩
  | b :: as, xs, i + 1, a, x, h, p => by
    obtain ⟨y, r, rfl, h1, h2⟩ := h
    exact ⟨y, r.set i x, rfl, h1, All2.set h2 p⟩
theorem All2.erase : ∀ {as : List α} {xs : List V} {i : Nat}, All2 P as xs → All2 P (as.eraseIdx i) (xs.eraseIdx i)
  | [], xs, i, h => by
    have : xs = [] := h
    subst this
    simp
    exact h
  | b :: as, xs, 0, h => by
    obtain ⟨y, r, rfl, _, h2⟩ := h
    exact h2
  | b :: as, xs, i + 1, h => by
    obtain ⟨y, r, rfl, h1, h2⟩ := h
    exact ⟨y, r.eraseIdx i, rfl, h1, All2.erase h2⟩
end
end L2
namespace L2
open PySem PySem.Spec PyProof.Rows Ch
abbrev nms (ts : List TD) : List Str := ts.map (·.nm)
def putT (ts : List TD) (t : TD) : List TD := if t.nm ∈ nms ts then ts.map (fun u => if u.nm = t.nm then t else u) else ts ++ [t]
def dropT (ts : List TD) (z : Str) : List TD := ts.filter fun u => decide (u.nm ≠ z)
/-- a dict that has the ties by their names -/
def BD (P : TD → V → Prop) (ts : List TD) (kvs : List (Key × V)) : Prop := kvs.map (·.1) = ts.map (fun t => Sum.inr t.nm) ∧ All2 P ts (kvs.map (·.2))
section
variable {P P' : TD → V → Prop} {ts : List TD} {kvs : List (Key × V)} {t : TD} {v : V}
theorem BD.mono (h : BD P ts kvs) (m : ∀ a x, P a x → P' a x) : BD P' ts kvs := ⟨h.1, h.2.mono m⟩
theorem BD.length (h : BD P ts kvs) : kvs.length = ts.length := by simpa using congrArg List.length h.1
theorem BD.cons : BD P (t :: ts) kvs ↔ ∃ w r, kvs = (Sum.inr t.nm, w) :: r ∧ P t w ∧ BD P ts r := by
  constructor
  · rintro ⟨h1, h2⟩
    match kvs, h1, h2 with
    | (k, w) :: r, h1, h2 =>
      rw [List.map_cons, List.map_cons, List.cons.injEq] at h1
      obtain ⟨y, r', e, p, h2⟩ := h2
      rw [List.map_cons, List.cons.injEq] at e
      obtain ⟨rfl, rfl⟩ := e
      obtain ⟨h0, h1⟩ := h1
      have h0 : k = Sum.inr t.nm := h0
      subst h0
      exact ⟨_, r, rfl, p, h1, h2⟩
  · rintro ⟨w, r, rfl, p, h⟩
    exact ⟨by rw [List.map_cons, List.map_cons, h.1], w, r.map (·.2), rfl, p, h.2⟩
theorem BD.nil : BD P [] kvs ↔ kvs = [] := by
  constructor
  · rintro ⟨h, _⟩
    simpa using h
  · rintro rfl
    exact ⟨rfl, rfl⟩
theorem BD.any : ∀ {ts : List TD} {kvs : List (Key × V)} {z : Str}, BD P ts kvs → (kvs.any fun kv => decide (kv.1 = Sum.inr z)) = decide (z ∈ nms ts)
  | [], kvs, z, h => by rw [BD.nil.mp h]; simp
  | t :: ts, kvs, z, h => by
    obtain ⟨w, r, rfl, _, h⟩ := BD.cons.mp h
    rw [List.any_cons, BD.any h]
    by_cases c : t.nm = z
    · subst c
      simp
    · have c1 : (Sum.inr t.nm : Key) ≠ Sum.inr z := fun e => c (by injection e)
      have c2 : z ≠ t.nm := fun e => c e.symm
      simp [c1, c2]
theorem BD.val : ∀ {ts : List TD} {kvs : List (Key × V)} {z : Str}, BD P ts kvs → (valV kvs (Sum.inr z)).isSome = decide (z ∈ nms ts)
  | [], kvs, z, h => by rw [BD.nil.mp h]; rfl
  | t :: ts, kvs, z, h => by
    obtain ⟨w, r, rfl, _, h⟩ := BD.cons.mp h
    by_cases c : t.nm = z
    · subst c
      rw [valV_pos rfl]
      simp
    · have c1 : (Sum.inr t.nm : Key) ≠ Sum.inr z := fun e => c (by injection e)
      have c2 : z ≠ t.nm := fun e => c e.symm
      have e : valV ((Sum.inr t.nm, w) :: r) (Sum.inr z) = valV r (Sum.inr z) := by simp [valV, List.find?_cons, c1]
      rw [e, BD.val h]
      simp [c2]
theorem BD.rep : ∀ {ts : List TD} {kvs : List (Key × V)}, BD P ts kvs → P t v → BD P (ts.map fun u => if u.nm = t.nm then t else u) (kvs.map fun kv => if kv.1 = Sum.inr t.nm then (kv.1, v) else kv)
  | [], kvs, h, _ => by rw [BD.nil.mp h]; exact ⟨rfl, rfl⟩
  | s :: ts, kvs, h, p => by
    obtain ⟨w, r, rfl, q, h⟩ := BD.cons.mp h
    by_cases c : s.nm = t.nm
    · rw [List.map_cons, List.map_cons, if_pos c, if_pos (by rw [c]), c]
      exact BD.cons.mpr ⟨v, _, rfl, p, BD.rep h p⟩
    · have c1 : (Sum.inr s.nm : Key) ≠ Sum.inr t.nm := fun e => c (by injection e)
      rw [List.map_cons, List.map_cons, if_neg c, if_neg c1]
      exact BD.cons.mpr ⟨w, _, rfl, q, BD.rep h p⟩
theorem BD.app (h : BD P ts kvs) (p : P t v) : BD P (ts ++ [t]) (kvs ++ [(Sum.inr t.nm, v)]) := ⟨by rw [List.map_append, List.map_append, h.1]; rfl, by rw [List.map_append]; exact h.2.append (.one p)⟩
theorem BD.put (h : BD P ts kvs) (p : P t v) : BD P (putT ts t) (putK kvs (Sum.inr t.nm) v) := by
  unfold putT putK
  rw [h.any]
  by_cases c : t.nm ∈ nms ts
  · rw [if_pos c, if_pos (by simpa using c)]
    exact h.rep p
  · rw [if_neg c, if_neg (by simpa using c)]
    exact h.app p
theorem BD.drop : ∀ {ts : List TD} {kvs : List (Key × V)} {z : Str}, BD P ts kvs → BD P (dropT ts z) (dropK kvs (Sum.inr z))
  | [], kvs, z, h => by rw [BD.nil.mp h]; exact ⟨rfl, rfl⟩
  | s :: ts, kvs, z, h => by
    obtain ⟨w, r, rfl, q, h⟩ := BD.cons.mp h
    unfold dropT dropK
    by_cases c : s.nm = z
    · subst c
      rw [List.filter_cons_of_neg (by simp), List.filter_cons_of_neg (by simp)]
      exact BD.drop h
    · have c1 : (Sum.inr s.nm : Key) ≠ Sum.inr z := fun e => c (by injection e)
      rw [List.filter_cons_of_pos (by simpa using c), List.filter_cons_of_pos (by simpa using c1)]
      exact BD.cons.mpr ⟨w, _, rfl, q, BD.drop h⟩
end
/-- what making a book of rows comes to -/
inductive BR
  | ok (ts : List TD)
  | noTie
  | twice
def bookW : List TD → List (TD ⊕ D) → BR
  | acc, [] => .ok acc
  | _, .inr _ :: _ => .noTie
  | acc, .inl t :: r => if t.nm ∈ nms acc then .twice else bookW (acc ++ [t]) r
theorem bookW_app : ∀ (ts acc : List TD) (r : List (TD ⊕ D)), (nms (acc ++ ts)).Nodup → bookW acc (ts.map Sum.inl ++ r) = bookW (acc ++ ts) r
  | [], acc, r, _ => by simp
  | t :: ts, acc, r, hn => by
    have hn' : (nms ((acc ++ [t]) ++ ts)).Nodup := by simpa using hn
    have ne : t.nm ∉ nms acc := by
      have h2 := hn
      rw [nms, List.map_append, List.map_cons, List.nodup_append] at h2
      exact fun z => h2.2.2 _ z _ (by simp) rfl
    rw [List.map_cons, List.cons_append, bookW, if_neg ne, bookW_app ts (acc ++ [t]) r hn', List.append_assoc]
    rfl
end L2

set_option linter.all false
set_option maxHeartbeats 4000000
set_option maxRecDepth 100000
namespace L2
open PySem PySem.Spec PyProof.Rows Ch
def nameL : List Str := ["a", "aa", "aaa", "b", "ab", "zzzzzzzz"]
def fcL : List Str := ["a", "ab", "abc", "b", "ba", "q"]
theorem nameL_ok : ∀ z ∈ nameL, nameS z = true := by decide
theorem fcL_ok : ∀ z ∈ fcL, nameS z = true := by decide
theorem fcL_tab : ∀ j, j < 6 → ∀ k, k < 6 → fcL[j]? = fcL[k]? → j = k := by decide
theorem one_ok {n : Int} (h : Mth.Sz 200 n) : FOk 200 (n, 1) := ⟨h, .lit (i := 1) (by decide) (by decide), Int.le_refl _, by show Mth.g n 1 = 1; unfold Mth.g; simp⟩
theorem sub_len {α : Type} [DecidableEq α] : ∀ (l m : List α), l.Nodup → l ⊆ m → l.length ≤ m.length
  | [], m, _, _ => by simp
  | a :: l, m, hn, hs => by
    rw [List.nodup_cons] at hn
    have ha : a ∈ m := hs (by simp)
    have := sub_len l (m.erase a) hn.2 fun x hx => (List.mem_erase_of_ne (show x ≠ a from fun e => hn.1 (e ▸ hx))).mpr (hs (by simp [hx]))
    rw [List.length_erase_of_mem ha] at this
    have := List.length_pos_of_mem ha
    rw [List.length_cons]
    omega
/-- ties of a book of the law -/
structure Good (ts : List TD) : Prop where
  nd : (nms ts).Nodup
  ok : ∀ t ∈ ts, TOk t
  nm : ∀ t ∈ ts, t.nm ∈ nameL
theorem Good.len {ts : List TD} (g : Good ts) : ts.length ≤ 6 := by
  have := sub_len (nms ts) nameL g.nd fun z hz => by
    obtain ⟨t, ht, rfl⟩ := List.mem_map.mp hz
    exact g.nm t ht
  rw [List.length_map] at this
  exact this
theorem putT_nms {ts : List TD} {t : TD} (h : t.nm ∈ nms ts) : nms (putT ts t) = nms ts := by
  unfold putT
  rw [if_pos h]
  unfold nms
  rw [List.map_map]
  refine List.map_congr_left fun u _ => ?_
  show (if u.nm = t.nm then t else u).nm = u.nm
  split
  · rename_i e
    exact e.symm
  · rfl
theorem putT_mem {ts : List TD} {t u : TD} (h : u ∈ putT ts t) : u = t ∨ u ∈ ts := by
  unfold putT at h
  split at h
  · obtain ⟨w, hw, rfl⟩ := List.mem_map.mp h
    split
    · exact .inl rfl
    · exact .inr hw
  · rcases List.mem_append.mp h with h | h
    · exact .inr h
    · exact .inl (List.mem_singleton.mp h)
theorem Good.put {ts : List TD} {t : TD} (g : Good ts) (ok : TOk t) (hn : t.nm ∈ nameL) : Good (putT ts t) where
  nd := by
    by_cases c : t.nm ∈ nms ts
    · rw [putT_nms c]
      exact g.nd
    · unfold putT
      rw [if_neg c]
      unfold nms
      rw [List.map_append, List.nodup_append]
      refine ⟨g.nd, by simp, fun a ha b hb => ?_⟩
      rw [List.map_cons, List.map_nil, List.mem_singleton] at hb
      rw [hb]
      exact fun e => c (e ▸ ha)
  ok := fun u hu => by
    rcases putT_mem hu with rfl | hu
    · exact ok
    · exact g.ok u hu
  nm := fun u hu => by
    rcases putT_mem hu with rfl | hu
    · exact hn
    · exact g.nm u hu
theorem Good.drop {ts : List TD} {z : Str} (g : Good ts) : Good (dropT ts z) where
  nd := by
    have : (nms (dropT ts z)).Sublist (nms ts) := List.Sublist.map _ List.filter_sublist
    exact g.nd.sublist this
  ok := fun u hu => g.ok u (List.mem_filter.mp hu).1
  nm := fun u hu => g.nm u (List.mem_filter.mp hu).1
theorem nd_first {ss : List Str} {j : Nat} {z : Str} (hn : ss.Nodup) (h : ss[j]? = some z) : ∀ m, m < j → ss[m]? ≠ some z := fun m hm e => by
  have lj := (List.getElem?_eq_some_iff.mp h).1
  have := (List.getElem?_inj (i := m) (j := j) (by omega) hn).mp (e.trans h.symm)
  omega
theorem putT_set {ts : List TD} {t u : TD} {i : Nat} (hn : (nms ts).Nodup) (hi : ts[i]? = some u) (hk : u.nm = t.nm) : putT ts t = ts.set i t := by
  unfold putT
  rw [if_pos (by rw [← hk]; exact List.mem_map_of_mem (f := (·.nm)) (List.mem_of_getElem? hi))]
  exact rep_set (f := fun u : TD => u.nm) hn hi hk
theorem dropT_erase {ts : List TD} {u : TD} {z : Str} {i : Nat} (hn : (nms ts).Nodup) (hi : ts[i]? = some u) (hk : u.nm = z) : dropT ts z = ts.eraseIdx i := fil_erase (f := fun u : TD => u.nm) hn hi hk
end L2

open PySem L2
local macro_rules | `(tactic| infer_instance) => `(tactic| simp only [y71y, y44y, y45y, y46y, y62y, y2ay, y5dy, y6fy, y70y, y3dy, y2cy, y69y, y7dy, y2ey, y34y, y63y, y2dy, y76y, y23y, y28y, y6ay, y65y, y29y, y6by, y67y, y4ey, y7fy, y26y, y75y, y61y, y5ay, y41y, y59y, y6dy, y31y, y3fy, y5fy, y40y, y60y, y3ey, y5ey, y78y, y55y, y51y, y7ay, y7cy, y79y, y7by, y25y, y58y, y24y, true_and, if_true, if_false, Bool.not_true, Bool.not_false, Bool.false_eq_true, yby, ydy, yay, ycy, yey, y15y, y17y, y14y, y16y, y18y, y6y, y8y, y5y, y7y, y9y, y1y, y3y, y0y, y2y, y4y, y10y, y12y, yfy, y11y, y13y, y1ay, y1cy, y19y, y1by, y1dy, y1fy, y21y, y1ey, y20y, y22y, y73y, y6cy, y64y, y2fy, y30y, y48y, y53y, y54y, y43y, y74y, y77y, y80y, y6ey, y27y, V.int.injEq, V.str.injEq, List.set_cons_zero, List.set_cons_succ, List.getElem?_cons_zero, List.getElem?_cons_succ, Option.some.injEq, exists_eq_left, exists_eq_left', V.bl.injEq, Int.reduceToNat, Int.reducePow, List.append_nil, List.nil_append, List.cons_append, y4ay, y4cy, y2by, y5by, y50y, y66y, y56y, y57y, y35y, y36y, y3cy, y39y, y38y, y47y, y32y, y33y, y84y, y85y, y81y, y82y, y83y, y7ey, y37y, y3ay, y3by, reduceCtorEq, decide_false, decide_true])
namespace Prg
open PySem L2 Ch
def top (i : Nat) : Stmt := PySem.Challenge.pw_slackchain_k31_books_changed.main.body.getD i (.Pass ⟨0, 0, 0, 0⟩)
structure Adr where
  SlackError : Addr
  NoTie : Addr
  Twice : Addr
  NoName : Addr
  Tie : Addr
  Free : Addr
  AtLeast : Addr
  AtMost : Addr
  Just : Addr
  Between : Addr
  Book : Addr
  SMALL_LETTERS : Value
  LONGEST_NAME : Value

structure TieC (K : PySem.W.Frag) (C : Addr) : Prop where
  cls : Cls K C
  n1 : NoAttr K C "name"
  n2 : NoAttr K C "start"
  n3 : NoAttr K C "end"
  n4 : NoAttr K C "least"
  n5 : NoAttr K C "greatest"
def IsTie (Ad : Adr) (C : Addr) : Prop := C = Ad.Free ∨ C = Ad.AtLeast ∨ C = Ad.AtMost ∨ C = Ad.Just ∨ C = Ad.Between
def TieV (H : Hp) (v : V) (C : Addr) (n s e l g : V) : Prop := ∃ p dx, v = .ref p ∧ H p = some (.ins C dx (tieF n s e l g))
def kindC (Ad : Adr) (l g : D) : Addr := if nonD l then (if nonD g then Ad.Free else Ad.AtMost) else if nonD g then Ad.AtLeast else if eqD l g then Ad.Just else Ad.Between
theorem kind_is (Ad : Adr) (l g : D) : IsTie Ad (kindC Ad l g) := by
  unfold kindC IsTie
  split
  · split
    · exact .inl rfl
    · exact .inr (.inr (.inl rfl))
  · split
    · exact .inr (.inl rfl)
    · split
      · exact .inr (.inr (.inr (.inl rfl)))
      · exact .inr (.inr (.inr (.inr rfl)))
theorem SqT.put {K : PySem.W.Frag} {H : Hp} {x a C dx : Addr} {fs fs' : List (Str × V)} {xs : List V} (hx : H x = some (.ins C dx fs)) (h : SqT K H a xs) : SqT K (upd H x (.ins C dx fs')) a xs := by
  rcases h with (h | ⟨o, h⟩) | h
  · exact .inl (.inl (by rw [upd_ne (ne_of h hx (by intro z; cases z))]; exact h))
  · exact .inl (.inr ⟨o, by rw [upd_ne (ne_of h hx (by intro z; cases z))]; exact h⟩)
  · exact .inr h
theorem TieV.same {H H' : Hp} {v : V} {C : Addr} {n s e l g : V} (S : Same H H') (h : TieV H v C n s e l g) : TieV H' v C n s e l g := by
  obtain ⟨p, dx, a, b⟩ := h
  exact ⟨p, dx, a, S _ _ b⟩

structure BookC (K : PySem.W.Frag) (C : Addr) : Prop where
  cls : Cls K C
  n1 : NoAttr K C "by_name"
def IsBook (Ad : Adr) (C : Addr) : Prop := C = Ad.Book

structure Txt (K : PySem.W.Frag) (mg : Str → Option Value) (Ad : Adr) : Prop where
  n_abs : mg "abs" = none
  n_isinstance : mg "isinstance" = none
  n_len : mg "len" = none
  n_all : mg "all" = none
  n_int : mg "int" = none
  n_bool : mg "bool" = none
  n_tuple : mg "tuple" = none
  n_str : mg "str" = none
  n_range : mg "range" = none
  n_list : mg "list" = none
  n_sorted : mg "sorted" = none
  n_set : mg "set" = none
  n_ValueError : mg "ValueError" = none
  m_SlackError : mg "SlackError" = some (.ref Ad.SlackError)
  m_NoTie : mg "NoTie" = some (.ref Ad.NoTie)
  m_Twice : mg "Twice" = some (.ref Ad.Twice)
  m_NoName : mg "NoName" = some (.ref Ad.NoName)
  m_Tie : mg "Tie" = some (.ref Ad.Tie)
  m_Free : mg "Free" = some (.ref Ad.Free)
  m_AtLeast : mg "AtLeast" = some (.ref Ad.AtLeast)
  m_AtMost : mg "AtMost" = some (.ref Ad.AtMost)
  m_Just : mg "Just" = some (.ref Ad.Just)
  m_Between : mg "Between" = some (.ref Ad.Between)
  m_Book : mg "Book" = some (.ref Ad.Book)
  m_SMALL_LETTERS : mg "SMALL_LETTERS" = some Ad.SMALL_LETTERS
  r_SMALL_LETTERS : RelV (.str "abcdefghijklmnopqrstuvwxyz") Ad.SMALL_LETTERS
  m_LONGEST_NAME : mg "LONGEST_NAME" = some Ad.LONGEST_NAME
  r_LONGEST_NAME : RelV (.int 8) Ad.LONGEST_NAME
  x_NoTie : PySem.W.excIn K Ad.NoTie [.type "ValueError", .type "Exception", .type "BaseException", .type "object"] "ValueError.__new__" = true
  x_Twice : PySem.W.excIn K Ad.Twice [.type "ValueError", .type "Exception", .type "BaseException", .type "object"] "ValueError.__new__" = true
  x_NoName : PySem.W.excIn K Ad.NoName [.type "ValueError", .type "Exception", .type "BaseException", .type "object"] "ValueError.__new__" = true
  cl1_Free : PySem.W.plainGet K Ad.Free Str.empty = true
  cl2_Free : PySem.W.hasDictIn K Ad.Free = true
  cl3_Free : PySem.W.plainOver K Ad.Free = true
  cl4_Free : PySem.W.findIn K (.ref Ad.Free) "__setattr__" = some (some (.builtin "object.__setattr__"))
  na1_Free : PySem.W.findIn K (.ref Ad.Free) "name" = some none
  na2_Free : PySem.W.findIn K (.ref Ad.Free) "start" = some none
  na3_Free : PySem.W.findIn K (.ref Ad.Free) "end" = some none
  na4_Free : PySem.W.findIn K (.ref Ad.Free) "least" = some none
  na5_Free : PySem.W.findIn K (.ref Ad.Free) "greatest" = some none
  cl1_AtLeast : PySem.W.plainGet K Ad.AtLeast Str.empty = true
  cl2_AtLeast : PySem.W.hasDictIn K Ad.AtLeast = true
  cl3_AtLeast : PySem.W.plainOver K Ad.AtLeast = true
  cl4_AtLeast : PySem.W.findIn K (.ref Ad.AtLeast) "__setattr__" = some (some (.builtin "object.__setattr__"))
  na1_AtLeast : PySem.W.findIn K (.ref Ad.AtLeast) "name" = some none
  na2_AtLeast : PySem.W.findIn K (.ref Ad.AtLeast) "start" = some none
  na3_AtLeast : PySem.W.findIn K (.ref Ad.AtLeast) "end" = some none
  na4_AtLeast : PySem.W.findIn K (.ref Ad.AtLeast) "least" = some none
  na5_AtLeast : PySem.W.findIn K (.ref Ad.AtLeast) "greatest" = some none
  cl1_AtMost : PySem.W.plainGet K Ad.AtMost Str.empty = true
  cl2_AtMost : PySem.W.hasDictIn K Ad.AtMost = true
  cl3_AtMost : PySem.W.plainOver K Ad.AtMost = true
  cl4_AtMost : PySem.W.findIn K (.ref Ad.AtMost) "__setattr__" = some (some (.builtin "object.__setattr__"))
  na1_AtMost : PySem.W.findIn K (.ref Ad.AtMost) "name" = some none
  na2_AtMost : PySem.W.findIn K (.ref Ad.AtMost) "start" = some none
  na3_AtMost : PySem.W.findIn K (.ref Ad.AtMost) "end" = some none
  na4_AtMost : PySem.W.findIn K (.ref Ad.AtMost) "least" = some none
  na5_AtMost : PySem.W.findIn K (.ref Ad.AtMost) "greatest" = some none
  cl1_Just : PySem.W.plainGet K Ad.Just Str.empty = true
  cl2_Just : PySem.W.hasDictIn K Ad.Just = true
  cl3_Just : PySem.W.plainOver K Ad.Just = true
  cl4_Just : PySem.W.findIn K (.ref Ad.Just) "__setattr__" = some (some (.builtin "object.__setattr__"))
  na1_Just : PySem.W.findIn K (.ref Ad.Just) "name" = some none
  na2_Just : PySem.W.findIn K (.ref Ad.Just) "start" = some none
  na3_Just : PySem.W.findIn K (.ref Ad.Just) "end" = some none
  na4_Just : PySem.W.findIn K (.ref Ad.Just) "least" = some none
  na5_Just : PySem.W.findIn K (.ref Ad.Just) "greatest" = some none
  cl1_Between : PySem.W.plainGet K Ad.Between Str.empty = true
  cl2_Between : PySem.W.hasDictIn K Ad.Between = true
  cl3_Between : PySem.W.plainOver K Ad.Between = true
  cl4_Between : PySem.W.findIn K (.ref Ad.Between) "__setattr__" = some (some (.builtin "object.__setattr__"))
  na1_Between : PySem.W.findIn K (.ref Ad.Between) "name" = some none
  na2_Between : PySem.W.findIn K (.ref Ad.Between) "start" = some none
  na3_Between : PySem.W.findIn K (.ref Ad.Between) "end" = some none
  na4_Between : PySem.W.findIn K (.ref Ad.Between) "least" = some none
  na5_Between : PySem.W.findIn K (.ref Ad.Between) "greatest" = some none
  bk1 : PySem.W.plainGet K Ad.Book Str.empty = true
  bk2 : PySem.W.hasDictIn K Ad.Book = true
  bk3 : PySem.W.plainOver K Ad.Book = true
  bk4 : PySem.W.findIn K (.ref Ad.Book) "__setattr__" = some (some (.builtin "object.__setattr__"))
  bkn : PySem.W.findIn K (.ref Ad.Book) "by_name" = some none
  y1 : PySem.W.hasDictIn K Ad.SlackError = true
  y2 : PySem.W.typeIn K (.ref Ad.SlackError) = some (.type "type")
  y3 : PySem.W.mroIn K Ad.SlackError (.type "BaseException") = some true
  y4A : PySem.W.mroIn K Ad.NoTie (.ref Ad.SlackError) = some true
  xc1A : PySem.W.hasDictIn K Ad.NoTie = true
  xc2A : PySem.W.findIn K (.ref Ad.NoTie) "__getattribute__" = some (some (.builtin "BaseException.__getattribute__"))
  xc3A : PySem.W.findIn K (.ref Ad.NoTie) "__getattr__" = some none
  xc4A : PySem.W.findIn K (.ref Ad.NoTie) "__class__" = some (some (.builtin "object.__class__"))
  xc7A : PySem.W.mroIn K Ad.NoTie (.type "object") = some true
  xc8A : PySem.W.mroIn K Ad.NoTie (.type "BaseException") = some true
  kAA : PySem.W.kitOne K (.ref Ad.NoTie) (.ref Ad.NoTie) = some true
  kAB : PySem.W.kitOne K (.ref Ad.NoTie) (.ref Ad.NoName) = some false
  kAC : PySem.W.kitOne K (.ref Ad.NoTie) (.ref Ad.Twice) = some false
  kVA : PySem.W.kitOne K (.ref Ad.NoTie) (.type "ValueError") = some true
  y4B : PySem.W.mroIn K Ad.NoName (.ref Ad.SlackError) = some true
  xc1B : PySem.W.hasDictIn K Ad.NoName = true
  xc2B : PySem.W.findIn K (.ref Ad.NoName) "__getattribute__" = some (some (.builtin "BaseException.__getattribute__"))
  xc3B : PySem.W.findIn K (.ref Ad.NoName) "__getattr__" = some none
  xc4B : PySem.W.findIn K (.ref Ad.NoName) "__class__" = some (some (.builtin "object.__class__"))
  xc7B : PySem.W.mroIn K Ad.NoName (.type "object") = some true
  xc8B : PySem.W.mroIn K Ad.NoName (.type "BaseException") = some true
  kBA : PySem.W.kitOne K (.ref Ad.NoName) (.ref Ad.NoTie) = some false
  kBB : PySem.W.kitOne K (.ref Ad.NoName) (.ref Ad.NoName) = some true
  kBC : PySem.W.kitOne K (.ref Ad.NoName) (.ref Ad.Twice) = some false
  kVB : PySem.W.kitOne K (.ref Ad.NoName) (.type "ValueError") = some true
  y4C : PySem.W.mroIn K Ad.Twice (.ref Ad.SlackError) = some true
  xc1C : PySem.W.hasDictIn K Ad.Twice = true
  xc2C : PySem.W.findIn K (.ref Ad.Twice) "__getattribute__" = some (some (.builtin "BaseException.__getattribute__"))
  xc3C : PySem.W.findIn K (.ref Ad.Twice) "__getattr__" = some none
  xc4C : PySem.W.findIn K (.ref Ad.Twice) "__class__" = some (some (.builtin "object.__class__"))
  xc7C : PySem.W.mroIn K Ad.Twice (.type "object") = some true
  xc8C : PySem.W.mroIn K Ad.Twice (.type "BaseException") = some true
  kCA : PySem.W.kitOne K (.ref Ad.Twice) (.ref Ad.NoTie) = some false
  kCB : PySem.W.kitOne K (.ref Ad.Twice) (.ref Ad.NoName) = some false
  kCC : PySem.W.kitOne K (.ref Ad.Twice) (.ref Ad.Twice) = some true
  kVC : PySem.W.kitOne K (.ref Ad.Twice) (.type "ValueError") = some true
  xc5 : PySem.W.specialIn K (.builtin "object.__class__") "__get__" = some (some (.builtin "getset_descriptor.__get__"))
  xc6 : PySem.W.takesIn K (.builtin "object.__class__") = some true
  tie : ∀ C, IsTie Ad C → TieC K C
  book : ∀ C, IsBook Ad C → BookC K C

/-- whether the fraction a / b keeps the bounds -/
def holdsB (dl dg : D) (a b : Int) : Bool := !lessD (.tup [.int a, .int b]) dl && !lessD dg (.tup [.int a, .int b])
def negD : D → D
  | .tup [.int a, .int b] => .tup [.int (-a), .int b]
  | d => d
def stepsD (ds de dl dg : D) : List D := (if nonD dg then [] else [.tup [ds, de, dg, .bl true]]) ++ (if nonD dl then [] else [.tup [de, ds, negD dl, .bl false]])
/-- a tie's bounds as they lie in the heap -/
structure Bnd (K : PySem.W.Frag) (H : Hp) (d : D) (v : V) : Prop where
  rep : Rep K H d v
  ok : boundB d = true
  sz : szD d
theorem Bnd.same {K : PySem.W.Frag} {H H' : Hp} {d : D} {v : V} (S : Same H H') (b : Bnd K H d v) : Bnd K H' d v := ⟨b.rep.same S, b.ok, b.sz⟩
theorem Bnd.frac {K : PySem.W.Frag} {H : Hp} {d : D} {v : V} (b : Bnd K H d v) (h : nonD d = false) : ∃ x y, d = .tup [.int x, .int y] ∧ 1 ≤ y ∧ Mth.g x y = 1 ∧ FrV K H v x y ∧ Mth.Sz 4000 x ∧ Mth.Sz 4000 y := by
  have f : fracB d = true := by have := b.ok; cases d <;> first | exact this | (simp [nonD] at h)
  obtain ⟨x, y, rfl, h1, h2⟩ := frac_shape f
  have sz := b.sz
  simp only [szD, szL] at sz
  exact ⟨x, y, rfl, h1, h2, FrV.of_rep b.rep, sz.1, sz.2.1⟩


section
variable {K : PySem.W.Frag} {H : Hp}
theorem repS {z : Str} : Rep K H (.str z) (.str z) := by simp only [Rep]
end
theorem steps_pD (t : TD) : stepsD (.str t.st) (.str t.en) (bD t.lo) (bD t.hi) = (Ch.steps t).map pD := by
  unfold stepsD Ch.steps fwd bwd
  cases t.lo <;> cases t.hi <;> simp [bD, frD, nonD, negD, pD]
theorem bnd_of {K : PySem.W.Frag} {H : Hp} {o : Option (Int × Int)} {v : V} (h : BV K H o v) (k : ∀ a, o = some a → FOk 200 a) : Bnd K H (bD o) v := ⟨h.rep, (bD_ok k).1, (bD_ok k).2⟩

/-- a tie as an object -/
def OV (K : PySem.W.Frag) (Ad : Adr) (H : Hp) (t : TD) (v : V) : Prop := ∃ C vl vg, TieV H v C (.str t.nm) (.str t.st) (.str t.en) vl vg ∧ IsTie Ad C ∧ BV K H t.lo vl ∧ BV K H t.hi vg
theorem OV.same {K : PySem.W.Frag} {Ad : Adr} {H H' : Hp} {t : TD} {v : V} (S : Same H H') : OV K Ad H t v → OV K Ad H' t v := fun ⟨C, vl, vg, h1, h2, h3, h4⟩ => ⟨C, vl, vg, h1.same S, h2, h3.sameT S.t, h4.sameT S.t⟩
theorem holds_ok {lo hi : Option (Int × Int)} {a : Int × Int} : holdsB (bD lo) (bD hi) a.1 a.2 = okB lo hi a := by
  unfold holdsB okB
  cases lo <;> cases hi <;> simp [bD, frD, lessD, lessF]

section
variable {K : PySem.W.Frag} {Ad : Adr} {H H' : Hp} {p d : Addr} {kvs : List (Key × V)} {ts : List TD}
/-- all but one object stay -/
def Sx (d : Addr) (H H' : Hp) : Prop := ∀ b u, b ≠ d → H b = some u → H' b = some u
theorem Same.sx (S : Same H H') : Sx d H H' := fun b u _ h => S b u h
theorem Sx.t (S : Sx d H H') (hd : H d = some (.dK kvs)) : SameT H H' := fun b u t h => S b u (fun z => by rw [z, hd] at h; cases h; simp [isTF] at t) h
theorem OV.sx {t : TD} {v : V} (S : Sx d H H') (hd : H d = some (.dK kvs)) : OV K Ad H t v → OV K Ad H' t v := fun ⟨C, vl, vg, ⟨q, dx, e, h1⟩, h2, h3, h4⟩ =>
  ⟨C, vl, vg, ⟨q, dx, e, S _ _ (fun z => by rw [z, hd] at h1; cases h1) h1⟩, h2, h3.sameT (S.t hd), h4.sameT (S.t hd)⟩
/-- a book: its object, its dict, its ties -/
def BK (K : PySem.W.Frag) (Ad : Adr) (H : Hp) (p d : Addr) (ts : List TD) : Prop := (∃ dx, H p = some (.ins Ad.Book dx [("by_name", .ref d)])) ∧ ∃ kvs, H d = some (.dK kvs) ∧ BD (OV K Ad H) ts kvs
theorem BK.same (S : Same H H') (h : BK K Ad H p d ts) : BK K Ad H' p d ts := by
  obtain ⟨⟨dx, e⟩, kvs, h1, h2⟩ := h
  exact ⟨⟨dx, S _ _ e⟩, kvs, S _ _ h1, h2.mono fun _ _ z => z.same S⟩
theorem BK.sl {l : Addr} {zs : List V} (h : BK K Ad H p d ts) (hl : H l = some (.lst zs)) (S : Sx l H H') : BK K Ad H' p d ts := by
  obtain ⟨⟨dx, h1⟩, kvs, h2, h3⟩ := h
  have st : SameT H H' := fun b u t h => S b u (fun z => by rw [z, hl] at h; cases h; simp [isTF] at t) h
  refine ⟨⟨dx, S _ _ (fun z => by rw [z, hl] at h1; cases h1) h1⟩, kvs, S _ _ (fun z => by rw [z, hl] at h2; cases h2) h2, h3.mono ?_⟩
  rintro t v ⟨C, vl, vg, ⟨q, dx, e, g1⟩, g2, g3, g4⟩
  exact ⟨C, vl, vg, ⟨q, dx, e, S _ _ (fun z => by rw [z, hl] at g1; cases g1) g1⟩, g2, g3.sameT st, g4.sameT st⟩
/-- a thing handed in: a tie, or what is none -/
def EV (K : PySem.W.Frag) (H : Hp) (e : TD ⊕ D) (x : V) : Prop := match e with
  | .inl t => TV K H t x ∧ TOk t
  | .inr c => Rep K H c x ∧ szD c ∧ tieB c = false
theorem EV.same {e : TD ⊕ D} {x : V} (S : Same H H') (h : EV K H e x) : EV K H' e x := by
  match e, h with
  | .inl t, h => exact ⟨h.1.sameT S.t, h.2⟩
  | .inr c, h => exact ⟨h.1.same S, h.2⟩
theorem evs : ∀ {ts : List TD} {xs : List V}, All2 (TV K H) ts xs → (∀ t ∈ ts, TOk t) → All2 (EV K H) (ts.map Sum.inl) xs
  | [], xs, h, _ => h
  | t :: ts, xs, h, hT => by
    obtain ⟨x, r, rfl, h1, h2⟩ := h
    exact ⟨x, r, rfl, ⟨h1, hT t (by simp)⟩, evs h2 fun u hu => hT u (by simp [hu])⟩
end

section
variable {P : Program} {w : World} {K : PySem.W.Frag} {mg : Str → Option Value} {base : Heap} {Ad : Adr}
abbrev s_common_divisor : Stmt := top 7
theorem sc_common_divisor : FnScope ["one", "other", "greater", "lesser", "rest"] ["one", "other"] (defScope s_common_divisor) := ⟨rfl, rfl, rfl, by decide +kernel, rfl, by decide +kernel, by decide +kernel⟩
def sp_common_divisor  : Sp := fun vs H Q E => ∃ (a b : Int), vs = [.int a, .int b] ∧ Q (.int (Mth.g a b)) H
theorem ok_common_divisor {f : Addr} {fd : FuncData} {dV : Value} (F : FunD K "common_divisor" "common_divisor" s_common_divisor dV f fd) (T : Txt K mg Ad)  : FnOk P w K mg base (CX1 P w) 1 f fd ["one", "other"] (sp_common_divisor) := by
  refine F.okn sc_common_divisor (fun vs H Q E h => ?_) (fun cdv A outer s H vs Q E hr h => ?_)
  · obtain ⟨a, b, rfl, _⟩ := h; rfl
  obtain ⟨a, b, rfl, h⟩ := h
  have hu := hr.units
  refine ⟨_, (pss_cons (ps_set (i := 2) sc_common_divisor.nd rfl (Or.inl rfl) (pe_callB call_absU rfl T.n_abs bt_abs (pa_cons (pv 0) pa_nil)))
      (pss_cons (ps_set (i := 3) sc_common_divisor.nd rfl (Or.inl rfl) (pe_callB call_absU rfl T.n_abs bt_abs (pa_cons (pv 1) pa_nil)))
      (pss_cons (ps_while PassesOwn.never (pt_cmpR (op_neU hu) (pv 3) pe_int (nomark _))
      (pss_cons (ps_set (i := 4) sc_common_divisor.nd rfl (Or.inl rfl) (pe_op op_modU (pv 2) (pv 3)))
      (pss_cons (ps_set (i := 2) sc_common_divisor.nd rfl (Or.inl rfl) (pv 3))
      (pss_one (ps_set (i := 3) sc_common_divisor.nd rfl (Or.inl rfl) (pv 4))))))
      (pss_one (ps_ret (pv 2)))))), ?_⟩
  show tSeq _ _ _ [some (.int a), some (.int b), none, none, none] H
  try infer_instance
  refine ⟨fun m σ H' => ∃ (x y : Int) (z : Option V), σ = [some (.int a), some (.int b), some (.int x), some (.int y), z] ∧ H' = H ∧ 0 ≤ x ∧ 0 ≤ y ∧ Mth.g x y = Mth.g a b ∧ y.toNat = m, ⟨_, _, _, none, rfl, rfl, Mth.abs_nn a, Mth.abs_nn b, Mth.g_abs a b, rfl⟩, ?_⟩
  rintro m σ H' ⟨x, y, z, rfl, rfl, hx, hy, hg, rfl⟩
  try infer_instance
  by_cases c : y = 0
  · subst c
    rw [if_neg (by simp)]
    have e : Mth.g a b = x := by rw [← hg, Mth.g_zero]; omega
    rw [e] at h
    exact h
  · rw [if_pos (by simp [c])]
    have f := Mth.fm (x := x) (y := y) (by omega)
    exact ⟨_, fun _ _ q => q, c, (x.fmod y).toNat, by omega, y, x.fmod y, _, rfl, rfl, hy, f.1, by rw [Mth.g_fstep (by omega)]; exact hg, rfl⟩
abbrev s_under : Stmt := top 8
theorem sc_under : FnScope ["one", "other"] ["one", "other"] (defScope s_under) := ⟨rfl, rfl, rfl, by decide +kernel, rfl, by decide +kernel, by decide +kernel⟩
def sp_under (K : PySem.W.Frag) : Sp := fun vs H Q E => ∃ (x y : V) (a b c d : Int), vs = [x, y] ∧ FrV K H x a b ∧ FrV K H y c d ∧ Mth.Sz 4000 a ∧ Mth.Sz 4000 b ∧ Mth.Sz 4000 c ∧ Mth.Sz 4000 d ∧ Q (.bl (decide (a * d < c * b))) H
theorem ok_under {f : Addr} {fd : FuncData} {dV : Value} (F : FunD K "under" "under" s_under dV f fd) (T : Txt K mg Ad)  : FnOk P w K mg base (CX1 P w) 1 f fd ["one", "other"] (sp_under K) := by
  refine F.okn sc_under (fun vs H Q E h => ?_) (fun cdv A outer s H vs Q E hr h => ?_)
  · obtain ⟨x, y, a, b, c, d, rfl, _⟩ := h; rfl
  obtain ⟨x, y, a, b, c, d, rfl, h⟩ := h
  have hu := hr.units
  refine ⟨_, (pss_one (ps_ret (pe_cmpR op_ltU (pe_op op_mul0 (pe_ix ix_U (pv 0) pe_int (fun _ _ => rfl)) (pe_ix ix_U (pv 1) pe_int (fun _ _ => rfl))) (pe_op op_mul0 (pe_ix ix_U (pv 1) pe_int (fun _ _ => rfl)) (pe_ix ix_U (pv 0) pe_int (fun _ _ => rfl))) (nomark _)))), ?_⟩
  obtain ⟨hx, hy, sa, sb, sc, sd, k⟩ := h
  show tRet _ _ [some x, some y] H
  try infer_instance
  refine ixF0 hx (ixF1 hy ?_)
  try infer_instance
  refine ⟨mulOk sa sd, ixF0 hy (ixF1 hx ?_)⟩
  try infer_instance
  exact ⟨mulOk sc sb, k⟩
abbrev s_is_name : Stmt := top 12
theorem sc_is_name : FnScope ["thing"] ["thing"] (defScope s_is_name) := ⟨rfl, rfl, rfl, by decide +kernel, rfl, by decide +kernel, by decide +kernel⟩
def sp_is_name (K : PySem.W.Frag) : Sp := fun vs H Q E => ∃ (x : V) (d : D), vs = [x] ∧ Rep K H d x ∧ szD d ∧ ∀ H', Same H H' → Q (.bl (nameB d)) H'
theorem ok_is_name {f : Addr} {fd : FuncData} {dV : Value} (F : FunD K "is_name" "is_name" s_is_name dV f fd) (T : Txt K mg Ad)  : FnOk P w K mg base (CX1 P w) 1 f fd ["thing"] (sp_is_name K) := by
  refine F.okn sc_is_name (fun vs H Q E h => ?_) (fun cdv A outer s H vs Q E hr h => ?_)
  · obtain ⟨x, d, rfl, _⟩ := h; rfl
  obtain ⟨x, d, rfl, h⟩ := h
  have hu := hr.units
  refine ⟨_, (pss_cons (ps_if (pt_not (pt_val (pe_callB call_isinstanceU rfl T.n_isinstance bt_isinstance (pa_cons (pv 0) (pa_cons (pe_bltn (v := .ty "str") rfl T.n_str bt_str rfl) pa_nil)))))
      (pss_one (ps_ret pe_bl))
      pss_nil)
      (pss_cons (ps_if (PW.pt (pw_or (pt_cmpR op_ltU (pe_callB call_lenU rfl T.n_len bt_len (pa_cons (pv 0) pa_nil)) pe_int (nomark _)) (pw_or1 (pt_cmpR op_gtU (pe_callB call_lenU rfl T.n_len bt_len (pa_cons (pv 0) pa_nil)) (pe_glob (v := .int 8) rfl T.m_LONGEST_NAME T.r_LONGEST_NAME) (nomark _)))))
      (pss_one (ps_ret pe_bl))
      pss_nil)
      (pss_one (ps_ret (pe_callB (call_allU rfl) rfl T.n_all bt_all (pa_cons (pe_comp (own := ["sign"]) (cs := []) (cl := []) rfl (pi_str (pv 0)) (fun _ _ _ _ => (pg_name (i := 0) (show [("sign" : Str)].Nodup by decide) rfl (Or.inl rfl))) (fun _ _ _ _ => (pe_cmpR (op_inK (K := K) rfl) (pv 0) (pe_glob (v := .str "abcdefghijklmnopqrstuvwxyz") rfl T.m_SMALL_LETTERS T.r_SMALL_LETTERS) (by with_unfolding_all rfl))) rfl (by decide) rfl (by decide) hcl0 (hhas0 (by decide)) hcs0) pa_nil)))))), ?_⟩
  obtain ⟨hx, sz, k⟩ := h
  show tSeq _ _ _ [some x] H
  try infer_instance
  refine ⟨_, hx.tyN, ?_⟩
  by_cases hs : ∃ z, d = .str z
  · obtain ⟨z, rfl⟩ := hs
    simp only [Rep] at hx
    subst hx
    simp only [szD] at sz
    simp only [tyD, y71y, y44y, y45y, y46y, y62y, y2ay, y5dy, y6fy, y70y, y3dy, y2cy, y69y, y7dy, y2ey, y34y, y63y, y2dy, y76y, y23y, y28y, y6ay, y65y, y29y, y6by, y67y, y4ey, y7fy, y26y, y75y, y61y, y5ay, y41y, y59y, y6dy, y31y, y3fy, y5fy, y40y, y60y, y3ey, y5ey, y78y, y55y, y51y, y7ay, y7cy, y79y, y7by, y25y, y58y, y24y, true_and, if_true, if_false, Bool.not_true, Bool.not_false, Bool.false_eq_true, yby, ydy, yay, ycy, yey, y15y, y17y, y14y, y16y, y18y, y6y, y8y, y5y, y7y, y9y, y1y, y3y, y0y, y2y, y4y, y10y, y12y, yfy, y11y, y13y, y1ay, y1cy, y19y, y1by, y1dy, y1fy, y21y, y1ey, y20y, y22y, y73y, y6cy, y64y, y2fy, y30y, y48y, y53y, y54y, y43y, y74y, y77y, y80y, y6ey, y27y, V.int.injEq, V.str.injEq, List.set_cons_zero, List.set_cons_succ, List.getElem?_cons_zero, List.getElem?_cons_succ, Option.some.injEq, exists_eq_left, exists_eq_left', V.bl.injEq, Int.reduceToNat, Int.reducePow, List.append_nil, List.nil_append, List.cons_append, y4ay, y4cy, y2by, y5by, y50y, y66y, y56y, y57y, y35y, y36y, y3cy, y39y, y38y, y47y, y32y, y33y, y84y, y85y, y81y, y82y, y83y, y7ey, y37y, y3ay, y3by, reduceCtorEq, decide_false, decide_true]
    have hz : z.length ≤ sizeLine := Nat.le_trans sz (by decide)
    simp only [nameB, nameS] at k
    refine ⟨hz, ?_⟩
    try infer_instance
    by_cases c1 : z.length < 1
    · rw [if_pos (by simp; omega)]
      have e : decide (1 ≤ z.length) = false := by simp; omega
      rw [e] at k
      exact k H (.refl H)
    · rw [if_neg (by simp; omega)]
      have e : decide (1 ≤ z.length) = true := by simp; omega
      rw [e] at k
      refine ⟨hz, ?_⟩
      try infer_instance
      by_cases c2 : 8 < z.length
      · rw [if_pos (by simp; omega)]
        have e : decide (z.length ≤ 8) = false := by simp; omega
        rw [e] at k
        exact k H (.refl H)
      · rw [if_neg (by simp; omega)]
        have e : decide (z.length ≤ 8) = true := by simp; omega
        rw [e] at k
        try infer_instance
        simp only [tComp, iStr, y71y, y44y, y45y, y46y, y62y, y2ay, y5dy, y6fy, y70y, y3dy, y2cy, y69y, y7dy, y2ey, y34y, y63y, y2dy, y76y, y23y, y28y, y6ay, y65y, y29y, y6by, y67y, y4ey, y7fy, y26y, y75y, y61y, y5ay, y41y, y59y, y6dy, y31y, y3fy, y5fy, y40y, y60y, y3ey, y5ey, y78y, y55y, y51y, y7ay, y7cy, y79y, y7by, y25y, y58y, y24y, true_and, if_true, if_false, Bool.not_true, Bool.not_false, Bool.false_eq_true, yby, ydy, yay, ycy, yey, y15y, y17y, y14y, y16y, y18y, y6y, y8y, y5y, y7y, y9y, y1y, y3y, y0y, y2y, y4y, y10y, y12y, yfy, y11y, y13y, y1ay, y1cy, y19y, y1by, y1dy, y1fy, y21y, y1ey, y20y, y22y, y73y, y6cy, y64y, y2fy, y30y, y48y, y53y, y54y, y43y, y74y, y77y, y80y, y6ey, y27y, V.int.injEq, V.str.injEq, List.set_cons_zero, List.set_cons_succ, List.getElem?_cons_zero, List.getElem?_cons_succ, Option.some.injEq, exists_eq_left, exists_eq_left', V.bl.injEq, Int.reduceToNat, Int.reducePow, List.append_nil, List.nil_append, List.cons_append, y4ay, y4cy, y2by, y5by, y50y, y66y, y56y, y57y, y35y, y36y, y3cy, y39y, y38y, y47y, y32y, y33y, y84y, y85y, y81y, y82y, y83y, y7ey, y37y, y3ay, y3by, reduceCtorEq, decide_false, decide_true]
        refine ⟨fun i m ys H2 => H2 = H ∧ i ≤ z.cps.size ∧ m = z.cps.size - i ∧ ys = (z.cps.toList.take i).map fun c => V.bl (lowB c), ⟨_, rfl, Nat.zero_le _, rfl, by simp⟩, ?_⟩
        rintro i m ys H2 ⟨rfl, hi, rfl, rfl⟩
        have lz : z.cps.size = z.length := rfl
        refine ⟨by simp; omega, ?_⟩
        by_cases lt : i < z.cps.size
        · refine .inr ⟨lt, ?_⟩
          rintro x H3 ⟨rfl, c, hc, rfl⟩
          simp only [List.length_singleton, List.replicate, capsAt, List.map_nil, y71y, y44y, y45y, y46y, y62y, y2ay, y5dy, y6fy, y70y, y3dy, y2cy, y69y, y7dy, y2ey, y34y, y63y, y2dy, y76y, y23y, y28y, y6ay, y65y, y29y, y6by, y67y, y4ey, y7fy, y26y, y75y, y61y, y5ay, y41y, y59y, y6dy, y31y, y3fy, y5fy, y40y, y60y, y3ey, y5ey, y78y, y55y, y51y, y7ay, y7cy, y79y, y7by, y25y, y58y, y24y, true_and, if_true, if_false, Bool.not_true, Bool.not_false, Bool.false_eq_true, yby, ydy, yay, ycy, yey, y15y, y17y, y14y, y16y, y18y, y6y, y8y, y5y, y7y, y9y, y1y, y3y, y0y, y2y, y4y, y10y, y12y, yfy, y11y, y13y, y1ay, y1cy, y19y, y1by, y1dy, y1fy, y21y, y1ey, y20y, y22y, y73y, y6cy, y64y, y2fy, y30y, y48y, y53y, y54y, y43y, y74y, y77y, y80y, y6ey, y27y, V.int.injEq, V.str.injEq, List.set_cons_zero, List.set_cons_succ, List.getElem?_cons_zero, List.getElem?_cons_succ, Option.some.injEq, exists_eq_left, exists_eq_left', V.bl.injEq, Int.reduceToNat, Int.reducePow, List.append_nil, List.nil_append, List.cons_append, y4ay, y4cy, y2by, y5by, y50y, y66y, y56y, y57y, y35y, y36y, y3cy, y39y, y38y, y47y, y32y, y33y, y84y, y85y, y81y, y82y, y83y, y7ey, y37y, y3ay, y3by, reduceCtorEq, decide_false, decide_true, y4fy, in_letters]
          refine ⟨_, Nat.sub_lt_sub_left lt (Nat.lt_succ_self i), lt, rfl, ?_⟩
          have hc' : z.cps.toList[i]? = some c := by simpa using hc
          rw [List.take_succ, hc']
          simp
        · have ei : i = z.cps.size := by omega
          refine .inl ⟨ei, ?_⟩
          subst ei
          rw [List.take_of_length_le (by simp)]
          intro p hp
          generalize qp : upd H2 p _ = H3
          have S := newS hp qp
          have e3 := newE qp
          refine ⟨p, z.cps.toList.map lowB, rfl, SqL.of (by rw [e3, List.map_map]; rfl), ?_⟩
          have := k H3 S
          simpa [List.all_map] using this
  · have ef : nameB d = false := by cases d <;> first | rfl | exact absurd ⟨_, rfl⟩ hs
    rw [ef] at k
    have et : isiB (tyD d) "str" = false := by cases d <;> first | rfl | exact absurd ⟨_, rfl⟩ hs
    simp only [et, y71y, y44y, y45y, y46y, y62y, y2ay, y5dy, y6fy, y70y, y3dy, y2cy, y69y, y7dy, y2ey, y34y, y63y, y2dy, y76y, y23y, y28y, y6ay, y65y, y29y, y6by, y67y, y4ey, y7fy, y26y, y75y, y61y, y5ay, y41y, y59y, y6dy, y31y, y3fy, y5fy, y40y, y60y, y3ey, y5ey, y78y, y55y, y51y, y7ay, y7cy, y79y, y7by, y25y, y58y, y24y, true_and, if_true, if_false, Bool.not_true, Bool.not_false, Bool.false_eq_true, yby, ydy, yay, ycy, yey, y15y, y17y, y14y, y16y, y18y, y6y, y8y, y5y, y7y, y9y, y1y, y3y, y0y, y2y, y4y, y10y, y12y, yfy, y11y, y13y, y1ay, y1cy, y19y, y1by, y1dy, y1fy, y21y, y1ey, y20y, y22y, y73y, y6cy, y64y, y2fy, y30y, y48y, y53y, y54y, y43y, y74y, y77y, y80y, y6ey, y27y, V.int.injEq, V.str.injEq, List.set_cons_zero, List.set_cons_succ, List.getElem?_cons_zero, List.getElem?_cons_succ, Option.some.injEq, exists_eq_left, exists_eq_left', V.bl.injEq, Int.reduceToNat, Int.reducePow, List.append_nil, List.nil_append, List.cons_append, y4ay, y4cy, y2by, y5by, y50y, y66y, y56y, y57y, y35y, y36y, y3cy, y39y, y38y, y47y, y32y, y33y, y84y, y85y, y81y, y82y, y83y, y7ey, y37y, y3ay, y3by, reduceCtorEq, decide_false, decide_true]
    exact k H (.refl H)
abbrev s_is_whole : Stmt := top 13
theorem sc_is_whole : FnScope ["thing"] ["thing"] (defScope s_is_whole) := ⟨rfl, rfl, rfl, by decide +kernel, rfl, by decide +kernel, by decide +kernel⟩
def sp_is_whole (K : PySem.W.Frag) : Sp := fun vs H Q E => ∃ (x : V) (d : D), vs = [x] ∧ Rep K H d x ∧ Q (.bl (wholeB d)) H
theorem ok_is_whole {f : Addr} {fd : FuncData} {dV : Value} (F : FunD K "is_whole" "is_whole" s_is_whole dV f fd) (T : Txt K mg Ad)  : FnOk P w K mg base (CX1 P w) 1 f fd ["thing"] (sp_is_whole K) := by
  refine F.okn sc_is_whole (fun vs H Q E h => ?_) (fun cdv A outer s H vs Q E hr h => ?_)
  · obtain ⟨x, d, rfl, _⟩ := h; rfl
  obtain ⟨x, d, rfl, h⟩ := h
  have hu := hr.units
  refine ⟨_, (pss_one (ps_ret (pe_and (pe_callB call_isinstanceU rfl T.n_isinstance bt_isinstance (pa_cons (pv 0) (pa_cons (pe_bltn (v := .ty "int") rfl T.n_int bt_int rfl) pa_nil))) (pe_one (pe_not (pe_callB call_isinstanceU rfl T.n_isinstance bt_isinstance (pa_cons (pv 0) (pa_cons (pe_bltn (v := .ty "bool") rfl T.n_bool bt_bool rfl) pa_nil)))))))), ?_⟩
  obtain ⟨hx, k⟩ := h
  show tRet _ _ [some x] H
  try infer_instance
  refine ⟨_, hx.tyN, ?_⟩
  have hty := hx.tyN
  cases d <;> simp only [tyD, wholeB, y71y, y44y, y45y, y46y, y62y, y2ay, y5dy, y6fy, y70y, y3dy, y2cy, y69y, y7dy, y2ey, y34y, y63y, y2dy, y76y, y23y, y28y, y6ay, y65y, y29y, y6by, y67y, y4ey, y7fy, y26y, y75y, y61y, y5ay, y41y, y59y, y6dy, y31y, y3fy, y5fy, y40y, y60y, y3ey, y5ey, y78y, y55y, y51y, y7ay, y7cy, y79y, y7by, y25y, y58y, y24y, true_and, if_true, if_false, Bool.not_true, Bool.not_false, Bool.false_eq_true, yby, ydy, yay, ycy, yey, y15y, y17y, y14y, y16y, y18y, y6y, y8y, y5y, y7y, y9y, y1y, y3y, y0y, y2y, y4y, y10y, y12y, yfy, y11y, y13y, y1ay, y1cy, y19y, y1by, y1dy, y1fy, y21y, y1ey, y20y, y22y, y73y, y6cy, y64y, y2fy, y30y, y48y, y53y, y54y, y43y, y74y, y77y, y80y, y6ey, y27y, V.int.injEq, V.str.injEq, List.set_cons_zero, List.set_cons_succ, List.getElem?_cons_zero, List.getElem?_cons_succ, Option.some.injEq, exists_eq_left, exists_eq_left', V.bl.injEq, Int.reduceToNat, Int.reducePow, List.append_nil, List.nil_append, List.cons_append, y4ay, y4cy, y2by, y5by, y50y, y66y, y56y, y57y, y35y, y36y, y3cy, y39y, y38y, y47y, y32y, y33y, y84y, y85y, y81y, y82y, y83y, y7ey, y37y, y3ay, y3by, reduceCtorEq, decide_false, decide_true] at k hty ⊢ <;> first | exact k | exact ⟨_, hty, by simpa only [y71y, y44y, y45y, y46y, y62y, y2ay, y5dy, y6fy, y70y, y3dy, y2cy, y69y, y7dy, y2ey, y34y, y63y, y2dy, y76y, y23y, y28y, y6ay, y65y, y29y, y6by, y67y, y4ey, y7fy, y26y, y75y, y61y, y5ay, y41y, y59y, y6dy, y31y, y3fy, y5fy, y40y, y60y, y3ey, y5ey, y78y, y55y, y51y, y7ay, y7cy, y79y, y7by, y25y, y58y, y24y, true_and, if_true, if_false, Bool.not_true, Bool.not_false, Bool.false_eq_true, yby, ydy, yay, ycy, yey, y15y, y17y, y14y, y16y, y18y, y6y, y8y, y5y, y7y, y9y, y1y, y3y, y0y, y2y, y4y, y10y, y12y, yfy, y11y, y13y, y1ay, y1cy, y19y, y1by, y1dy, y1fy, y21y, y1ey, y20y, y22y, y73y, y6cy, y64y, y2fy, y30y, y48y, y53y, y54y, y43y, y74y, y77y, y80y, y6ey, y27y, V.int.injEq, V.str.injEq, List.set_cons_zero, List.set_cons_succ, List.getElem?_cons_zero, List.getElem?_cons_succ, Option.some.injEq, exists_eq_left, exists_eq_left', V.bl.injEq, Int.reduceToNat, Int.reducePow, List.append_nil, List.nil_append, List.cons_append, y4ay, y4cy, y2by, y5by, y50y, y66y, y56y, y57y, y35y, y36y, y3cy, y39y, y38y, y47y, y32y, y33y, y84y, y85y, y81y, y82y, y83y, y7ey, y37y, y3ay, y3by, reduceCtorEq, decide_false, decide_true] using k⟩
abbrev s_is_fraction : Stmt := top 14
theorem sc_is_fraction : FnScope ["thing"] ["thing"] (defScope s_is_fraction) := ⟨rfl, rfl, rfl, by decide +kernel, rfl, by decide +kernel, by decide +kernel⟩
def sp_is_fraction (K : PySem.W.Frag) : Sp := fun vs H Q E => ∃ (x : V) (d : D), vs = [x] ∧ Rep K H d x ∧ Q (.bl (fracB d)) H
theorem ok_is_fraction {f : Addr} {fd : FuncData} {dV : Value} (F : FunD K "is_fraction" "is_fraction" s_is_fraction dV f fd) (T : Txt K mg Ad) (c_is_whole : Cal P w K mg base 1 "is_whole" ["thing"] [] (sp_is_whole K)) (c_common_divisor : Cal P w K mg base 1 "common_divisor" ["one", "other"] [] (sp_common_divisor)) : FnOk P w K mg base (CX1 P w) 2 f fd ["thing"] (sp_is_fraction K) := by
  refine F.okn sc_is_fraction (fun vs H Q E h => ?_) (fun cdv A outer s H vs Q E hr h => ?_)
  · obtain ⟨x, d, rfl, _⟩ := h; rfl
  obtain ⟨x, d, rfl, h⟩ := h
  have hu := hr.units
  refine ⟨_, (pss_cons (ps_if (PW.pt (pw_or (pt_not (pt_val (pe_callB call_isinstanceU rfl T.n_isinstance bt_isinstance (pa_cons (pv 0) (pa_cons (pe_bltn (v := .ty "tuple") rfl T.n_tuple bt_tuple rfl) pa_nil))))) (pw_or1 (pt_cmpR (op_neU hu) (pe_callB call_lenU rfl T.n_len bt_len (pa_cons (pv 0) pa_nil)) pe_int (nomark _)))))
      (pss_one (ps_ret pe_bl))
      pss_nil)
      (pss_cons (ps_if (PW.pt (pw_or (pt_not (pt_val (c_is_whole.ev hr (by decide) rfl passF (pa_cons (pe_ix ix_U (pv 0) pe_int (fun _ _ => rfl)) pa_nil)))) (pw_or1 (pt_not (pt_val (c_is_whole.ev hr (by decide) rfl passF (pa_cons (pe_ix ix_U (pv 0) pe_int (fun _ _ => rfl)) pa_nil)))))))
      (pss_one (ps_ret pe_bl))
      pss_nil)
      (pss_one (ps_ret (pe_and (pe_cmpR op_geU (pe_ix ix_U (pv 0) pe_int (fun _ _ => rfl)) pe_int (nomark _)) (pe_one (pe_cmpR (op_eqU hu) (c_common_divisor.ev hr (by decide) rfl passF (pa_cons (pe_ix ix_U (pv 0) pe_int (fun _ _ => rfl)) (pa_cons (pe_ix ix_U (pv 0) pe_int (fun _ _ => rfl)) pa_nil))) pe_int (nomark _)))))))), ?_⟩
  obtain ⟨hx, k⟩ := h
  show tSeq _ _ _ [some x] H
  try infer_instance
  refine ⟨_, hx.tyN, ?_⟩
  by_cases ht : ∃ ds, d = .tup ds
  · obtain ⟨ds, rfl⟩ := ht
    simp only [tyD, y71y, y44y, y45y, y46y, y62y, y2ay, y5dy, y6fy, y70y, y3dy, y2cy, y69y, y7dy, y2ey, y34y, y63y, y2dy, y76y, y23y, y28y, y6ay, y65y, y29y, y6by, y67y, y4ey, y7fy, y26y, y75y, y61y, y5ay, y41y, y59y, y6dy, y31y, y3fy, y5fy, y40y, y60y, y3ey, y5ey, y78y, y55y, y51y, y7ay, y7cy, y79y, y7by, y25y, y58y, y24y, true_and, if_true, if_false, Bool.not_true, Bool.not_false, Bool.false_eq_true, yby, ydy, yay, ycy, yey, y15y, y17y, y14y, y16y, y18y, y6y, y8y, y5y, y7y, y9y, y1y, y3y, y0y, y2y, y4y, y10y, y12y, yfy, y11y, y13y, y1ay, y1cy, y19y, y1by, y1dy, y1fy, y21y, y1ey, y20y, y22y, y73y, y6cy, y64y, y2fy, y30y, y48y, y53y, y54y, y43y, y74y, y77y, y80y, y6ey, y27y, V.int.injEq, V.str.injEq, List.set_cons_zero, List.set_cons_succ, List.getElem?_cons_zero, List.getElem?_cons_succ, Option.some.injEq, exists_eq_left, exists_eq_left', V.bl.injEq, Int.reduceToNat, Int.reducePow, List.append_nil, List.nil_append, List.cons_append, y4ay, y4cy, y2by, y5by, y50y, y66y, y56y, y57y, y35y, y36y, y3cy, y39y, y38y, y47y, y32y, y33y, y84y, y85y, y81y, y82y, y83y, y7ey, y37y, y3ay, y3by, reduceCtorEq, decide_false, decide_true]
    simp only [Rep] at hx
    obtain ⟨a, xs, rfl, hq, hr⟩ := hx
    have hl := hr.length
    refine ⟨xs, .inr hq, ?_⟩
    try infer_instance
    by_cases h2 : ds.length = 2
    · match ds, h2 with
      | [d0, d1], _ =>
        simp only [RepL] at hr
        obtain ⟨v0, r0, rfl, h0, v1, r1, rfl, h1, rfl⟩ := hr
        simp only [List.length_cons, List.length_nil, y71y, y44y, y45y, y46y, y62y, y2ay, y5dy, y6fy, y70y, y3dy, y2cy, y69y, y7dy, y2ey, y34y, y63y, y2dy, y76y, y23y, y28y, y6ay, y65y, y29y, y6by, y67y, y4ey, y7fy, y26y, y75y, y61y, y5ay, y41y, y59y, y6dy, y31y, y3fy, y5fy, y40y, y60y, y3ey, y5ey, y78y, y55y, y51y, y7ay, y7cy, y79y, y7by, y25y, y58y, y24y, true_and, if_true, if_false, Bool.not_true, Bool.not_false, Bool.false_eq_true, yby, ydy, yay, ycy, yey, y15y, y17y, y14y, y16y, y18y, y6y, y8y, y5y, y7y, y9y, y1y, y3y, y0y, y2y, y4y, y10y, y12y, yfy, y11y, y13y, y1ay, y1cy, y19y, y1by, y1dy, y1fy, y21y, y1ey, y20y, y22y, y73y, y6cy, y64y, y2fy, y30y, y48y, y53y, y54y, y43y, y74y, y77y, y80y, y6ey, y27y, V.int.injEq, V.str.injEq, List.set_cons_zero, List.set_cons_succ, List.getElem?_cons_zero, List.getElem?_cons_succ, Option.some.injEq, exists_eq_left, exists_eq_left', V.bl.injEq, Int.reduceToNat, Int.reducePow, List.append_nil, List.nil_append, List.cons_append, y4ay, y4cy, y2by, y5by, y50y, y66y, y56y, y57y, y35y, y36y, y3cy, y39y, y38y, y47y, y32y, y33y, y84y, y85y, y81y, y82y, y83y, y7ey, y37y, y3ay, y3by, reduceCtorEq, decide_false, decide_true]
        rw [if_neg (by simp)]
        try infer_instance
        refine ixT0 hq ?_
        refine ⟨v0, d0, rfl, h0, ?_⟩
        try infer_instance
        by_cases w0 : wholeB d0 = true
        · rw [if_neg (by simp [w0])]
          refine ixT1 hq ?_
          refine ⟨v1, d1, rfl, h1, ?_⟩
          try infer_instance
          by_cases w1 : wholeB d1 = true
          · rw [if_neg (by simp [w1])]
            obtain ⟨i, rfl⟩ : ∃ i, d0 = .int i := by cases d0 <;> simp [wholeB] at w0; exact ⟨_, rfl⟩
            obtain ⟨j, rfl⟩ : ∃ j, d1 = .int j := by cases d1 <;> simp [wholeB] at w1; exact ⟨_, rfl⟩
            simp only [Rep] at h0 h1
            subst h0 h1
            simp only [fracB] at k
            try infer_instance
            refine ixT1 hq ?_
            try infer_instance
            by_cases c : 1 ≤ j
            · rw [if_pos (by simpa using c)]
              refine ixT0 hq (ixT1 hq ?_)
              refine ⟨_, _, rfl, ?_⟩
              try infer_instance
              simpa [c] using k
            · rw [if_neg (by simpa using c)]
              simpa [c] using k
          · rw [if_pos (by simp [w1])]
            try infer_instance
            have ef : fracB (.tup [d0, d1]) = false := by cases d0 <;> cases d1 <;> simp_all [fracB, wholeB]
            rw [ef] at k
            exact k
        · rw [if_pos (by simp [w0])]
          try infer_instance
          have ef : fracB (.tup [d0, d1]) = false := by cases d0 <;> cases d1 <;> simp_all [fracB, wholeB]
          rw [ef] at k
          exact k
    · rw [if_pos (by simp; omega)]
      have ef : fracB (.tup ds) = false := by
        match ds, h2 with
        | [], _ => rfl
        | [_], _ => simp [fracB]
        | _ :: _ :: _ :: _, _ => simp [fracB]
      rw [ef] at k
      try infer_instance
      exact k
  · have ef : fracB d = false := by cases d <;> first | rfl | exact absurd ⟨_, rfl⟩ ht
    rw [ef] at k
    have et : isiB (tyD d) "tuple" = false := by cases d <;> first | rfl | exact absurd ⟨_, rfl⟩ ht
    simp only [et, y71y, y44y, y45y, y46y, y62y, y2ay, y5dy, y6fy, y70y, y3dy, y2cy, y69y, y7dy, y2ey, y34y, y63y, y2dy, y76y, y23y, y28y, y6ay, y65y, y29y, y6by, y67y, y4ey, y7fy, y26y, y75y, y61y, y5ay, y41y, y59y, y6dy, y31y, y3fy, y5fy, y40y, y60y, y3ey, y5ey, y78y, y55y, y51y, y7ay, y7cy, y79y, y7by, y25y, y58y, y24y, true_and, if_true, if_false, Bool.not_true, Bool.not_false, Bool.false_eq_true, yby, ydy, yay, ycy, yey, y15y, y17y, y14y, y16y, y18y, y6y, y8y, y5y, y7y, y9y, y1y, y3y, y0y, y2y, y4y, y10y, y12y, yfy, y11y, y13y, y1ay, y1cy, y19y, y1by, y1dy, y1fy, y21y, y1ey, y20y, y22y, y73y, y6cy, y64y, y2fy, y30y, y48y, y53y, y54y, y43y, y74y, y77y, y80y, y6ey, y27y, V.int.injEq, V.str.injEq, List.set_cons_zero, List.set_cons_succ, List.getElem?_cons_zero, List.getElem?_cons_succ, Option.some.injEq, exists_eq_left, exists_eq_left', V.bl.injEq, Int.reduceToNat, Int.reducePow, List.append_nil, List.nil_append, List.cons_append, y4ay, y4cy, y2by, y5by, y50y, y66y, y56y, y57y, y35y, y36y, y3cy, y39y, y38y, y47y, y32y, y33y, y84y, y85y, y81y, y82y, y83y, y7ey, y37y, y3ay, y3by, reduceCtorEq, decide_false, decide_true]
    exact k
abbrev s_is_bound : Stmt := top 15
theorem sc_is_bound : FnScope ["thing"] ["thing"] (defScope s_is_bound) := ⟨rfl, rfl, rfl, by decide +kernel, rfl, by decide +kernel, by decide +kernel⟩
def sp_is_bound (K : PySem.W.Frag) : Sp := fun vs H Q E => ∃ (x : V) (d : D), vs = [x] ∧ Rep K H d x ∧ Q (.bl (boundB d)) H
theorem ok_is_bound {f : Addr} {fd : FuncData} {dV : Value} (F : FunD K "is_bound" "is_bound" s_is_bound dV f fd) (T : Txt K mg Ad) (c_is_fraction : Cal P w K mg base 2 "is_fraction" ["thing"] [] (sp_is_fraction K)) : FnOk P w K mg base (CX1 P w) 3 f fd ["thing"] (sp_is_bound K) := by
  refine F.okn sc_is_bound (fun vs H Q E h => ?_) (fun cdv A outer s H vs Q E hr h => ?_)
  · obtain ⟨x, d, rfl, _⟩ := h; rfl
  obtain ⟨x, d, rfl, h⟩ := h
  have hu := hr.units
  refine ⟨_, (pss_one (ps_ret (pe_or (pe_cmpR op_isNU (pv 0) pe_non (nomark _)) (pe_one (c_is_fraction.ev hr (by decide) rfl passF (pa_cons (pv 0) pa_nil)))))), ?_⟩
  obtain ⟨hx, k⟩ := h
  show tRet _ _ [some x] H
  try infer_instance
  by_cases hn : d = .non
  · subst hn
    simp only [Rep] at hx
    subst hx
    simp only [decide_true, y71y, y44y, y45y, y46y, y62y, y2ay, y5dy, y6fy, y70y, y3dy, y2cy, y69y, y7dy, y2ey, y34y, y63y, y2dy, y76y, y23y, y28y, y6ay, y65y, y29y, y6by, y67y, y4ey, y7fy, y26y, y75y, y61y, y5ay, y41y, y59y, y6dy, y31y, y3fy, y5fy, y40y, y60y, y3ey, y5ey, y78y, y55y, y51y, y7ay, y7cy, y79y, y7by, y25y, y58y, y24y, true_and, if_true, if_false, Bool.not_true, Bool.not_false, Bool.false_eq_true, yby, ydy, yay, ycy, yey, y15y, y17y, y14y, y16y, y18y, y6y, y8y, y5y, y7y, y9y, y1y, y3y, y0y, y2y, y4y, y10y, y12y, yfy, y11y, y13y, y1ay, y1cy, y19y, y1by, y1dy, y1fy, y21y, y1ey, y20y, y22y, y73y, y6cy, y64y, y2fy, y30y, y48y, y53y, y54y, y43y, y74y, y77y, y80y, y6ey, y27y, V.int.injEq, V.str.injEq, List.set_cons_zero, List.set_cons_succ, List.getElem?_cons_zero, List.getElem?_cons_succ, Option.some.injEq, exists_eq_left, exists_eq_left', V.bl.injEq, Int.reduceToNat, Int.reducePow, List.append_nil, List.nil_append, List.cons_append, y4ay, y4cy, y2by, y5by, y50y, y66y, y56y, y57y, y35y, y36y, y3cy, y39y, y38y, y47y, y32y, y33y, y84y, y85y, y81y, y82y, y83y, y7ey, y37y, y3ay, y3by, reduceCtorEq, decide_false, decide_true]
    exact k
  · have xn : x ≠ .non := by
      rintro rfl
      cases d <;> simp [Rep] at hx
      exact hn rfl
    rw [if_neg (by simpa using xn)]
    have ef : boundB d = fracB d := by cases d <;> first | rfl | exact absurd rfl hn
    rw [ef] at k
    exact ⟨x, d, rfl, hx, k⟩
abbrev s_are_faces : Stmt := top 16
theorem sc_are_faces : FnScope ["one", "other"] ["one", "other"] (defScope s_are_faces) := ⟨rfl, rfl, rfl, by decide +kernel, rfl, by decide +kernel, by decide +kernel⟩
def sp_are_faces (K : PySem.W.Frag) : Sp := fun vs H Q E => ∃ (x y : V) (d e : D), vs = [x, y] ∧ Rep K H d x ∧ Rep K H e y ∧ szD d ∧ szD e ∧ ∀ H', Same H H' → Q (.bl (facesB d e)) H'
theorem ok_are_faces {f : Addr} {fd : FuncData} {dV : Value} (F : FunD K "are_faces" "are_faces" s_are_faces dV f fd) (T : Txt K mg Ad) (c_is_name : Cal P w K mg base 1 "is_name" ["thing"] [] (sp_is_name K)) : FnOk P w K mg base (CX1 P w) 2 f fd ["one", "other"] (sp_are_faces K) := by
  refine F.okn sc_are_faces (fun vs H Q E h => ?_) (fun cdv A outer s H vs Q E hr h => ?_)
  · obtain ⟨x, y, d, e, rfl, _⟩ := h; rfl
  obtain ⟨x, y, d, e, rfl, h⟩ := h
  have hu := hr.units
  refine ⟨_, (pss_one (ps_ret (pe_and (c_is_name.ev hr (by decide) rfl passF (pa_cons (pv 0) pa_nil)) (pe_and (c_is_name.ev hr (by decide) rfl passF (pa_cons (pv 1) pa_nil)) (pe_one (pe_cmpR (op_neU hu) (pv 0) (pv 1) (nomark _))))))), ?_⟩
  obtain ⟨hx, hy, sx, sy, k⟩ := h
  show tRet _ _ [some x, some y] H
  try infer_instance
  refine ⟨x, d, rfl, hx, sx, fun H1 S1 => ?_⟩
  try infer_instance
  unfold facesB at k
  by_cases c1 : nameB d = true
  · rw [if_pos c1]
    refine ⟨y, e, rfl, hy.same S1, sy, fun H2 S2 => ?_⟩
    try infer_instance
    by_cases c2 : nameB e = true
    · rw [if_pos c2]
      obtain ⟨z, rfl, _⟩ := name_shape c1
      obtain ⟨z', rfl, _⟩ := name_shape c2
      have e1 := hx.str
      have e2 := hy.str
      subst e1 e2
      try infer_instance
      have := k H2 (S1.trans S2)
      rw [c1, c2] at this
      simpa [eqD, BEq.beq] using this
    · rw [if_neg c2]
      have := k H2 (S1.trans S2)
      have e2 : nameB e = false := by simpa using c2
      rw [c1, e2] at this
      exact this
  · rw [if_neg c1]
    have := k H1 S1
    have e1 : nameB d = false := by simpa using c1
    rw [e1] at this
    exact this
abbrev s_are_bounds : Stmt := top 17
theorem sc_are_bounds : FnScope ["least", "greatest"] ["least", "greatest"] (defScope s_are_bounds) := ⟨rfl, rfl, rfl, by decide +kernel, rfl, by decide +kernel, by decide +kernel⟩
def sp_are_bounds (K : PySem.W.Frag) : Sp := fun vs H Q E => ∃ (x y : V) (d e : D), vs = [x, y] ∧ Rep K H d x ∧ Rep K H e y ∧ szD d ∧ szD e ∧ Q (.bl (boundsB d e)) H
theorem ok_are_bounds {f : Addr} {fd : FuncData} {dV : Value} (F : FunD K "are_bounds" "are_bounds" s_are_bounds dV f fd) (T : Txt K mg Ad) (c_is_bound : Cal P w K mg base 3 "is_bound" ["thing"] [] (sp_is_bound K)) (c_under : Cal P w K mg base 1 "under" ["one", "other"] [] (sp_under K)) : FnOk P w K mg base (CX1 P w) 4 f fd ["least", "greatest"] (sp_are_bounds K) := by
  refine F.okn sc_are_bounds (fun vs H Q E h => ?_) (fun cdv A outer s H vs Q E hr h => ?_)
  · obtain ⟨x, y, d, e, rfl, _⟩ := h; rfl
  obtain ⟨x, y, d, e, rfl, h⟩ := h
  have hu := hr.units
  refine ⟨_, (pss_cons (ps_if (PW.pt (pw_or (pt_not (pt_val (c_is_bound.ev hr (by decide) rfl passF (pa_cons (pv 0) pa_nil)))) (pw_or1 (pt_not (pt_val (c_is_bound.ev hr (by decide) rfl passF (pa_cons (pv 1) pa_nil)))))))
      (pss_one (ps_ret pe_bl))
      pss_nil)
      (pss_cons (ps_if (PW.pt (pw_or (pt_cmpR op_isNU (pv 0) pe_non (nomark _)) (pw_or1 (pt_cmpR op_isNU (pv 1) pe_non (nomark _)))))
      (pss_one (ps_ret pe_bl))
      pss_nil)
      (pss_one (ps_ret (pe_not (c_under.ev hr (by decide) rfl passF (pa_cons (pv 1) (pa_cons (pv 0) pa_nil)))))))), ?_⟩
  obtain ⟨hx, hy, sx, sy, k⟩ := h
  show tSeq _ _ _ [some x, some y] H
  try infer_instance
  unfold boundsB at k
  refine ⟨x, d, rfl, hx, ?_⟩
  try infer_instance
  by_cases c1 : boundB d = true
  · rw [if_neg (by simp [c1])]
    refine ⟨y, e, rfl, hy, ?_⟩
    try infer_instance
    by_cases c2 : boundB e = true
    · rw [if_neg (by simp [c2])]
      simp only [y71y, y44y, y45y, y46y, y62y, y2ay, y5dy, y6fy, y70y, y3dy, y2cy, y69y, y7dy, y2ey, y34y, y63y, y2dy, y76y, y23y, y28y, y6ay, y65y, y29y, y6by, y67y, y4ey, y7fy, y26y, y75y, y61y, y5ay, y41y, y59y, y6dy, y31y, y3fy, y5fy, y40y, y60y, y3ey, y5ey, y78y, y55y, y51y, y7ay, y7cy, y79y, y7by, y25y, y58y, y24y, true_and, if_true, if_false, Bool.not_true, Bool.not_false, Bool.false_eq_true, yby, ydy, yay, ycy, yey, y15y, y17y, y14y, y16y, y18y, y6y, y8y, y5y, y7y, y9y, y1y, y3y, y0y, y2y, y4y, y10y, y12y, yfy, y11y, y13y, y1ay, y1cy, y19y, y1by, y1dy, y1fy, y21y, y1ey, y20y, y22y, y73y, y6cy, y64y, y2fy, y30y, y48y, y53y, y54y, y43y, y74y, y77y, y80y, y6ey, y27y, V.int.injEq, V.str.injEq, List.set_cons_zero, List.set_cons_succ, List.getElem?_cons_zero, List.getElem?_cons_succ, Option.some.injEq, exists_eq_left, exists_eq_left', V.bl.injEq, Int.reduceToNat, Int.reducePow, List.append_nil, List.nil_append, List.cons_append, y4ay, y4cy, y2by, y5by, y50y, y66y, y56y, y57y, y35y, y36y, y3cy, y39y, y38y, y47y, y32y, y33y, y84y, y85y, y81y, y82y, y83y, y7ey, y37y, y3ay, y3by, reduceCtorEq, decide_false, decide_true, hx.nonV, hy.nonV]
      rw [c1, c2] at k
      by_cases n1 : d = .non
      · rw [if_pos (by simp [n1, nonD])]
        try infer_instance
        have : lessD e d = false := by subst n1; unfold lessD; split <;> first | rfl | simp_all
        rw [this] at k
        exact k
      · rw [if_neg (by simp [nonD_no n1])]
        by_cases n2 : e = .non
        · rw [if_pos (by simp [n2, nonD])]
          try infer_instance
          have : lessD e d = false := by subst n2; rfl
          rw [this] at k
          exact k
        · rw [if_neg (by simp [nonD_no n2])]
          try infer_instance
          have f1 : fracB d = true := by cases d <;> first | exact c1 | exact absurd rfl n1
          have f2 : fracB e = true := by cases e <;> first | exact c2 | exact absurd rfl n2
          obtain ⟨a, b, rfl, _, _⟩ := frac_shape f1
          obtain ⟨a', b', rfl, _, _⟩ := frac_shape f2
          simp only [szD, szL] at sx sy
          refine ⟨y, x, a', b', a, b, rfl, FrV.of_rep hy, FrV.of_rep hx, sy.1, sy.2.1, sx.1, sx.2.1, ?_⟩
          try infer_instance
          simpa [lessD] using k
    · rw [if_pos (by simp [c2])]
      try infer_instance
      have e2 : boundB e = false := by simpa using c2
      rw [c1, e2] at k
      exact k
  · rw [if_pos (by simp [c1])]
    try infer_instance
    have e1 : boundB d = false := by simpa using c1
    rw [e1] at k
    exact k
abbrev s_is_tie : Stmt := top 18
theorem sc_is_tie : FnScope ["thing"] ["thing"] (defScope s_is_tie) := ⟨rfl, rfl, rfl, by decide +kernel, rfl, by decide +kernel, by decide +kernel⟩
def sp_is_tie (K : PySem.W.Frag) : Sp := fun vs H Q E => ∃ (x : V) (d : D), vs = [x] ∧ Rep K H d x ∧ szD d ∧ ∀ H', Same H H' → Q (.bl (tieB d)) H'
theorem ok_is_tie {f : Addr} {fd : FuncData} {dV : Value} (F : FunD K "is_tie" "is_tie" s_is_tie dV f fd) (T : Txt K mg Ad) (c_is_name : Cal P w K mg base 1 "is_name" ["thing"] [] (sp_is_name K)) (c_are_faces : Cal P w K mg base 2 "are_faces" ["one", "other"] [] (sp_are_faces K)) (c_are_bounds : Cal P w K mg base 4 "are_bounds" ["least", "greatest"] [] (sp_are_bounds K)) : FnOk P w K mg base (CX1 P w) 5 f fd ["thing"] (sp_is_tie K) := by
  refine F.okn sc_is_tie (fun vs H Q E h => ?_) (fun cdv A outer s H vs Q E hr h => ?_)
  · obtain ⟨x, d, rfl, _⟩ := h; rfl
  obtain ⟨x, d, rfl, h⟩ := h
  have hu := hr.units
  refine ⟨_, (pss_cons (ps_if (PW.pt (pw_or (pt_not (pt_val (pe_callB call_isinstanceU rfl T.n_isinstance bt_isinstance (pa_cons (pv 0) (pa_cons (pe_bltn (v := .ty "tuple") rfl T.n_tuple bt_tuple rfl) pa_nil))))) (pw_or1 (pt_cmpR (op_neU hu) (pe_callB call_lenU rfl T.n_len bt_len (pa_cons (pv 0) pa_nil)) pe_int (nomark _)))))
      (pss_one (ps_ret pe_bl))
      pss_nil)
      (pss_one (ps_ret (pe_and (c_is_name.ev hr (by decide) rfl passF (pa_cons (pe_ix ix_U (pv 0) pe_int (fun _ _ => rfl)) pa_nil)) (pe_and (c_are_faces.ev hr (by decide) rfl passF (pa_cons (pe_ix ix_U (pv 0) pe_int (fun _ _ => rfl)) (pa_cons (pe_ix ix_U (pv 0) pe_int (fun _ _ => rfl)) pa_nil))) (pe_one (c_are_bounds.ev hr (by decide) rfl passF (pa_cons (pe_ix ix_U (pv 0) pe_int (fun _ _ => rfl)) (pa_cons (pe_ix ix_U (pv 0) pe_int (fun _ _ => rfl)) pa_nil))))))))), ?_⟩
  obtain ⟨hx, sz, k⟩ := h
  show tSeq _ _ _ [some x] H
  try infer_instance
  refine ⟨_, hx.tyN, ?_⟩
  by_cases ht : ∃ ds, d = .tup ds
  · obtain ⟨ds, rfl⟩ := ht
    simp only [tyD, y71y, y44y, y45y, y46y, y62y, y2ay, y5dy, y6fy, y70y, y3dy, y2cy, y69y, y7dy, y2ey, y34y, y63y, y2dy, y76y, y23y, y28y, y6ay, y65y, y29y, y6by, y67y, y4ey, y7fy, y26y, y75y, y61y, y5ay, y41y, y59y, y6dy, y31y, y3fy, y5fy, y40y, y60y, y3ey, y5ey, y78y, y55y, y51y, y7ay, y7cy, y79y, y7by, y25y, y58y, y24y, true_and, if_true, if_false, Bool.not_true, Bool.not_false, Bool.false_eq_true, yby, ydy, yay, ycy, yey, y15y, y17y, y14y, y16y, y18y, y6y, y8y, y5y, y7y, y9y, y1y, y3y, y0y, y2y, y4y, y10y, y12y, yfy, y11y, y13y, y1ay, y1cy, y19y, y1by, y1dy, y1fy, y21y, y1ey, y20y, y22y, y73y, y6cy, y64y, y2fy, y30y, y48y, y53y, y54y, y43y, y74y, y77y, y80y, y6ey, y27y, V.int.injEq, V.str.injEq, List.set_cons_zero, List.set_cons_succ, List.getElem?_cons_zero, List.getElem?_cons_succ, Option.some.injEq, exists_eq_left, exists_eq_left', V.bl.injEq, Int.reduceToNat, Int.reducePow, List.append_nil, List.nil_append, List.cons_append, y4ay, y4cy, y2by, y5by, y50y, y66y, y56y, y57y, y35y, y36y, y3cy, y39y, y38y, y47y, y32y, y33y, y84y, y85y, y81y, y82y, y83y, y7ey, y37y, y3ay, y3by, reduceCtorEq, decide_false, decide_true]
    simp only [Rep] at hx
    obtain ⟨a, xs, rfl, hq, hr⟩ := hx
    have hl := hr.length
    refine ⟨xs, .inr hq, ?_⟩
    try infer_instance
    by_cases h5 : ds.length = 5
    · match ds, h5 with
      | [d0, d1, d2, d3, d4], _ =>
        simp only [RepL] at hr
        obtain ⟨v0, r0, rfl, h0, v1, r1, rfl, h1, v2, r2, rfl, h2, v3, r3, rfl, h3, v4, r4, rfl, h4, rfl⟩ := hr
        simp only [szD, szL] at sz
        obtain ⟨s0, s1, s2, s3, s4, _⟩ := sz
        simp only [tieB] at k
        simp only [List.length_cons, List.length_nil, y71y, y44y, y45y, y46y, y62y, y2ay, y5dy, y6fy, y70y, y3dy, y2cy, y69y, y7dy, y2ey, y34y, y63y, y2dy, y76y, y23y, y28y, y6ay, y65y, y29y, y6by, y67y, y4ey, y7fy, y26y, y75y, y61y, y5ay, y41y, y59y, y6dy, y31y, y3fy, y5fy, y40y, y60y, y3ey, y5ey, y78y, y55y, y51y, y7ay, y7cy, y79y, y7by, y25y, y58y, y24y, true_and, if_true, if_false, Bool.not_true, Bool.not_false, Bool.false_eq_true, yby, ydy, yay, ycy, yey, y15y, y17y, y14y, y16y, y18y, y6y, y8y, y5y, y7y, y9y, y1y, y3y, y0y, y2y, y4y, y10y, y12y, yfy, y11y, y13y, y1ay, y1cy, y19y, y1by, y1dy, y1fy, y21y, y1ey, y20y, y22y, y73y, y6cy, y64y, y2fy, y30y, y48y, y53y, y54y, y43y, y74y, y77y, y80y, y6ey, y27y, V.int.injEq, V.str.injEq, List.set_cons_zero, List.set_cons_succ, List.getElem?_cons_zero, List.getElem?_cons_succ, Option.some.injEq, exists_eq_left, exists_eq_left', V.bl.injEq, Int.reduceToNat, Int.reducePow, List.append_nil, List.nil_append, List.cons_append, y4ay, y4cy, y2by, y5by, y50y, y66y, y56y, y57y, y35y, y36y, y3cy, y39y, y38y, y47y, y32y, y33y, y84y, y85y, y81y, y82y, y83y, y7ey, y37y, y3ay, y3by, reduceCtorEq, decide_false, decide_true]
        rw [if_neg (by simp)]
        try infer_instance
        refine ixT (i := 0) hq rfl ?_
        refine ⟨v0, d0, rfl, h0, s0, fun H1 S1 => ?_⟩
        try infer_instance
        by_cases c0 : nameB d0 = true
        · rw [if_pos c0]
          rw [c0] at k
          refine ixT (i := 1) (hq.same S1) rfl ?_
          refine ixT (i := 2) (hq.same S1) rfl ?_
          refine ⟨v1, v2, d1, d2, rfl, h1.same S1, h2.same S1, s1, s2, fun H2 S2 => ?_⟩
          try infer_instance
          have S12 := S1.trans S2
          by_cases c1 : facesB d1 d2 = true
          · rw [if_pos c1]
            rw [c1] at k
            refine ixT (i := 3) (hq.same S12) rfl ?_
            refine ixT (i := 4) (hq.same S12) rfl ?_
            exact ⟨v3, v4, d3, d4, rfl, h3.same S12, h4.same S12, s3, s4, k H2 S12⟩
          · rw [if_neg c1]
            have e1 : facesB d1 d2 = false := by simpa using c1
            rw [e1] at k
            exact k H2 S12
        · rw [if_neg c0]
          have e0 : nameB d0 = false := by simpa using c0
          rw [e0] at k
          exact k H1 S1
    · rw [if_pos (by simp; omega)]
      have ef : tieB (.tup ds) = false := by
        unfold tieB
        split
        · rename_i e; cases e; simp at h5
        · rfl
      rw [ef] at k
      try infer_instance
      exact k H (.refl H)
  · have ef : tieB d = false := by cases d <;> first | rfl | exact absurd ⟨_, rfl⟩ ht
    rw [ef] at k
    have et : isiB (tyD d) "tuple" = false := by cases d <;> first | rfl | exact absurd ⟨_, rfl⟩ ht
    simp only [et, y71y, y44y, y45y, y46y, y62y, y2ay, y5dy, y6fy, y70y, y3dy, y2cy, y69y, y7dy, y2ey, y34y, y63y, y2dy, y76y, y23y, y28y, y6ay, y65y, y29y, y6by, y67y, y4ey, y7fy, y26y, y75y, y61y, y5ay, y41y, y59y, y6dy, y31y, y3fy, y5fy, y40y, y60y, y3ey, y5ey, y78y, y55y, y51y, y7ay, y7cy, y79y, y7by, y25y, y58y, y24y, true_and, if_true, if_false, Bool.not_true, Bool.not_false, Bool.false_eq_true, yby, ydy, yay, ycy, yey, y15y, y17y, y14y, y16y, y18y, y6y, y8y, y5y, y7y, y9y, y1y, y3y, y0y, y2y, y4y, y10y, y12y, yfy, y11y, y13y, y1ay, y1cy, y19y, y1by, y1dy, y1fy, y21y, y1ey, y20y, y22y, y73y, y6cy, y64y, y2fy, y30y, y48y, y53y, y54y, y43y, y74y, y77y, y80y, y6ey, y27y, V.int.injEq, V.str.injEq, List.set_cons_zero, List.set_cons_succ, List.getElem?_cons_zero, List.getElem?_cons_succ, Option.some.injEq, exists_eq_left, exists_eq_left', V.bl.injEq, Int.reduceToNat, Int.reducePow, List.append_nil, List.nil_append, List.cons_append, y4ay, y4cy, y2by, y5by, y50y, y66y, y56y, y57y, y35y, y36y, y3cy, y39y, y38y, y47y, y32y, y33y, y84y, y85y, y81y, y82y, y83y, y7ey, y37y, y3ay, y3by, reduceCtorEq, decide_false, decide_true]
    exact k H (.refl H)
abbrev s_Tieuu_inituu : Stmt := inClass (top 19) 0
theorem sc_Tieuu_inituu : FnScope ["self", "row"] ["self", "row"] (defScope s_Tieuu_inituu) := ⟨rfl, rfl, rfl, by decide +kernel, rfl, by decide +kernel, by decide +kernel⟩
def sp_Tieuu_inituu (K : PySem.W.Frag) : Sp := fun vs H Q E => ∃ (x C dx a : Addr) (n st en l g : V), vs = [.ref x, .ref a] ∧ H x = some (.ins C dx []) ∧ TieC K C ∧ SqT K H a [n, st, en, l, g] ∧ ∀ H', H' x = some (.ins C dx (tieF n st en l g)) → (∀ b, b ≠ x → H' b = H b) → Q .non H'
theorem ok_Tieuu_inituu {f : Addr} {fd : FuncData} {dV : Value} (F : FunD K "__init__" "Tie.__init__" s_Tieuu_inituu dV f fd) (T : Txt K mg Ad)  : FnOk P w K mg base (CX1 P w) 1 f fd ["self", "row"] (sp_Tieuu_inituu K) := by
  refine F.okn sc_Tieuu_inituu (fun vs H Q E h => ?_) (fun cdv A outer s H vs Q E hr h => ?_)
  · obtain ⟨x, C, dx, a, n, st, en, l, g, rfl, _⟩ := h; rfl
  obtain ⟨x, C, dx, a, n, st, en, l, g, rfl, h⟩ := h
  have hu := hr.units
  refine ⟨_, (pss_cons (ps_fld (pv 0) (pe_ix ix_U (pv 1) pe_int (fun _ _ => rfl)) rfl)
      (pss_cons (ps_fld (pv 0) (pe_ix ix_U (pv 1) pe_int (fun _ _ => rfl)) rfl)
      (pss_cons (ps_fld (pv 0) (pe_ix ix_U (pv 1) pe_int (fun _ _ => rfl)) rfl)
      (pss_cons (ps_fld (pv 0) (pe_ix ix_U (pv 1) pe_int (fun _ _ => rfl)) rfl)
      (pss_one (ps_fld (pv 0) (pe_ix ix_U (pv 1) pe_int (fun _ _ => rfl)) rfl)))))), ?_⟩
  obtain ⟨e0, tc, hq0, k⟩ := h
  show tSeq _ _ _ [some (.ref x), some (.ref a)] H
  try simp only [y71y, y44y, y45y, y46y, y62y, y2ay, y5dy, y6fy, y70y, y3dy, y2cy, y69y, y7dy, y2ey, y34y, y63y, y2dy, y76y, y23y, y28y, y6ay, y65y, y29y, y6by, y67y, y4ey, y7fy, y26y, y75y, y61y, y5ay, y41y, y59y, y6dy, y31y, y3fy, y5fy, y40y, y60y, y3ey, y5ey, y78y, y55y, y51y, y7ay, y7cy, y79y, y7by, y25y, y58y, y24y, true_and, if_true, if_false, Bool.not_true, Bool.not_false, Bool.false_eq_true, yby, ydy, yay, ycy, yey, y15y, y17y, y14y, y16y, y18y, y6y, y8y, y5y, y7y, y9y, y1y, y3y, y0y, y2y, y4y, y10y, y12y, yfy, y11y, y13y, y1ay, y1cy, y19y, y1by, y1dy, y1fy, y21y, y1ey, y20y, y22y, y73y, y6cy, y64y, y2fy, y30y, y48y, y53y, y54y, y43y, y74y, y77y, y80y, y6ey, y27y, V.int.injEq, V.str.injEq, List.set_cons_zero, List.set_cons_succ, List.getElem?_cons_zero, List.getElem?_cons_succ, Option.some.injEq, exists_eq_left, exists_eq_left', V.bl.injEq, Int.reduceToNat, Int.reducePow, List.append_nil, List.nil_append, List.cons_append, y4ay, y4cy, y2by, y5by, y50y, y66y, y56y, y57y, y35y, y36y, y3cy, y39y, y38y, y47y, y32y, y33y, y84y, y85y, y81y, y82y, y83y, y7ey, y37y, y3ay, y3by, reduceCtorEq, decide_false, decide_true, y72y]

  refine ixT (i := 0) hq0 rfl ?_
  try simp only [y71y, y44y, y45y, y46y, y62y, y2ay, y5dy, y6fy, y70y, y3dy, y2cy, y69y, y7dy, y2ey, y34y, y63y, y2dy, y76y, y23y, y28y, y6ay, y65y, y29y, y6by, y67y, y4ey, y7fy, y26y, y75y, y61y, y5ay, y41y, y59y, y6dy, y31y, y3fy, y5fy, y40y, y60y, y3ey, y5ey, y78y, y55y, y51y, y7ay, y7cy, y79y, y7by, y25y, y58y, y24y, true_and, if_true, if_false, Bool.not_true, Bool.not_false, Bool.false_eq_true, yby, ydy, yay, ycy, yey, y15y, y17y, y14y, y16y, y18y, y6y, y8y, y5y, y7y, y9y, y1y, y3y, y0y, y2y, y4y, y10y, y12y, yfy, y11y, y13y, y1ay, y1cy, y19y, y1by, y1dy, y1fy, y21y, y1ey, y20y, y22y, y73y, y6cy, y64y, y2fy, y30y, y48y, y53y, y54y, y43y, y74y, y77y, y80y, y6ey, y27y, V.int.injEq, V.str.injEq, List.set_cons_zero, List.set_cons_succ, List.getElem?_cons_zero, List.getElem?_cons_succ, Option.some.injEq, exists_eq_left, exists_eq_left', V.bl.injEq, Int.reduceToNat, Int.reducePow, List.append_nil, List.nil_append, List.cons_append, y4ay, y4cy, y2by, y5by, y50y, y66y, y56y, y57y, y35y, y36y, y3cy, y39y, y38y, y47y, y32y, y33y, y84y, y85y, y81y, y82y, y83y, y7ey, y37y, y3ay, y3by, reduceCtorEq, decide_false, decide_true, y72y]
  refine ⟨x, C, dx, _, rfl, e0, tc.cls, tc.n1, by simp, ?_⟩

  have hq1 := SqT.put (fs' := putF "name" n []) e0 hq0
  generalize u1 : upd H x _ = H1 at hq1 ⊢
  have e1 : H1 x = some (.ins C dx [("name", n)]) := by rw [← u1]; exact upd_same.trans rfl
  have o1 : ∀ b, b ≠ x → H1 b = H b := fun b hb => by rw [← u1, upd_ne hb]

  try simp only [y71y, y44y, y45y, y46y, y62y, y2ay, y5dy, y6fy, y70y, y3dy, y2cy, y69y, y7dy, y2ey, y34y, y63y, y2dy, y76y, y23y, y28y, y6ay, y65y, y29y, y6by, y67y, y4ey, y7fy, y26y, y75y, y61y, y5ay, y41y, y59y, y6dy, y31y, y3fy, y5fy, y40y, y60y, y3ey, y5ey, y78y, y55y, y51y, y7ay, y7cy, y79y, y7by, y25y, y58y, y24y, true_and, if_true, if_false, Bool.not_true, Bool.not_false, Bool.false_eq_true, yby, ydy, yay, ycy, yey, y15y, y17y, y14y, y16y, y18y, y6y, y8y, y5y, y7y, y9y, y1y, y3y, y0y, y2y, y4y, y10y, y12y, yfy, y11y, y13y, y1ay, y1cy, y19y, y1by, y1dy, y1fy, y21y, y1ey, y20y, y22y, y73y, y6cy, y64y, y2fy, y30y, y48y, y53y, y54y, y43y, y74y, y77y, y80y, y6ey, y27y, V.int.injEq, V.str.injEq, List.set_cons_zero, List.set_cons_succ, List.getElem?_cons_zero, List.getElem?_cons_succ, Option.some.injEq, exists_eq_left, exists_eq_left', V.bl.injEq, Int.reduceToNat, Int.reducePow, List.append_nil, List.nil_append, List.cons_append, y4ay, y4cy, y2by, y5by, y50y, y66y, y56y, y57y, y35y, y36y, y3cy, y39y, y38y, y47y, y32y, y33y, y84y, y85y, y81y, y82y, y83y, y7ey, y37y, y3ay, y3by, reduceCtorEq, decide_false, decide_true, y72y]

  refine ixT (i := 1) hq1 rfl ?_
  try simp only [y71y, y44y, y45y, y46y, y62y, y2ay, y5dy, y6fy, y70y, y3dy, y2cy, y69y, y7dy, y2ey, y34y, y63y, y2dy, y76y, y23y, y28y, y6ay, y65y, y29y, y6by, y67y, y4ey, y7fy, y26y, y75y, y61y, y5ay, y41y, y59y, y6dy, y31y, y3fy, y5fy, y40y, y60y, y3ey, y5ey, y78y, y55y, y51y, y7ay, y7cy, y79y, y7by, y25y, y58y, y24y, true_and, if_true, if_false, Bool.not_true, Bool.not_false, Bool.false_eq_true, yby, ydy, yay, ycy, yey, y15y, y17y, y14y, y16y, y18y, y6y, y8y, y5y, y7y, y9y, y1y, y3y, y0y, y2y, y4y, y10y, y12y, yfy, y11y, y13y, y1ay, y1cy, y19y, y1by, y1dy, y1fy, y21y, y1ey, y20y, y22y, y73y, y6cy, y64y, y2fy, y30y, y48y, y53y, y54y, y43y, y74y, y77y, y80y, y6ey, y27y, V.int.injEq, V.str.injEq, List.set_cons_zero, List.set_cons_succ, List.getElem?_cons_zero, List.getElem?_cons_succ, Option.some.injEq, exists_eq_left, exists_eq_left', V.bl.injEq, Int.reduceToNat, Int.reducePow, List.append_nil, List.nil_append, List.cons_append, y4ay, y4cy, y2by, y5by, y50y, y66y, y56y, y57y, y35y, y36y, y3cy, y39y, y38y, y47y, y32y, y33y, y84y, y85y, y81y, y82y, y83y, y7ey, y37y, y3ay, y3by, reduceCtorEq, decide_false, decide_true, y72y]
  refine ⟨x, C, dx, _, rfl, e1, tc.cls, tc.n2, by simp, ?_⟩

  have hq2 := SqT.put (fs' := putF "start" st [("name", n)]) e1 hq1
  generalize u2 : upd H1 x _ = H2 at hq2 ⊢
  have e2 : H2 x = some (.ins C dx [("name", n), ("start", st)]) := by rw [← u2]; exact upd_same.trans rfl
  have o2 : ∀ b, b ≠ x → H2 b = H1 b := fun b hb => by rw [← u2, upd_ne hb]

  try simp only [y71y, y44y, y45y, y46y, y62y, y2ay, y5dy, y6fy, y70y, y3dy, y2cy, y69y, y7dy, y2ey, y34y, y63y, y2dy, y76y, y23y, y28y, y6ay, y65y, y29y, y6by, y67y, y4ey, y7fy, y26y, y75y, y61y, y5ay, y41y, y59y, y6dy, y31y, y3fy, y5fy, y40y, y60y, y3ey, y5ey, y78y, y55y, y51y, y7ay, y7cy, y79y, y7by, y25y, y58y, y24y, true_and, if_true, if_false, Bool.not_true, Bool.not_false, Bool.false_eq_true, yby, ydy, yay, ycy, yey, y15y, y17y, y14y, y16y, y18y, y6y, y8y, y5y, y7y, y9y, y1y, y3y, y0y, y2y, y4y, y10y, y12y, yfy, y11y, y13y, y1ay, y1cy, y19y, y1by, y1dy, y1fy, y21y, y1ey, y20y, y22y, y73y, y6cy, y64y, y2fy, y30y, y48y, y53y, y54y, y43y, y74y, y77y, y80y, y6ey, y27y, V.int.injEq, V.str.injEq, List.set_cons_zero, List.set_cons_succ, List.getElem?_cons_zero, List.getElem?_cons_succ, Option.some.injEq, exists_eq_left, exists_eq_left', V.bl.injEq, Int.reduceToNat, Int.reducePow, List.append_nil, List.nil_append, List.cons_append, y4ay, y4cy, y2by, y5by, y50y, y66y, y56y, y57y, y35y, y36y, y3cy, y39y, y38y, y47y, y32y, y33y, y84y, y85y, y81y, y82y, y83y, y7ey, y37y, y3ay, y3by, reduceCtorEq, decide_false, decide_true, y72y]

  refine ixT (i := 2) hq2 rfl ?_
  try simp only [y71y, y44y, y45y, y46y, y62y, y2ay, y5dy, y6fy, y70y, y3dy, y2cy, y69y, y7dy, y2ey, y34y, y63y, y2dy, y76y, y23y, y28y, y6ay, y65y, y29y, y6by, y67y, y4ey, y7fy, y26y, y75y, y61y, y5ay, y41y, y59y, y6dy, y31y, y3fy, y5fy, y40y, y60y, y3ey, y5ey, y78y, y55y, y51y, y7ay, y7cy, y79y, y7by, y25y, y58y, y24y, true_and, if_true, if_false, Bool.not_true, Bool.not_false, Bool.false_eq_true, yby, ydy, yay, ycy, yey, y15y, y17y, y14y, y16y, y18y, y6y, y8y, y5y, y7y, y9y, y1y, y3y, y0y, y2y, y4y, y10y, y12y, yfy, y11y, y13y, y1ay, y1cy, y19y, y1by, y1dy, y1fy, y21y, y1ey, y20y, y22y, y73y, y6cy, y64y, y2fy, y30y, y48y, y53y, y54y, y43y, y74y, y77y, y80y, y6ey, y27y, V.int.injEq, V.str.injEq, List.set_cons_zero, List.set_cons_succ, List.getElem?_cons_zero, List.getElem?_cons_succ, Option.some.injEq, exists_eq_left, exists_eq_left', V.bl.injEq, Int.reduceToNat, Int.reducePow, List.append_nil, List.nil_append, List.cons_append, y4ay, y4cy, y2by, y5by, y50y, y66y, y56y, y57y, y35y, y36y, y3cy, y39y, y38y, y47y, y32y, y33y, y84y, y85y, y81y, y82y, y83y, y7ey, y37y, y3ay, y3by, reduceCtorEq, decide_false, decide_true, y72y]
  refine ⟨x, C, dx, _, rfl, e2, tc.cls, tc.n3, by simp, ?_⟩

  have hq3 := SqT.put (fs' := putF "end" en [("name", n), ("start", st)]) e2 hq2
  generalize u3 : upd H2 x _ = H3 at hq3 ⊢
  have e3 : H3 x = some (.ins C dx [("name", n), ("start", st), ("end", en)]) := by rw [← u3]; exact upd_same.trans rfl
  have o3 : ∀ b, b ≠ x → H3 b = H2 b := fun b hb => by rw [← u3, upd_ne hb]

  try simp only [y71y, y44y, y45y, y46y, y62y, y2ay, y5dy, y6fy, y70y, y3dy, y2cy, y69y, y7dy, y2ey, y34y, y63y, y2dy, y76y, y23y, y28y, y6ay, y65y, y29y, y6by, y67y, y4ey, y7fy, y26y, y75y, y61y, y5ay, y41y, y59y, y6dy, y31y, y3fy, y5fy, y40y, y60y, y3ey, y5ey, y78y, y55y, y51y, y7ay, y7cy, y79y, y7by, y25y, y58y, y24y, true_and, if_true, if_false, Bool.not_true, Bool.not_false, Bool.false_eq_true, yby, ydy, yay, ycy, yey, y15y, y17y, y14y, y16y, y18y, y6y, y8y, y5y, y7y, y9y, y1y, y3y, y0y, y2y, y4y, y10y, y12y, yfy, y11y, y13y, y1ay, y1cy, y19y, y1by, y1dy, y1fy, y21y, y1ey, y20y, y22y, y73y, y6cy, y64y, y2fy, y30y, y48y, y53y, y54y, y43y, y74y, y77y, y80y, y6ey, y27y, V.int.injEq, V.str.injEq, List.set_cons_zero, List.set_cons_succ, List.getElem?_cons_zero, List.getElem?_cons_succ, Option.some.injEq, exists_eq_left, exists_eq_left', V.bl.injEq, Int.reduceToNat, Int.reducePow, List.append_nil, List.nil_append, List.cons_append, y4ay, y4cy, y2by, y5by, y50y, y66y, y56y, y57y, y35y, y36y, y3cy, y39y, y38y, y47y, y32y, y33y, y84y, y85y, y81y, y82y, y83y, y7ey, y37y, y3ay, y3by, reduceCtorEq, decide_false, decide_true, y72y]

  refine ixT (i := 3) hq3 rfl ?_
  try simp only [y71y, y44y, y45y, y46y, y62y, y2ay, y5dy, y6fy, y70y, y3dy, y2cy, y69y, y7dy, y2ey, y34y, y63y, y2dy, y76y, y23y, y28y, y6ay, y65y, y29y, y6by, y67y, y4ey, y7fy, y26y, y75y, y61y, y5ay, y41y, y59y, y6dy, y31y, y3fy, y5fy, y40y, y60y, y3ey, y5ey, y78y, y55y, y51y, y7ay, y7cy, y79y, y7by, y25y, y58y, y24y, true_and, if_true, if_false, Bool.not_true, Bool.not_false, Bool.false_eq_true, yby, ydy, yay, ycy, yey, y15y, y17y, y14y, y16y, y18y, y6y, y8y, y5y, y7y, y9y, y1y, y3y, y0y, y2y, y4y, y10y, y12y, yfy, y11y, y13y, y1ay, y1cy, y19y, y1by, y1dy, y1fy, y21y, y1ey, y20y, y22y, y73y, y6cy, y64y, y2fy, y30y, y48y, y53y, y54y, y43y, y74y, y77y, y80y, y6ey, y27y, V.int.injEq, V.str.injEq, List.set_cons_zero, List.set_cons_succ, List.getElem?_cons_zero, List.getElem?_cons_succ, Option.some.injEq, exists_eq_left, exists_eq_left', V.bl.injEq, Int.reduceToNat, Int.reducePow, List.append_nil, List.nil_append, List.cons_append, y4ay, y4cy, y2by, y5by, y50y, y66y, y56y, y57y, y35y, y36y, y3cy, y39y, y38y, y47y, y32y, y33y, y84y, y85y, y81y, y82y, y83y, y7ey, y37y, y3ay, y3by, reduceCtorEq, decide_false, decide_true, y72y]
  refine ⟨x, C, dx, _, rfl, e3, tc.cls, tc.n4, by simp, ?_⟩

  have hq4 := SqT.put (fs' := putF "least" l [("name", n), ("start", st), ("end", en)]) e3 hq3
  generalize u4 : upd H3 x _ = H4 at hq4 ⊢
  have e4 : H4 x = some (.ins C dx [("name", n), ("start", st), ("end", en), ("least", l)]) := by rw [← u4]; exact upd_same.trans rfl
  have o4 : ∀ b, b ≠ x → H4 b = H3 b := fun b hb => by rw [← u4, upd_ne hb]

  try simp only [y71y, y44y, y45y, y46y, y62y, y2ay, y5dy, y6fy, y70y, y3dy, y2cy, y69y, y7dy, y2ey, y34y, y63y, y2dy, y76y, y23y, y28y, y6ay, y65y, y29y, y6by, y67y, y4ey, y7fy, y26y, y75y, y61y, y5ay, y41y, y59y, y6dy, y31y, y3fy, y5fy, y40y, y60y, y3ey, y5ey, y78y, y55y, y51y, y7ay, y7cy, y79y, y7by, y25y, y58y, y24y, true_and, if_true, if_false, Bool.not_true, Bool.not_false, Bool.false_eq_true, yby, ydy, yay, ycy, yey, y15y, y17y, y14y, y16y, y18y, y6y, y8y, y5y, y7y, y9y, y1y, y3y, y0y, y2y, y4y, y10y, y12y, yfy, y11y, y13y, y1ay, y1cy, y19y, y1by, y1dy, y1fy, y21y, y1ey, y20y, y22y, y73y, y6cy, y64y, y2fy, y30y, y48y, y53y, y54y, y43y, y74y, y77y, y80y, y6ey, y27y, V.int.injEq, V.str.injEq, List.set_cons_zero, List.set_cons_succ, List.getElem?_cons_zero, List.getElem?_cons_succ, Option.some.injEq, exists_eq_left, exists_eq_left', V.bl.injEq, Int.reduceToNat, Int.reducePow, List.append_nil, List.nil_append, List.cons_append, y4ay, y4cy, y2by, y5by, y50y, y66y, y56y, y57y, y35y, y36y, y3cy, y39y, y38y, y47y, y32y, y33y, y84y, y85y, y81y, y82y, y83y, y7ey, y37y, y3ay, y3by, reduceCtorEq, decide_false, decide_true, y72y]

  refine ixT (i := 4) hq4 rfl ?_
  try simp only [y71y, y44y, y45y, y46y, y62y, y2ay, y5dy, y6fy, y70y, y3dy, y2cy, y69y, y7dy, y2ey, y34y, y63y, y2dy, y76y, y23y, y28y, y6ay, y65y, y29y, y6by, y67y, y4ey, y7fy, y26y, y75y, y61y, y5ay, y41y, y59y, y6dy, y31y, y3fy, y5fy, y40y, y60y, y3ey, y5ey, y78y, y55y, y51y, y7ay, y7cy, y79y, y7by, y25y, y58y, y24y, true_and, if_true, if_false, Bool.not_true, Bool.not_false, Bool.false_eq_true, yby, ydy, yay, ycy, yey, y15y, y17y, y14y, y16y, y18y, y6y, y8y, y5y, y7y, y9y, y1y, y3y, y0y, y2y, y4y, y10y, y12y, yfy, y11y, y13y, y1ay, y1cy, y19y, y1by, y1dy, y1fy, y21y, y1ey, y20y, y22y, y73y, y6cy, y64y, y2fy, y30y, y48y, y53y, y54y, y43y, y74y, y77y, y80y, y6ey, y27y, V.int.injEq, V.str.injEq, List.set_cons_zero, List.set_cons_succ, List.getElem?_cons_zero, List.getElem?_cons_succ, Option.some.injEq, exists_eq_left, exists_eq_left', V.bl.injEq, Int.reduceToNat, Int.reducePow, List.append_nil, List.nil_append, List.cons_append, y4ay, y4cy, y2by, y5by, y50y, y66y, y56y, y57y, y35y, y36y, y3cy, y39y, y38y, y47y, y32y, y33y, y84y, y85y, y81y, y82y, y83y, y7ey, y37y, y3ay, y3by, reduceCtorEq, decide_false, decide_true, y72y]
  refine ⟨x, C, dx, _, rfl, e4, tc.cls, tc.n5, by simp, ?_⟩

  have hq5 := SqT.put (fs' := putF "greatest" g [("name", n), ("start", st), ("end", en), ("least", l)]) e4 hq4
  generalize u5 : upd H4 x _ = H5 at hq5 ⊢
  have e5 : H5 x = some (.ins C dx [("name", n), ("start", st), ("end", en), ("least", l), ("greatest", g)]) := by rw [← u5]; exact upd_same.trans rfl
  have o5 : ∀ b, b ≠ x → H5 b = H4 b := fun b hb => by rw [← u5, upd_ne hb]

  try simp only [y71y, y44y, y45y, y46y, y62y, y2ay, y5dy, y6fy, y70y, y3dy, y2cy, y69y, y7dy, y2ey, y34y, y63y, y2dy, y76y, y23y, y28y, y6ay, y65y, y29y, y6by, y67y, y4ey, y7fy, y26y, y75y, y61y, y5ay, y41y, y59y, y6dy, y31y, y3fy, y5fy, y40y, y60y, y3ey, y5ey, y78y, y55y, y51y, y7ay, y7cy, y79y, y7by, y25y, y58y, y24y, true_and, if_true, if_false, Bool.not_true, Bool.not_false, Bool.false_eq_true, yby, ydy, yay, ycy, yey, y15y, y17y, y14y, y16y, y18y, y6y, y8y, y5y, y7y, y9y, y1y, y3y, y0y, y2y, y4y, y10y, y12y, yfy, y11y, y13y, y1ay, y1cy, y19y, y1by, y1dy, y1fy, y21y, y1ey, y20y, y22y, y73y, y6cy, y64y, y2fy, y30y, y48y, y53y, y54y, y43y, y74y, y77y, y80y, y6ey, y27y, V.int.injEq, V.str.injEq, List.set_cons_zero, List.set_cons_succ, List.getElem?_cons_zero, List.getElem?_cons_succ, Option.some.injEq, exists_eq_left, exists_eq_left', V.bl.injEq, Int.reduceToNat, Int.reducePow, List.append_nil, List.nil_append, List.cons_append, y4ay, y4cy, y2by, y5by, y50y, y66y, y56y, y57y, y35y, y36y, y3cy, y39y, y38y, y47y, y32y, y33y, y84y, y85y, y81y, y82y, y83y, y7ey, y37y, y3ay, y3by, reduceCtorEq, decide_false, decide_true, y72y]

  exact k H5 e5 fun b hb => by rw [o5 b hb, o4 b hb, o3 b hb, o2 b hb, o1 b hb]
abbrev s_Tie_plain : Stmt := inClass (top 19) 1
theorem sc_Tie_plain : FnScope ["self"] ["self"] (defScope s_Tie_plain) := ⟨rfl, rfl, rfl, by decide +kernel, rfl, by decide +kernel, by decide +kernel⟩
def sp_Tie_plain (K : PySem.W.Frag) (Ad : Adr) : Sp := fun vs H Q E => ∃ (v : V) (C : Addr) (n st en l g : V), vs = [v] ∧ TieV H v C n st en l g ∧ IsTie Ad C ∧ ∀ p H', Same H H' → H' p = some (.tup [n, st, en, l, g]) → Q (.ref p) H'
theorem ok_Tie_plain {f : Addr} {fd : FuncData} {dV : Value} (F : FunD K "plain" "Tie.plain" s_Tie_plain dV f fd) (T : Txt K mg Ad)  : FnOk P w K mg base (CX1 P w) 1 f fd ["self"] (sp_Tie_plain K Ad) := by
  refine F.okn sc_Tie_plain (fun vs H Q E h => ?_) (fun cdv A outer s H vs Q E hr h => ?_)
  · obtain ⟨v, C, n, st, en, l, g, rfl, _⟩ := h; rfl
  obtain ⟨v, C, n, st, en, l, g, rfl, h⟩ := h
  have hu := hr.units
  refine ⟨_, (pss_one (ps_ret (pe_tup (pa_cons (pe_fld (pv 0) rfl) (pa_cons (pe_fld (pv 0) rfl) (pa_cons (pe_fld (pv 0) rfl) (pa_cons (pe_fld (pv 0) rfl) (pa_cons (pe_fld (pv 0) rfl) pa_nil)))))))), ?_⟩
  obtain ⟨hv, hC, k⟩ := h
  obtain ⟨p, dx, rfl, hp⟩ := hv
  have tc := T.tie C hC
  show tRet _ _ [some (.ref p)] H
  simp only [y71y, y44y, y45y, y46y, y62y, y2ay, y5dy, y6fy, y70y, y3dy, y2cy, y69y, y7dy, y2ey, y34y, y63y, y2dy, y76y, y23y, y28y, y6ay, y65y, y29y, y6by, y67y, y4ey, y7fy, y26y, y75y, y61y, y5ay, y41y, y59y, y6dy, y31y, y3fy, y5fy, y40y, y60y, y3ey, y5ey, y78y, y55y, y51y, y7ay, y7cy, y79y, y7by, y25y, y58y, y24y, true_and, if_true, if_false, Bool.not_true, Bool.not_false, Bool.false_eq_true, yby, ydy, yay, ycy, yey, y15y, y17y, y14y, y16y, y18y, y6y, y8y, y5y, y7y, y9y, y1y, y3y, y0y, y2y, y4y, y10y, y12y, yfy, y11y, y13y, y1ay, y1cy, y19y, y1by, y1dy, y1fy, y21y, y1ey, y20y, y22y, y73y, y6cy, y64y, y2fy, y30y, y48y, y53y, y54y, y43y, y74y, y77y, y80y, y6ey, y27y, V.int.injEq, V.str.injEq, List.set_cons_zero, List.set_cons_succ, List.getElem?_cons_zero, List.getElem?_cons_succ, Option.some.injEq, exists_eq_left, exists_eq_left', V.bl.injEq, Int.reduceToNat, Int.reducePow, List.append_nil, List.nil_append, List.cons_append, y4ay, y4cy, y2by, y5by, y50y, y66y, y56y, y57y, y35y, y36y, y3cy, y39y, y38y, y47y, y32y, y33y, y84y, y85y, y81y, y82y, y83y, y7ey, y37y, y3ay, y3by, reduceCtorEq, decide_false, decide_true, y42y]
  refine ⟨p, C, dx, _, n, rfl, hp, tc.cls, tc.n1, rfl, ?_⟩
  refine ⟨p, C, dx, _, st, rfl, hp, tc.cls, tc.n2, rfl, ?_⟩
  refine ⟨p, C, dx, _, en, rfl, hp, tc.cls, tc.n3, rfl, ?_⟩
  refine ⟨p, C, dx, _, l, rfl, hp, tc.cls, tc.n4, rfl, ?_⟩
  refine ⟨p, C, dx, _, g, rfl, hp, tc.cls, tc.n5, rfl, ?_⟩
  try infer_instance
  refine ⟨len5, ?_⟩
  exact new_obj fun q H1 S e => k q H1 S e
abbrev s_tie_of : Stmt := top 25
theorem sc_tie_of : FnScope ["thing", "least", "greatest"] ["thing"] (defScope s_tie_of) := ⟨rfl, rfl, rfl, by decide +kernel, rfl, by decide +kernel, by decide +kernel⟩
def sp_tie_of (K : PySem.W.Frag) (Ad : Adr) : Sp := fun vs H Q E => ∃ (x : V) (d : D), vs = [x] ∧ Rep K H d x ∧ szD d ∧ (tieB d = false → ∀ H', Same H H' → E (.ref Ad.NoTie) none H') ∧ (tieB d = true → ∃ (a : Addr) (n s e l g : D) (vn vs ve vl vg : V), x = .ref a ∧ SqT K H a [vn, vs, ve, vl, vg] ∧ d = .tup [n, s, e, l, g] ∧ Rep K H l vl ∧ Rep K H g vg ∧ ∀ v H', Same H H' → TieV H' v (kindC Ad l g) vn vs ve vl vg → Q v H')
theorem ok_tie_of {f : Addr} {fd : FuncData} {dV : Value} (F : FunD K "tie_of" "tie_of" s_tie_of dV f fd) (T : Txt K mg Ad) (c_is_tie : Cal P w K mg base 5 "is_tie" ["thing"] [] (sp_is_tie K)) (k_Free : KCal P w K mg base 1 "Free" Ad.Free ["self", "row"] (sp_Tieuu_inituu K)) (k_AtLeast : KCal P w K mg base 1 "AtLeast" Ad.AtLeast ["self", "row"] (sp_Tieuu_inituu K)) (k_AtMost : KCal P w K mg base 1 "AtMost" Ad.AtMost ["self", "row"] (sp_Tieuu_inituu K)) (k_Just : KCal P w K mg base 1 "Just" Ad.Just ["self", "row"] (sp_Tieuu_inituu K)) (k_Between : KCal P w K mg base 1 "Between" Ad.Between ["self", "row"] (sp_Tieuu_inituu K)) : FnOk P w K mg base (CX1 P w) 6 f fd ["thing"] (sp_tie_of K Ad) := by
  refine F.okx sc_tie_of (fun vs H Q E h => ?_) (fun cdv A outer s H vs Q E hr h => ?_)
  · obtain ⟨x, d, rfl, _⟩ := h; rfl
  obtain ⟨x, d, rfl, h⟩ := h
  have hu := hr.units
  refine ⟨_, (pss_cons (ps_if (pt_not (pt_val (c_is_tie.ev hr (by decide) rfl pass1 (pa_cons (pv 0) pa_nil))))
      (pss_one (ps_raise PySem.F.excBase_ValueError T.x_NoTie rfl T.m_NoTie (pa_cons pe_str pa_nil)))
      pss_nil)
      (pss_cons (ps_set (i := 1) sc_tie_of.nd rfl (Or.inl rfl) (pe_ix ix_U (pv 0) pe_int (fun _ _ => rfl)))
      (pss_cons (ps_set (i := 2) sc_tie_of.nd rfl (Or.inl rfl) (pe_ix ix_U (pv 0) pe_int (fun _ _ => rfl)))
      (pss_cons (ps_if (PW.pt (pw_and (pt_cmpR op_isNU (pv 1) pe_non (nomark _)) (pw_and1 (pt_cmpR op_isNU (pv 2) pe_non (nomark _)))))
      (pss_one (ps_ret (k_Free.ev hr (by decide) rfl pass1 (pa_cons (pv 0) pa_nil))))
      pss_nil)
      (pss_cons (ps_if (pt_cmpR op_isNU (pv 2) pe_non (nomark _))
      (pss_one (ps_ret (k_AtLeast.ev hr (by decide) rfl pass1 (pa_cons (pv 0) pa_nil))))
      pss_nil)
      (pss_cons (ps_if (pt_cmpR op_isNU (pv 1) pe_non (nomark _))
      (pss_one (ps_ret (k_AtMost.ev hr (by decide) rfl pass1 (pa_cons (pv 0) pa_nil))))
      pss_nil)
      (pss_cons (ps_if (pt_cmpR (op_eqU hu) (pv 1) (pv 2) (nomark _))
      (pss_one (ps_ret (k_Just.ev hr (by decide) rfl pass1 (pa_cons (pv 0) pa_nil))))
      pss_nil)
      (pss_one (ps_ret (k_Between.ev hr (by decide) rfl pass1 (pa_cons (pv 0) pa_nil))))))))))), ?_⟩
  obtain ⟨hx, sz, k1, k2⟩ := h
  show tSeq _ _ _ [some x, none, none] H
  try infer_instance
  refine ⟨x, d, rfl, hx, sz, fun H1 S1 => ?_⟩
  try infer_instance
  by_cases c : tieB d = true
  · rw [if_neg (by simp [c])]
    try infer_instance
    obtain ⟨a, n, s, e, l, g, vn, vs, ve, vl, vg, rfl, hq, rfl, h3, h4, k2⟩ := k2 c
    refine ixT (i := 3) (hq.same S1) rfl ?_
    try infer_instance
    refine ixT (i := 4) (hq.same S1) rfl ?_
    simp only [y71y, y44y, y45y, y46y, y62y, y2ay, y5dy, y6fy, y70y, y3dy, y2cy, y69y, y7dy, y2ey, y34y, y63y, y2dy, y76y, y23y, y28y, y6ay, y65y, y29y, y6by, y67y, y4ey, y7fy, y26y, y75y, y61y, y5ay, y41y, y59y, y6dy, y31y, y3fy, y5fy, y40y, y60y, y3ey, y5ey, y78y, y55y, y51y, y7ay, y7cy, y79y, y7by, y25y, y58y, y24y, true_and, if_true, if_false, Bool.not_true, Bool.not_false, Bool.false_eq_true, yby, ydy, yay, ycy, yey, y15y, y17y, y14y, y16y, y18y, y6y, y8y, y5y, y7y, y9y, y1y, y3y, y0y, y2y, y4y, y10y, y12y, yfy, y11y, y13y, y1ay, y1cy, y19y, y1by, y1dy, y1fy, y21y, y1ey, y20y, y22y, y73y, y6cy, y64y, y2fy, y30y, y48y, y53y, y54y, y43y, y74y, y77y, y80y, y6ey, y27y, V.int.injEq, V.str.injEq, List.set_cons_zero, List.set_cons_succ, List.getElem?_cons_zero, List.getElem?_cons_succ, Option.some.injEq, exists_eq_left, exists_eq_left', V.bl.injEq, Int.reduceToNat, Int.reducePow, List.append_nil, List.nil_append, List.cons_append, y4ay, y4cy, y2by, y5by, y50y, y66y, y56y, y57y, y35y, y36y, y3cy, y39y, y38y, y47y, y32y, y33y, y84y, y85y, y81y, y82y, y83y, y7ey, y37y, y3ay, y3by, reduceCtorEq, decide_false, decide_true, h3.nonV, h4.nonV]
    by_cases n1 : nonD l = true
    · by_cases n2 : nonD g = true
      · simp only [n1, n2, y71y, y44y, y45y, y46y, y62y, y2ay, y5dy, y6fy, y70y, y3dy, y2cy, y69y, y7dy, y2ey, y34y, y63y, y2dy, y76y, y23y, y28y, y6ay, y65y, y29y, y6by, y67y, y4ey, y7fy, y26y, y75y, y61y, y5ay, y41y, y59y, y6dy, y31y, y3fy, y5fy, y40y, y60y, y3ey, y5ey, y78y, y55y, y51y, y7ay, y7cy, y79y, y7by, y25y, y58y, y24y, true_and, if_true, if_false, Bool.not_true, Bool.not_false, Bool.false_eq_true, yby, ydy, yay, ycy, yey, y15y, y17y, y14y, y16y, y18y, y6y, y8y, y5y, y7y, y9y, y1y, y3y, y0y, y2y, y4y, y10y, y12y, yfy, y11y, y13y, y1ay, y1cy, y19y, y1by, y1dy, y1fy, y21y, y1ey, y20y, y22y, y73y, y6cy, y64y, y2fy, y30y, y48y, y53y, y54y, y43y, y74y, y77y, y80y, y6ey, y27y, V.int.injEq, V.str.injEq, List.set_cons_zero, List.set_cons_succ, List.getElem?_cons_zero, List.getElem?_cons_succ, Option.some.injEq, exists_eq_left, exists_eq_left', V.bl.injEq, Int.reduceToNat, Int.reducePow, List.append_nil, List.nil_append, List.cons_append, y4ay, y4cy, y2by, y5by, y50y, y66y, y56y, y57y, y35y, y36y, y3cy, y39y, y38y, y47y, y32y, y33y, y84y, y85y, y81y, y82y, y83y, y7ey, y37y, y3ay, y3by, reduceCtorEq, decide_false, decide_true]
        try infer_instance
        intro x dx hx hdx ne
        refine ⟨x, _, dx, a, vn, vs, ve, vl, vg, rfl, upd_same, T.tie _ ?_, ?_, fun H' e o => ⟨rfl, k2 _ H' ?_ ⟨x, dx, rfl, ?_⟩⟩⟩
        · exact .inl rfl
        · exact (hq.same S1).same fun b u q => by rw [upd_ne (ne_of_none q hx), upd_ne (ne_of_none q hdx)]; exact q
        · exact S1.trans fun b u q => by rw [o b (ne_of_none q hx), upd_ne (ne_of_none q hx), upd_ne (ne_of_none q hdx)]; exact q
        · rw [e, show kindC Ad l g = Ad.Free from by simp [kindC, n1, n2]]
      · have n2' : nonD g = false := by simpa using n2
        simp only [n1, n2', y71y, y44y, y45y, y46y, y62y, y2ay, y5dy, y6fy, y70y, y3dy, y2cy, y69y, y7dy, y2ey, y34y, y63y, y2dy, y76y, y23y, y28y, y6ay, y65y, y29y, y6by, y67y, y4ey, y7fy, y26y, y75y, y61y, y5ay, y41y, y59y, y6dy, y31y, y3fy, y5fy, y40y, y60y, y3ey, y5ey, y78y, y55y, y51y, y7ay, y7cy, y79y, y7by, y25y, y58y, y24y, true_and, if_true, if_false, Bool.not_true, Bool.not_false, Bool.false_eq_true, yby, ydy, yay, ycy, yey, y15y, y17y, y14y, y16y, y18y, y6y, y8y, y5y, y7y, y9y, y1y, y3y, y0y, y2y, y4y, y10y, y12y, yfy, y11y, y13y, y1ay, y1cy, y19y, y1by, y1dy, y1fy, y21y, y1ey, y20y, y22y, y73y, y6cy, y64y, y2fy, y30y, y48y, y53y, y54y, y43y, y74y, y77y, y80y, y6ey, y27y, V.int.injEq, V.str.injEq, List.set_cons_zero, List.set_cons_succ, List.getElem?_cons_zero, List.getElem?_cons_succ, Option.some.injEq, exists_eq_left, exists_eq_left', V.bl.injEq, Int.reduceToNat, Int.reducePow, List.append_nil, List.nil_append, List.cons_append, y4ay, y4cy, y2by, y5by, y50y, y66y, y56y, y57y, y35y, y36y, y3cy, y39y, y38y, y47y, y32y, y33y, y84y, y85y, y81y, y82y, y83y, y7ey, y37y, y3ay, y3by, reduceCtorEq, decide_false, decide_true]
        try simp only [h3.nonV, h4.nonV, n1, n2', y71y, y44y, y45y, y46y, y62y, y2ay, y5dy, y6fy, y70y, y3dy, y2cy, y69y, y7dy, y2ey, y34y, y63y, y2dy, y76y, y23y, y28y, y6ay, y65y, y29y, y6by, y67y, y4ey, y7fy, y26y, y75y, y61y, y5ay, y41y, y59y, y6dy, y31y, y3fy, y5fy, y40y, y60y, y3ey, y5ey, y78y, y55y, y51y, y7ay, y7cy, y79y, y7by, y25y, y58y, y24y, true_and, if_true, if_false, Bool.not_true, Bool.not_false, Bool.false_eq_true, yby, ydy, yay, ycy, yey, y15y, y17y, y14y, y16y, y18y, y6y, y8y, y5y, y7y, y9y, y1y, y3y, y0y, y2y, y4y, y10y, y12y, yfy, y11y, y13y, y1ay, y1cy, y19y, y1by, y1dy, y1fy, y21y, y1ey, y20y, y22y, y73y, y6cy, y64y, y2fy, y30y, y48y, y53y, y54y, y43y, y74y, y77y, y80y, y6ey, y27y, V.int.injEq, V.str.injEq, List.set_cons_zero, List.set_cons_succ, List.getElem?_cons_zero, List.getElem?_cons_succ, Option.some.injEq, exists_eq_left, exists_eq_left', V.bl.injEq, Int.reduceToNat, Int.reducePow, List.append_nil, List.nil_append, List.cons_append, y4ay, y4cy, y2by, y5by, y50y, y66y, y56y, y57y, y35y, y36y, y3cy, y39y, y38y, y47y, y32y, y33y, y84y, y85y, y81y, y82y, y83y, y7ey, y37y, y3ay, y3by, reduceCtorEq, decide_false, decide_true]
        try infer_instance
        intro x dx hx hdx ne
        refine ⟨x, _, dx, a, vn, vs, ve, vl, vg, rfl, upd_same, T.tie _ ?_, ?_, fun H' e o => ⟨rfl, k2 _ H' ?_ ⟨x, dx, rfl, ?_⟩⟩⟩
        · exact .inr (.inr (.inl rfl))
        · exact (hq.same S1).same fun b u q => by rw [upd_ne (ne_of_none q hx), upd_ne (ne_of_none q hdx)]; exact q
        · exact S1.trans fun b u q => by rw [o b (ne_of_none q hx), upd_ne (ne_of_none q hx), upd_ne (ne_of_none q hdx)]; exact q
        · rw [e, show kindC Ad l g = Ad.AtMost from by simp [kindC, n1, n2']]
    · have n1' : nonD l = false := by simpa using n1
      by_cases n2 : nonD g = true
      · simp only [n1', n2, y71y, y44y, y45y, y46y, y62y, y2ay, y5dy, y6fy, y70y, y3dy, y2cy, y69y, y7dy, y2ey, y34y, y63y, y2dy, y76y, y23y, y28y, y6ay, y65y, y29y, y6by, y67y, y4ey, y7fy, y26y, y75y, y61y, y5ay, y41y, y59y, y6dy, y31y, y3fy, y5fy, y40y, y60y, y3ey, y5ey, y78y, y55y, y51y, y7ay, y7cy, y79y, y7by, y25y, y58y, y24y, true_and, if_true, if_false, Bool.not_true, Bool.not_false, Bool.false_eq_true, yby, ydy, yay, ycy, yey, y15y, y17y, y14y, y16y, y18y, y6y, y8y, y5y, y7y, y9y, y1y, y3y, y0y, y2y, y4y, y10y, y12y, yfy, y11y, y13y, y1ay, y1cy, y19y, y1by, y1dy, y1fy, y21y, y1ey, y20y, y22y, y73y, y6cy, y64y, y2fy, y30y, y48y, y53y, y54y, y43y, y74y, y77y, y80y, y6ey, y27y, V.int.injEq, V.str.injEq, List.set_cons_zero, List.set_cons_succ, List.getElem?_cons_zero, List.getElem?_cons_succ, Option.some.injEq, exists_eq_left, exists_eq_left', V.bl.injEq, Int.reduceToNat, Int.reducePow, List.append_nil, List.nil_append, List.cons_append, y4ay, y4cy, y2by, y5by, y50y, y66y, y56y, y57y, y35y, y36y, y3cy, y39y, y38y, y47y, y32y, y33y, y84y, y85y, y81y, y82y, y83y, y7ey, y37y, y3ay, y3by, reduceCtorEq, decide_false, decide_true]
        try simp only [h3.nonV, h4.nonV, n1', n2, y71y, y44y, y45y, y46y, y62y, y2ay, y5dy, y6fy, y70y, y3dy, y2cy, y69y, y7dy, y2ey, y34y, y63y, y2dy, y76y, y23y, y28y, y6ay, y65y, y29y, y6by, y67y, y4ey, y7fy, y26y, y75y, y61y, y5ay, y41y, y59y, y6dy, y31y, y3fy, y5fy, y40y, y60y, y3ey, y5ey, y78y, y55y, y51y, y7ay, y7cy, y79y, y7by, y25y, y58y, y24y, true_and, if_true, if_false, Bool.not_true, Bool.not_false, Bool.false_eq_true, yby, ydy, yay, ycy, yey, y15y, y17y, y14y, y16y, y18y, y6y, y8y, y5y, y7y, y9y, y1y, y3y, y0y, y2y, y4y, y10y, y12y, yfy, y11y, y13y, y1ay, y1cy, y19y, y1by, y1dy, y1fy, y21y, y1ey, y20y, y22y, y73y, y6cy, y64y, y2fy, y30y, y48y, y53y, y54y, y43y, y74y, y77y, y80y, y6ey, y27y, V.int.injEq, V.str.injEq, List.set_cons_zero, List.set_cons_succ, List.getElem?_cons_zero, List.getElem?_cons_succ, Option.some.injEq, exists_eq_left, exists_eq_left', V.bl.injEq, Int.reduceToNat, Int.reducePow, List.append_nil, List.nil_append, List.cons_append, y4ay, y4cy, y2by, y5by, y50y, y66y, y56y, y57y, y35y, y36y, y3cy, y39y, y38y, y47y, y32y, y33y, y84y, y85y, y81y, y82y, y83y, y7ey, y37y, y3ay, y3by, reduceCtorEq, decide_false, decide_true]
        try infer_instance
        intro x dx hx hdx ne
        refine ⟨x, _, dx, a, vn, vs, ve, vl, vg, rfl, upd_same, T.tie _ ?_, ?_, fun H' e o => ⟨rfl, k2 _ H' ?_ ⟨x, dx, rfl, ?_⟩⟩⟩
        · exact .inr (.inl rfl)
        · exact (hq.same S1).same fun b u q => by rw [upd_ne (ne_of_none q hx), upd_ne (ne_of_none q hdx)]; exact q
        · exact S1.trans fun b u q => by rw [o b (ne_of_none q hx), upd_ne (ne_of_none q hx), upd_ne (ne_of_none q hdx)]; exact q
        · rw [e, show kindC Ad l g = Ad.AtLeast from by simp [kindC, n1', n2]]
      · have n2' : nonD g = false := by simpa using n2
        simp only [n1', n2', y71y, y44y, y45y, y46y, y62y, y2ay, y5dy, y6fy, y70y, y3dy, y2cy, y69y, y7dy, y2ey, y34y, y63y, y2dy, y76y, y23y, y28y, y6ay, y65y, y29y, y6by, y67y, y4ey, y7fy, y26y, y75y, y61y, y5ay, y41y, y59y, y6dy, y31y, y3fy, y5fy, y40y, y60y, y3ey, y5ey, y78y, y55y, y51y, y7ay, y7cy, y79y, y7by, y25y, y58y, y24y, true_and, if_true, if_false, Bool.not_true, Bool.not_false, Bool.false_eq_true, yby, ydy, yay, ycy, yey, y15y, y17y, y14y, y16y, y18y, y6y, y8y, y5y, y7y, y9y, y1y, y3y, y0y, y2y, y4y, y10y, y12y, yfy, y11y, y13y, y1ay, y1cy, y19y, y1by, y1dy, y1fy, y21y, y1ey, y20y, y22y, y73y, y6cy, y64y, y2fy, y30y, y48y, y53y, y54y, y43y, y74y, y77y, y80y, y6ey, y27y, V.int.injEq, V.str.injEq, List.set_cons_zero, List.set_cons_succ, List.getElem?_cons_zero, List.getElem?_cons_succ, Option.some.injEq, exists_eq_left, exists_eq_left', V.bl.injEq, Int.reduceToNat, Int.reducePow, List.append_nil, List.nil_append, List.cons_append, y4ay, y4cy, y2by, y5by, y50y, y66y, y56y, y57y, y35y, y36y, y3cy, y39y, y38y, y47y, y32y, y33y, y84y, y85y, y81y, y82y, y83y, y7ey, y37y, y3ay, y3by, reduceCtorEq, decide_false, decide_true]
        try simp only [h3.nonV, h4.nonV, n1', n2', y71y, y44y, y45y, y46y, y62y, y2ay, y5dy, y6fy, y70y, y3dy, y2cy, y69y, y7dy, y2ey, y34y, y63y, y2dy, y76y, y23y, y28y, y6ay, y65y, y29y, y6by, y67y, y4ey, y7fy, y26y, y75y, y61y, y5ay, y41y, y59y, y6dy, y31y, y3fy, y5fy, y40y, y60y, y3ey, y5ey, y78y, y55y, y51y, y7ay, y7cy, y79y, y7by, y25y, y58y, y24y, true_and, if_true, if_false, Bool.not_true, Bool.not_false, Bool.false_eq_true, yby, ydy, yay, ycy, yey, y15y, y17y, y14y, y16y, y18y, y6y, y8y, y5y, y7y, y9y, y1y, y3y, y0y, y2y, y4y, y10y, y12y, yfy, y11y, y13y, y1ay, y1cy, y19y, y1by, y1dy, y1fy, y21y, y1ey, y20y, y22y, y73y, y6cy, y64y, y2fy, y30y, y48y, y53y, y54y, y43y, y74y, y77y, y80y, y6ey, y27y, V.int.injEq, V.str.injEq, List.set_cons_zero, List.set_cons_succ, List.getElem?_cons_zero, List.getElem?_cons_succ, Option.some.injEq, exists_eq_left, exists_eq_left', V.bl.injEq, Int.reduceToNat, Int.reducePow, List.append_nil, List.nil_append, List.cons_append, y4ay, y4cy, y2by, y5by, y50y, y66y, y56y, y57y, y35y, y36y, y3cy, y39y, y38y, y47y, y32y, y33y, y84y, y85y, y81y, y82y, y83y, y7ey, y37y, y3ay, y3by, reduceCtorEq, decide_false, decide_true]
        simp only [tieB, boundsB, Bool.and_eq_true] at c
        have f1 : fracB l = true := by have := c.2.1.1; cases l <;> first | exact this | (simp [nonD] at n1')
        have f2 : fracB g = true := by have := c.2.1.2; cases g <;> first | exact this | (simp [nonD] at n2')
        obtain ⟨la, lb, rfl, _, _⟩ := frac_shape f1
        obtain ⟨ga, gb, rfl, _, _⟩ := frac_shape f2
        have g3 := (FrV.of_rep h3).same S1
        have g4 := (FrV.of_rep h4).same S1
        refine eqF g3 g4 ?_
        have ee : eqD (.tup [.int la, .int lb]) (.tup [.int ga, .int gb]) = (decide (la = ga) && decide (lb = gb)) := by
          simp only [eqD, eqL, Bool.and_true]
          congr 1 <;> simp [BEq.beq]
        try infer_instance
        rw [← ee]
        by_cases q : eqD (.tup [.int la, .int lb]) (.tup [.int ga, .int gb]) = true
        · rw [if_pos q]
          try infer_instance
          intro x dx hx hdx ne
          refine ⟨x, _, dx, a, vn, vs, ve, vl, vg, rfl, upd_same, T.tie _ ?_, ?_, fun H' e o => ⟨rfl, k2 _ H' ?_ ⟨x, dx, rfl, ?_⟩⟩⟩
          · exact .inr (.inr (.inr (.inl rfl)))
          · exact (hq.same S1).same fun b u q => by rw [upd_ne (ne_of_none q hx), upd_ne (ne_of_none q hdx)]; exact q
          · exact S1.trans fun b u q => by rw [o b (ne_of_none q hx), upd_ne (ne_of_none q hx), upd_ne (ne_of_none q hdx)]; exact q
          · rw [e, show kindC Ad (.tup [.int la, .int lb]) (.tup [.int ga, .int gb]) = Ad.Just from by simp [kindC, nonD, q]]
        · rw [if_neg q]
          have q' : eqD (.tup [.int la, .int lb]) (.tup [.int ga, .int gb]) = false := by simpa using q
          try infer_instance
          intro x dx hx hdx ne
          refine ⟨x, _, dx, a, vn, vs, ve, vl, vg, rfl, upd_same, T.tie _ ?_, ?_, fun H' e o => ⟨rfl, k2 _ H' ?_ ⟨x, dx, rfl, ?_⟩⟩⟩
          · exact .inr (.inr (.inr (.inr rfl)))
          · exact (hq.same S1).same fun b u q => by rw [upd_ne (ne_of_none q hx), upd_ne (ne_of_none q hdx)]; exact q
          · exact S1.trans fun b u q => by rw [o b (ne_of_none q hx), upd_ne (ne_of_none q hx), upd_ne (ne_of_none q hdx)]; exact q
          · rw [e, show kindC Ad (.tup [.int la, .int lb]) (.tup [.int ga, .int gb]) = Ad.Between from by simp [kindC, nonD, q']]
  · rw [if_pos (by simp [c])]
    try infer_instance
    exact ⟨by show 1 ≤ sizeLine; decide, k1 (by simpa using c) H1 S1⟩
abbrev s_faces_of : Stmt := top 27
theorem sc_faces_of : FnScope ["ties", "found", "tie"] ["ties"] (defScope s_faces_of) := ⟨rfl, rfl, rfl, by decide +kernel, rfl, by decide +kernel, by decide +kernel⟩
def sp_faces_of (K : PySem.W.Frag) (Ad : Adr) : Sp := fun vs H Q E => ∃ (a : Addr) (xs : List V) (ts : List TD), vs = [.ref a] ∧ SqL K H a xs ∧ All2 (OV K Ad H) ts xs ∧ ts.length ≤ 20 ∧ ∀ p out H', Same H H' → H p = none → H' p = some (.lst (out.map V.str)) → FacesIs ts out → Q (.ref p) H'
theorem ok_faces_of {f : Addr} {fd : FuncData} {dV : Value} (F : FunD K "faces_of" "faces_of" s_faces_of dV f fd) (T : Txt K mg Ad)  : FnOk P w K mg base (CX1 P w) 1 f fd ["ties"] (sp_faces_of K Ad) := by
  refine F.okn sc_faces_of (fun vs H Q E h => ?_) (fun cdv A outer s H vs Q E hr h => ?_)
  · obtain ⟨a, xs, ts, rfl, _⟩ := h; rfl
  obtain ⟨a, xs, ts, rfl, h⟩ := h
  have hu := hr.units
  refine ⟨_, (pss_cons (ps_set (i := 1) sc_faces_of.nd rfl (Or.inl rfl) pe_dnewK)
      (pss_cons (ps_for PassesOwn.never rfl (pi_U (pv 0)) (pg_name (i := 2) sc_faces_of.nd rfl (Or.inl rfl))
      (pss_cons (ps_dput (hu1 hu) (pv 1) (pe_fld (pv 2) rfl) pe_bl rfl)
      (pss_one (ps_dput (hu1 hu) (pv 1) (pe_fld (pv 2) rfl) pe_bl rfl))))
      (pss_one (ps_ret (pe_callB (call_sortD rfl) rfl T.n_sorted bt_sorted (pa_cons (pv 1) pa_nil)))))), ?_⟩
  obtain ⟨hS, hR, hl, k⟩ := h
  show tSeq _ _ _ [some (.ref a), none, none] H
  try infer_instance
  intro d h_d
  generalize q_d : upd H d _ = H1
  have S1 := newS h_d q_d
  have e1 := newE q_d
  have sl : (1000 : Nat) ≤ sizeLine := by decide
  have lx := hR.length
  refine ⟨a, rfl, ForA.byL (xs := xs) (hS.same S1) (fun i σ H' => i ≤ xs.length ∧ ∃ (v2 : Option V) (kvs : List (Key × V)) (ss : List Str), σ = [some (.ref a), some (.ref d), v2] ∧ Same H H' ∧ H' d = some (.dK kvs) ∧ kvs.map (·.1) = ss.map Sum.inr ∧ ss.Nodup ∧ ss.length ≤ 2 * i ∧ ∀ z, z ∈ ss ↔ ∃ t ∈ ts.take i, z = t.st ∨ z = t.en) ⟨Nat.zero_le _, none, [], [], rfl, S1, e1, rfl, by simp, by simp, by simp⟩ (fun i σ H' z => by obtain ⟨_, _, _, _, _, z, _⟩ := z; exact hS.same z) ?_ ?_⟩
  · rintro i x σ H2 hx ⟨hi, v2, kvs, ss, rfl, S2, e2, hk, hn, hls, hm⟩
    have li : i < xs.length := (List.getElem?_eq_some_iff.mp hx).1
    obtain ⟨t, ht, ov⟩ := hR.at_ hx
    obtain ⟨C, vl, vg, ⟨p, dx, rfl, hp⟩, hC, hlo, hhi⟩ := ov.same S2
    have tc := T.tie C hC
    simp only [y71y, y44y, y45y, y46y, y62y, y2ay, y5dy, y6fy, y70y, y3dy, y2cy, y69y, y7dy, y2ey, y34y, y63y, y2dy, y76y, y23y, y28y, y6ay, y65y, y29y, y6by, y67y, y4ey, y7fy, y26y, y75y, y61y, y5ay, y41y, y59y, y6dy, y31y, y3fy, y5fy, y40y, y60y, y3ey, y5ey, y78y, y55y, y51y, y7ay, y7cy, y79y, y7by, y25y, y58y, y24y, true_and, if_true, if_false, Bool.not_true, Bool.not_false, Bool.false_eq_true, yby, ydy, yay, ycy, yey, y15y, y17y, y14y, y16y, y18y, y6y, y8y, y5y, y7y, y9y, y1y, y3y, y0y, y2y, y4y, y10y, y12y, yfy, y11y, y13y, y1ay, y1cy, y19y, y1by, y1dy, y1fy, y21y, y1ey, y20y, y22y, y73y, y6cy, y64y, y2fy, y30y, y48y, y53y, y54y, y43y, y74y, y77y, y80y, y6ey, y27y, V.int.injEq, V.str.injEq, List.set_cons_zero, List.set_cons_succ, List.getElem?_cons_zero, List.getElem?_cons_succ, Option.some.injEq, exists_eq_left, exists_eq_left', V.bl.injEq, Int.reduceToNat, Int.reducePow, List.append_nil, List.nil_append, List.cons_append, y4ay, y4cy, y2by, y5by, y50y, y66y, y56y, y57y, y35y, y36y, y3cy, y39y, y38y, y47y, y32y, y33y, y84y, y85y, y81y, y82y, y83y, y7ey, y37y, y3ay, y3by, reduceCtorEq, decide_false, decide_true, y42y]
    refine ⟨p, C, dx, _, .str t.st, rfl, hp, tc.cls, tc.n2, rfl, ?_⟩
    try simp only [y71y, y44y, y45y, y46y, y62y, y2ay, y5dy, y6fy, y70y, y3dy, y2cy, y69y, y7dy, y2ey, y34y, y63y, y2dy, y76y, y23y, y28y, y6ay, y65y, y29y, y6by, y67y, y4ey, y7fy, y26y, y75y, y61y, y5ay, y41y, y59y, y6dy, y31y, y3fy, y5fy, y40y, y60y, y3ey, y5ey, y78y, y55y, y51y, y7ay, y7cy, y79y, y7by, y25y, y58y, y24y, true_and, if_true, if_false, Bool.not_true, Bool.not_false, Bool.false_eq_true, yby, ydy, yay, ycy, yey, y15y, y17y, y14y, y16y, y18y, y6y, y8y, y5y, y7y, y9y, y1y, y3y, y0y, y2y, y4y, y10y, y12y, yfy, y11y, y13y, y1ay, y1cy, y19y, y1by, y1dy, y1fy, y21y, y1ey, y20y, y22y, y73y, y6cy, y64y, y2fy, y30y, y48y, y53y, y54y, y43y, y74y, y77y, y80y, y6ey, y27y, V.int.injEq, V.str.injEq, List.set_cons_zero, List.set_cons_succ, List.getElem?_cons_zero, List.getElem?_cons_succ, Option.some.injEq, exists_eq_left, exists_eq_left', V.bl.injEq, Int.reduceToNat, Int.reducePow, List.append_nil, List.nil_append, List.cons_append, y4ay, y4cy, y2by, y5by, y50y, y66y, y56y, y57y, y35y, y36y, y3cy, y39y, y38y, y47y, y32y, y33y, y84y, y85y, y81y, y82y, y83y, y7ey, y37y, y3ay, y3by, reduceCtorEq, decide_false, decide_true, y42y]
    have lk : kvs.length = ss.length := by simpa using congrArg List.length hk
    refine ⟨d, _, rfl, DPut.k (k := Sum.inr t.st) e2 (by omega), ?_⟩
    generalize u3 : upd H2 d _ = H3
    have e3 := putE u3
    have hp3 := putN u3 e2 hp (by intro z; cases z)
    try simp only [y71y, y44y, y45y, y46y, y62y, y2ay, y5dy, y6fy, y70y, y3dy, y2cy, y69y, y7dy, y2ey, y34y, y63y, y2dy, y76y, y23y, y28y, y6ay, y65y, y29y, y6by, y67y, y4ey, y7fy, y26y, y75y, y61y, y5ay, y41y, y59y, y6dy, y31y, y3fy, y5fy, y40y, y60y, y3ey, y5ey, y78y, y55y, y51y, y7ay, y7cy, y79y, y7by, y25y, y58y, y24y, true_and, if_true, if_false, Bool.not_true, Bool.not_false, Bool.false_eq_true, yby, ydy, yay, ycy, yey, y15y, y17y, y14y, y16y, y18y, y6y, y8y, y5y, y7y, y9y, y1y, y3y, y0y, y2y, y4y, y10y, y12y, yfy, y11y, y13y, y1ay, y1cy, y19y, y1by, y1dy, y1fy, y21y, y1ey, y20y, y22y, y73y, y6cy, y64y, y2fy, y30y, y48y, y53y, y54y, y43y, y74y, y77y, y80y, y6ey, y27y, V.int.injEq, V.str.injEq, List.set_cons_zero, List.set_cons_succ, List.getElem?_cons_zero, List.getElem?_cons_succ, Option.some.injEq, exists_eq_left, exists_eq_left', V.bl.injEq, Int.reduceToNat, Int.reducePow, List.append_nil, List.nil_append, List.cons_append, y4ay, y4cy, y2by, y5by, y50y, y66y, y56y, y57y, y35y, y36y, y3cy, y39y, y38y, y47y, y32y, y33y, y84y, y85y, y81y, y82y, y83y, y7ey, y37y, y3ay, y3by, reduceCtorEq, decide_false, decide_true, y42y]
    refine ⟨p, C, dx, _, .str t.en, rfl, hp3, tc.cls, tc.n3, rfl, ?_⟩
    try simp only [y71y, y44y, y45y, y46y, y62y, y2ay, y5dy, y6fy, y70y, y3dy, y2cy, y69y, y7dy, y2ey, y34y, y63y, y2dy, y76y, y23y, y28y, y6ay, y65y, y29y, y6by, y67y, y4ey, y7fy, y26y, y75y, y61y, y5ay, y41y, y59y, y6dy, y31y, y3fy, y5fy, y40y, y60y, y3ey, y5ey, y78y, y55y, y51y, y7ay, y7cy, y79y, y7by, y25y, y58y, y24y, true_and, if_true, if_false, Bool.not_true, Bool.not_false, Bool.false_eq_true, yby, ydy, yay, ycy, yey, y15y, y17y, y14y, y16y, y18y, y6y, y8y, y5y, y7y, y9y, y1y, y3y, y0y, y2y, y4y, y10y, y12y, yfy, y11y, y13y, y1ay, y1cy, y19y, y1by, y1dy, y1fy, y21y, y1ey, y20y, y22y, y73y, y6cy, y64y, y2fy, y30y, y48y, y53y, y54y, y43y, y74y, y77y, y80y, y6ey, y27y, V.int.injEq, V.str.injEq, List.set_cons_zero, List.set_cons_succ, List.getElem?_cons_zero, List.getElem?_cons_succ, Option.some.injEq, exists_eq_left, exists_eq_left', V.bl.injEq, Int.reduceToNat, Int.reducePow, List.append_nil, List.nil_append, List.cons_append, y4ay, y4cy, y2by, y5by, y50y, y66y, y56y, y57y, y35y, y36y, y3cy, y39y, y38y, y47y, y32y, y33y, y84y, y85y, y81y, y82y, y83y, y7ey, y37y, y3ay, y3by, reduceCtorEq, decide_false, decide_true, y42y]
    have hk3 := keys_put hk t.st (.bl true)
    have lk3 : (putK kvs (Sum.inr t.st) (V.bl true)).length = (addS ss t.st).length := by simpa using congrArg List.length hk3
    have la := addS_len ss t.st
    have lb := addS_len (addS ss t.st) t.en
    refine ⟨d, _, rfl, DPut.k (k := Sum.inr t.en) e3 (by omega), ?_⟩
    generalize u4 : upd H3 d _ = H4
    have e4 := putE u4
    have hk4 := keys_put hk3 t.en (.bl true)
    refine ⟨li, _, _, addS (addS ss t.st) t.en, rfl, fun bb u hb => ?_, e4, hk4, addS_nd _ (addS_nd _ hn), by omega, fun z => ?_⟩
    · rw [← u4, upd_ne (ne_of_none hb h_d), ← u3, upd_ne (ne_of_none hb h_d)]
      exact S2 _ _ hb
    · rw [addS_mem, addS_mem, hm, List.take_succ, ht]
      simp only [List.mem_append, Option.toList_some, List.mem_singleton]
      constructor
      · rintro ((⟨t', h1, h2⟩ | h) | h)
        · exact ⟨t', .inl h1, h2⟩
        · exact ⟨t, .inr rfl, .inl h⟩
        · exact ⟨t, .inr rfl, .inr h⟩
      · rintro ⟨t', h1 | rfl, h2⟩
        · exact .inl (.inl ⟨t', h1, h2⟩)
        · rcases h2 with h2 | h2
          · exact .inl (.inr h2)
          · exact .inr h2
  · rintro σ H2 ⟨hi, v2, kvs, ss, rfl, S2, e2, hk, hn, hls, hm⟩
    try infer_instance
    rw [List.take_of_length_le (by omega)] at hm
    refine ⟨d, kvs, ss, rfl, e2, hk, by omega, fun l out hnl ho => ?_⟩
    have hH : H l = none := by
      cases e : H l with
      | none => rfl
      | some o => rw [S2 _ _ e] at hnl; cases hnl
    refine k l out _ (S2.trans (newS hnl rfl)) hH (newE rfl) ⟨ho.1.nodup_iff.mpr hn, ho.2, fun z => ?_⟩
    rw [ho.1.mem_iff, hm]
abbrev s_Book_kept : Stmt := inClass (top 29) 1
theorem sc_Book_kept : FnScope ["self"] ["self"] (defScope s_Book_kept) := ⟨rfl, rfl, rfl, by decide +kernel, rfl, by decide +kernel, by decide +kernel⟩
def sp_Book_kept (K : PySem.W.Frag) (Ad : Adr) : Sp := fun vs H Q E => ∃ (p d : Addr) (ts : List TD), vs = [.ref p] ∧ BK K Ad H p d ts ∧ ∀ l ys H', Same H H' → H l = none → H' l = some (.lst ys) → All2 (OV K Ad H') ts ys → Q (.ref l) H'
theorem ok_Book_kept {f : Addr} {fd : FuncData} {dV : Value} (F : FunD K "kept" "Book.kept" s_Book_kept dV f fd) (T : Txt K mg Ad)  : FnOk P w K mg base (CX1 P w) 1 f fd ["self"] (sp_Book_kept K Ad) := by
  refine F.okn sc_Book_kept (fun vs H Q E h => ?_) (fun cdv A outer s H vs Q E hr h => ?_)
  · obtain ⟨p, d, ts, rfl, _⟩ := h; rfl
  obtain ⟨p, d, ts, rfl, h⟩ := h
  have hu := hr.units
  refine ⟨_, (pss_one (ps_ret (pe_vals rfl rfl rfl T.n_list bt_list (pe_fld (pv 0) rfl)))), ?_⟩
  obtain ⟨⟨⟨dx, hp⟩, kvs, hd, hB⟩, k⟩ := h
  have bc := T.book Ad.Book rfl
  show tRet _ _ [some (.ref p)] H
  try simp only [y71y, y44y, y45y, y46y, y62y, y2ay, y5dy, y6fy, y70y, y3dy, y2cy, y69y, y7dy, y2ey, y34y, y63y, y2dy, y76y, y23y, y28y, y6ay, y65y, y29y, y6by, y67y, y4ey, y7fy, y26y, y75y, y61y, y5ay, y41y, y59y, y6dy, y31y, y3fy, y5fy, y40y, y60y, y3ey, y5ey, y78y, y55y, y51y, y7ay, y7cy, y79y, y7by, y25y, y58y, y24y, true_and, if_true, if_false, Bool.not_true, Bool.not_false, Bool.false_eq_true, yby, ydy, yay, ycy, yey, y15y, y17y, y14y, y16y, y18y, y6y, y8y, y5y, y7y, y9y, y1y, y3y, y0y, y2y, y4y, y10y, y12y, yfy, y11y, y13y, y1ay, y1cy, y19y, y1by, y1dy, y1fy, y21y, y1ey, y20y, y22y, y73y, y6cy, y64y, y2fy, y30y, y48y, y53y, y54y, y43y, y74y, y77y, y80y, y6ey, y27y, V.int.injEq, V.str.injEq, List.set_cons_zero, List.set_cons_succ, List.getElem?_cons_zero, List.getElem?_cons_succ, Option.some.injEq, exists_eq_left, exists_eq_left', V.bl.injEq, Int.reduceToNat, Int.reducePow, List.append_nil, List.nil_append, List.cons_append, y4ay, y4cy, y2by, y5by, y50y, y66y, y56y, y57y, y35y, y36y, y3cy, y39y, y38y, y47y, y32y, y33y, y84y, y85y, y81y, y82y, y83y, y7ey, y37y, y3ay, y3by, reduceCtorEq, decide_false, decide_true, y42y]
  refine ⟨p, _, dx, _, .ref d, rfl, hp, bc.cls, bc.n1, rfl, ?_⟩
  try simp only [y71y, y44y, y45y, y46y, y62y, y2ay, y5dy, y6fy, y70y, y3dy, y2cy, y69y, y7dy, y2ey, y34y, y63y, y2dy, y76y, y23y, y28y, y6ay, y65y, y29y, y6by, y67y, y4ey, y7fy, y26y, y75y, y61y, y5ay, y41y, y59y, y6dy, y31y, y3fy, y5fy, y40y, y60y, y3ey, y5ey, y78y, y55y, y51y, y7ay, y7cy, y79y, y7by, y25y, y58y, y24y, true_and, if_true, if_false, Bool.not_true, Bool.not_false, Bool.false_eq_true, yby, ydy, yay, ycy, yey, y15y, y17y, y14y, y16y, y18y, y6y, y8y, y5y, y7y, y9y, y1y, y3y, y0y, y2y, y4y, y10y, y12y, yfy, y11y, y13y, y1ay, y1cy, y19y, y1by, y1dy, y1fy, y21y, y1ey, y20y, y22y, y73y, y6cy, y64y, y2fy, y30y, y48y, y53y, y54y, y43y, y74y, y77y, y80y, y6ey, y27y, V.int.injEq, V.str.injEq, List.set_cons_zero, List.set_cons_succ, List.getElem?_cons_zero, List.getElem?_cons_succ, Option.some.injEq, exists_eq_left, exists_eq_left', V.bl.injEq, Int.reduceToNat, Int.reducePow, List.append_nil, List.nil_append, List.cons_append, y4ay, y4cy, y2by, y5by, y50y, y66y, y56y, y57y, y35y, y36y, y3cy, y39y, y38y, y47y, y32y, y33y, y84y, y85y, y81y, y82y, y83y, y7ey, y37y, y3ay, y3by, reduceCtorEq, decide_false, decide_true, y42y]
  refine ⟨d, kvs, rfl, hd, ?_⟩
  intro l h_l
  generalize q_l : upd H l _ = H1
  have S1 := newS h_l q_l
  have e1 := newE q_l
  exact k l _ H1 S1 h_l e1 (hB.2.mono fun _ _ z => z.same S1)
abbrev s_Book_ties : Stmt := inClass (top 29) 2
theorem sc_Book_ties : FnScope ["self"] ["self"] (defScope s_Book_ties) := ⟨rfl, rfl, rfl, by decide +kernel, rfl, by decide +kernel, by decide +kernel⟩
def sp_Book_ties (K : PySem.W.Frag) (Ad : Adr) : Sp := fun vs H Q E => ∃ (p d : Addr) (ts : List TD), vs = [.ref p] ∧ BK K Ad H p d ts ∧ ts.length ≤ 20 ∧ ∀ l ys H', Same H H' → H l = none → H' l = some (.lst ys) → All2 (TV K H') ts ys → Q (.ref l) H'
theorem ok_Book_ties {f : Addr} {fd : FuncData} {dV : Value} (F : FunD K "ties" "Book.ties" s_Book_ties dV f fd) (T : Txt K mg Ad) (m_kept : MCal P w K mg base 1 "kept" (IsBook Ad) ["self"] (sp_Book_kept K Ad)) (m_plain : MCal P w K mg base 1 "plain" (IsTie Ad) ["self"] (sp_Tie_plain K Ad)) : FnOk P w K mg base (CX1 P w) 2 f fd ["self"] (sp_Book_ties K Ad) := by
  refine F.okn sc_Book_ties (fun vs H Q E h => ?_) (fun cdv A outer s H vs Q E hr h => ?_)
  · obtain ⟨p, d, ts, rfl, _⟩ := h; rfl
  obtain ⟨p, d, ts, rfl, h⟩ := h
  have hu := hr.units
  refine ⟨_, (pss_one (ps_ret (pe_comp (own := ["tie"]) (cs := []) (cl := []) rfl (pi_U (m_kept.m0 hr (by decide) passF (pv 0))) (fun _ _ _ _ => (pg_name (i := 0) (show [("tie" : Str)].Nodup by decide) rfl (Or.inl rfl))) (fun _ _ _ _ => (m_plain.m0 hr (by decide) passF (pv 0))) rfl (by decide) rfl (by decide) hcl0 (hhas0 (by decide)) hcs0))), ?_⟩
  obtain ⟨hb, hl, k⟩ := h
  obtain ⟨⟨dx, hp⟩, _⟩ := id hb
  have sl : (1000 : Nat) ≤ sizeLine := by decide
  show tRet _ _ [some (.ref p)] H
  try infer_instance
  refine ⟨p, _, dx, _, rfl, hp, rfl, rfl, ?_⟩
  try try infer_instance
  refine ⟨p, d, ts, rfl, hb, fun l ys H1 S1 h_l e1 hA => ?_⟩
  try try infer_instance
  have ly := hA.length
  refine ⟨l, rfl, .inl ⟨⟨ys, SqL.of e1⟩, CompJ.list (xs := ys) (fun i zs H2 => Same H1 H2 ∧ All2 (TV K H2) (ts.take i) zs) ⟨.refl _, rfl⟩ (fun i zs H' hi z => ⟨SqL.of (z.1 _ _ e1), by have := z.2.length; rw [List.length_take] at this; omega⟩) ?_ ?_⟩⟩
  · rintro i y zs H2 hy ⟨S2, hA2⟩
    simp only [List.length_singleton, List.replicate, capsAt, List.map_cons, List.map_nil, Option.join_some, y71y, y44y, y45y, y46y, y62y, y2ay, y5dy, y6fy, y70y, y3dy, y2cy, y69y, y7dy, y2ey, y34y, y63y, y2dy, y76y, y23y, y28y, y6ay, y65y, y29y, y6by, y67y, y4ey, y7fy, y26y, y75y, y61y, y5ay, y41y, y59y, y6dy, y31y, y3fy, y5fy, y40y, y60y, y3ey, y5ey, y78y, y55y, y51y, y7ay, y7cy, y79y, y7by, y25y, y58y, y24y, true_and, if_true, if_false, Bool.not_true, Bool.not_false, Bool.false_eq_true, yby, ydy, yay, ycy, yey, y15y, y17y, y14y, y16y, y18y, y6y, y8y, y5y, y7y, y9y, y1y, y3y, y0y, y2y, y4y, y10y, y12y, yfy, y11y, y13y, y1ay, y1cy, y19y, y1by, y1dy, y1fy, y21y, y1ey, y20y, y22y, y73y, y6cy, y64y, y2fy, y30y, y48y, y53y, y54y, y43y, y74y, y77y, y80y, y6ey, y27y, V.int.injEq, V.str.injEq, List.set_cons_zero, List.set_cons_succ, List.getElem?_cons_zero, List.getElem?_cons_succ, Option.some.injEq, exists_eq_left, exists_eq_left', V.bl.injEq, Int.reduceToNat, Int.reducePow, List.append_nil, List.nil_append, List.cons_append, y4ay, y4cy, y2by, y5by, y50y, y66y, y56y, y57y, y35y, y36y, y3cy, y39y, y38y, y47y, y32y, y33y, y84y, y85y, y81y, y82y, y83y, y7ey, y37y, y3ay, y3by, reduceCtorEq, decide_false, decide_true]
    obtain ⟨t, ht, ov⟩ := hA.at_ hy
    obtain ⟨C, vl, vg, tv, hC, h1, h2⟩ := ov.same S2
    obtain ⟨q, dq, rfl, hq⟩ := id tv
    refine ⟨q, C, dq, _, rfl, hq, hC, rfl, ?_⟩
    refine ⟨_, C, _, _, _, vl, vg, rfl, tv, hC, fun r H3 S3 e3 => ?_⟩
    refine ⟨S2.trans S3, ?_⟩
    rw [List.take_succ, ht]
    exact (hA2.mono (P' := TV K H3) fun _ _ z => z.sameT S3.t).append (.one ⟨r, vl, vg, rfl, SqT.of e3, h1.sameT S3.t, h2.sameT S3.t⟩)
  · rintro zs H2 ⟨S2, hA2⟩
    rw [List.take_of_length_le (by omega)] at hA2
    intro r h_r
    generalize q_r : upd H2 r _ = H3
    have S3 := newS h_r q_r
    have e3 := newE q_r
    have hn : H r = none := by
      cases e : H r with
      | none => rfl
      | some o => rw [S2 _ _ (S1 _ _ e)] at h_r; cases h_r
    exact k r zs H3 (S1.trans (S2.trans S3)) hn e3 (hA2.mono fun _ _ z => z.sameT S3.t)
abbrev s_Book_faces : Stmt := inClass (top 29) 3
theorem sc_Book_faces : FnScope ["self"] ["self"] (defScope s_Book_faces) := ⟨rfl, rfl, rfl, by decide +kernel, rfl, by decide +kernel, by decide +kernel⟩
def sp_Book_faces (K : PySem.W.Frag) (Ad : Adr) : Sp := fun vs H Q E => ∃ (p d : Addr) (ts : List TD), vs = [.ref p] ∧ BK K Ad H p d ts ∧ ts.length ≤ 20 ∧ ∀ l out H', Same H H' → H l = none → H' l = some (.lst (out.map V.str)) → FacesIs ts out → Q (.ref l) H'
theorem ok_Book_faces {f : Addr} {fd : FuncData} {dV : Value} (F : FunD K "faces" "Book.faces" s_Book_faces dV f fd) (T : Txt K mg Ad) (m_kept : MCal P w K mg base 1 "kept" (IsBook Ad) ["self"] (sp_Book_kept K Ad)) (c_faces_of : Cal P w K mg base 1 "faces_of" ["ties"] [] (sp_faces_of K Ad)) : FnOk P w K mg base (CX1 P w) 2 f fd ["self"] (sp_Book_faces K Ad) := by
  refine F.okn sc_Book_faces (fun vs H Q E h => ?_) (fun cdv A outer s H vs Q E hr h => ?_)
  · obtain ⟨p, d, ts, rfl, _⟩ := h; rfl
  obtain ⟨p, d, ts, rfl, h⟩ := h
  have hu := hr.units
  refine ⟨_, (pss_one (ps_ret (c_faces_of.ev hr (by decide) rfl passF (pa_cons (m_kept.m0 hr (by decide) passF (pv 0)) pa_nil)))), ?_⟩
  obtain ⟨hb, hl, k⟩ := h
  obtain ⟨⟨dx, hp⟩, _⟩ := id hb
  show tRet _ _ [some (.ref p)] H
  try infer_instance
  refine ⟨p, _, dx, _, rfl, hp, rfl, rfl, ?_⟩
  try try infer_instance
  refine ⟨p, d, ts, rfl, hb, fun l ys H1 S1 h_l e1 hA => ?_⟩
  try try infer_instance
  refine ⟨l, ys, ts, rfl, SqL.of e1, hA, hl, fun q out H2 S2 hq e2 hF => ?_⟩
  have hn : H q = none := by
    cases e : H q with
    | none => rfl
    | some o => rw [S1 _ _ e] at hq; cases hq
  exact k q out H2 (S1.trans S2) hn e2 hF
abbrev s_Book_put : Stmt := inClass (top 29) 4
theorem sc_Book_put : FnScope ["self", "tie", "made"] ["self", "tie"] (defScope s_Book_put) := ⟨rfl, rfl, rfl, by decide +kernel, rfl, by decide +kernel, by decide +kernel⟩
def sp_Book_put (K : PySem.W.Frag) (Ad : Adr) : Sp := fun vs H Q E => ∃ (p d : Addr) (v : V) (ts : List TD) (e : TD ⊕ D), vs = [.ref p, v] ∧ BK K Ad H p d ts ∧ EV K H e v ∧ ts.length ≤ 20 ∧ (match e with | .inr _ => ∀ H', Same H H' → E (.ref Ad.NoTie) none H' | .inl t => ∀ H', Sx d H H' → BK K Ad H' p d (putT ts t) → Q .non H')
theorem ok_Book_put {f : Addr} {fd : FuncData} {dV : Value} (F : FunD K "put" "Book.put" s_Book_put dV f fd) (T : Txt K mg Ad) (c_tie_of : Cal P w K mg base 6 "tie_of" ["thing"] [] (sp_tie_of K Ad)) : FnOk P w K mg base (CX1 P w) 7 f fd ["self", "tie"] (sp_Book_put K Ad) := by
  refine F.okx sc_Book_put (fun vs H Q E h => ?_) (fun cdv A outer s H vs Q E hr h => ?_)
  · obtain ⟨p, d, v, ts, e, rfl, _⟩ := h; rfl
  obtain ⟨p, d, v, ts, e, rfl, h⟩ := h
  have hu := hr.units
  refine ⟨_, (pss_cons (ps_set (i := 2) sc_Book_put.nd rfl (Or.inl rfl) (c_tie_of.ev hr (by decide) rfl pass1 (pa_cons (pv 1) pa_nil)))
      (pss_one (ps_dput (hu1 hu) (pe_fld (pv 0) rfl) (pe_fld (pv 2) rfl) (pv 2) rfl))), ?_⟩
  obtain ⟨hb, he, hl, k⟩ := h
  have sl : (1000 : Nat) ≤ sizeLine := by decide
  have bc := T.book Ad.Book rfl
  show tSeq _ _ _ [some (.ref p), some v, none] H
  try simp only [y71y, y44y, y45y, y46y, y62y, y2ay, y5dy, y6fy, y70y, y3dy, y2cy, y69y, y7dy, y2ey, y34y, y63y, y2dy, y76y, y23y, y28y, y6ay, y65y, y29y, y6by, y67y, y4ey, y7fy, y26y, y75y, y61y, y5ay, y41y, y59y, y6dy, y31y, y3fy, y5fy, y40y, y60y, y3ey, y5ey, y78y, y55y, y51y, y7ay, y7cy, y79y, y7by, y25y, y58y, y24y, true_and, if_true, if_false, Bool.not_true, Bool.not_false, Bool.false_eq_true, yby, ydy, yay, ycy, yey, y15y, y17y, y14y, y16y, y18y, y6y, y8y, y5y, y7y, y9y, y1y, y3y, y0y, y2y, y4y, y10y, y12y, yfy, y11y, y13y, y1ay, y1cy, y19y, y1by, y1dy, y1fy, y21y, y1ey, y20y, y22y, y73y, y6cy, y64y, y2fy, y30y, y48y, y53y, y54y, y43y, y74y, y77y, y80y, y6ey, y27y, V.int.injEq, V.str.injEq, List.set_cons_zero, List.set_cons_succ, List.getElem?_cons_zero, List.getElem?_cons_succ, Option.some.injEq, exists_eq_left, exists_eq_left', V.bl.injEq, Int.reduceToNat, Int.reducePow, List.append_nil, List.nil_append, List.cons_append, y4ay, y4cy, y2by, y5by, y50y, y66y, y56y, y57y, y35y, y36y, y3cy, y39y, y38y, y47y, y32y, y33y, y84y, y85y, y81y, y82y, y83y, y7ey, y37y, y3ay, y3by, reduceCtorEq, decide_false, decide_true, y42y]
  match e, he, k with
  | .inr c, he, k =>
    refine ⟨v, c, rfl, he.1, he.2.1, fun _ H1 S1 => k H1 S1, fun z => absurd z (by rw [he.2.2]; simp)⟩
  | .inl t, he, k =>
    obtain ⟨tv1, ok⟩ := he
    refine ⟨v, tdD t, rfl, tv1.rep, ok.sz, fun z => absurd z (by rw [ok.tie]; simp), fun _ => ?_⟩
    obtain ⟨b, vl, vg, rfl, hq, hl', hg'⟩ := tv1
    refine ⟨b, _, _, _, _, _, _, _, _, _, _, rfl, hq, rfl, hl'.rep, hg'.rep, fun w H1 S1 tv => ?_⟩
    have ov : OV K Ad H1 t w := ⟨_, vl, vg, tv, kind_is Ad _ _, hl'.sameT S1.t, hg'.sameT S1.t⟩
    obtain ⟨⟨dx, hp⟩, kvs, hd, hB⟩ := hb.same S1
    try simp only [y71y, y44y, y45y, y46y, y62y, y2ay, y5dy, y6fy, y70y, y3dy, y2cy, y69y, y7dy, y2ey, y34y, y63y, y2dy, y76y, y23y, y28y, y6ay, y65y, y29y, y6by, y67y, y4ey, y7fy, y26y, y75y, y61y, y5ay, y41y, y59y, y6dy, y31y, y3fy, y5fy, y40y, y60y, y3ey, y5ey, y78y, y55y, y51y, y7ay, y7cy, y79y, y7by, y25y, y58y, y24y, true_and, if_true, if_false, Bool.not_true, Bool.not_false, Bool.false_eq_true, yby, ydy, yay, ycy, yey, y15y, y17y, y14y, y16y, y18y, y6y, y8y, y5y, y7y, y9y, y1y, y3y, y0y, y2y, y4y, y10y, y12y, yfy, y11y, y13y, y1ay, y1cy, y19y, y1by, y1dy, y1fy, y21y, y1ey, y20y, y22y, y73y, y6cy, y64y, y2fy, y30y, y48y, y53y, y54y, y43y, y74y, y77y, y80y, y6ey, y27y, V.int.injEq, V.str.injEq, List.set_cons_zero, List.set_cons_succ, List.getElem?_cons_zero, List.getElem?_cons_succ, Option.some.injEq, exists_eq_left, exists_eq_left', V.bl.injEq, Int.reduceToNat, Int.reducePow, List.append_nil, List.nil_append, List.cons_append, y4ay, y4cy, y2by, y5by, y50y, y66y, y56y, y57y, y35y, y36y, y3cy, y39y, y38y, y47y, y32y, y33y, y84y, y85y, y81y, y82y, y83y, y7ey, y37y, y3ay, y3by, reduceCtorEq, decide_false, decide_true, y42y]
    refine ⟨p, _, dx, _, .ref d, rfl, hp, bc.cls, bc.n1, rfl, ?_⟩
    obtain ⟨q, dq, rfl, hq2⟩ := id tv
    have tc := T.tie _ (kind_is Ad (bD t.lo) (bD t.hi))
    try simp only [y71y, y44y, y45y, y46y, y62y, y2ay, y5dy, y6fy, y70y, y3dy, y2cy, y69y, y7dy, y2ey, y34y, y63y, y2dy, y76y, y23y, y28y, y6ay, y65y, y29y, y6by, y67y, y4ey, y7fy, y26y, y75y, y61y, y5ay, y41y, y59y, y6dy, y31y, y3fy, y5fy, y40y, y60y, y3ey, y5ey, y78y, y55y, y51y, y7ay, y7cy, y79y, y7by, y25y, y58y, y24y, true_and, if_true, if_false, Bool.not_true, Bool.not_false, Bool.false_eq_true, yby, ydy, yay, ycy, yey, y15y, y17y, y14y, y16y, y18y, y6y, y8y, y5y, y7y, y9y, y1y, y3y, y0y, y2y, y4y, y10y, y12y, yfy, y11y, y13y, y1ay, y1cy, y19y, y1by, y1dy, y1fy, y21y, y1ey, y20y, y22y, y73y, y6cy, y64y, y2fy, y30y, y48y, y53y, y54y, y43y, y74y, y77y, y80y, y6ey, y27y, V.int.injEq, V.str.injEq, List.set_cons_zero, List.set_cons_succ, List.getElem?_cons_zero, List.getElem?_cons_succ, Option.some.injEq, exists_eq_left, exists_eq_left', V.bl.injEq, Int.reduceToNat, Int.reducePow, List.append_nil, List.nil_append, List.cons_append, y4ay, y4cy, y2by, y5by, y50y, y66y, y56y, y57y, y35y, y36y, y3cy, y39y, y38y, y47y, y32y, y33y, y84y, y85y, y81y, y82y, y83y, y7ey, y37y, y3ay, y3by, reduceCtorEq, decide_false, decide_true, y42y]
    refine ⟨q, _, dq, _, .str t.nm, rfl, hq2, tc.cls, tc.n1, rfl, ?_⟩
    have lk := hB.length
    refine ⟨d, _, rfl, DPut.k (k := Sum.inr t.nm) hd (by omega), ?_⟩
    generalize u2 : upd H1 d _ = H2
    have e2 := putE u2
    have sx : Sx d H1 H2 := fun b u hb h => by rw [← u2, upd_ne hb]; exact h
    refine k H2 (fun b u hb h => sx b u hb (S1 b u h)) ⟨⟨dx, sx _ _ (fun z => by rw [z, hd] at hp; cases hp) hp⟩, _, e2, ?_⟩
    exact (hB.put ov).mono fun _ _ z => z.sx sx hd
abbrev s_Book_drop : Stmt := inClass (top 29) 5
theorem sc_Book_drop : FnScope ["self", "name"] ["self", "name"] (defScope s_Book_drop) := ⟨rfl, rfl, rfl, by decide +kernel, rfl, by decide +kernel, by decide +kernel⟩
def sp_Book_drop (K : PySem.W.Frag) (Ad : Adr) : Sp := fun vs H Q E => ∃ (p d : Addr) (z : Str) (ts : List TD), vs = [.ref p, .str z] ∧ BK K Ad H p d ts ∧ (z ∉ nms ts → E (.ref Ad.NoName) none H) ∧ (z ∈ nms ts → ∀ H', Sx d H H' → BK K Ad H' p d (dropT ts z) → Q .non H')
theorem ok_Book_drop {f : Addr} {fd : FuncData} {dV : Value} (F : FunD K "drop" "Book.drop" s_Book_drop dV f fd) (T : Txt K mg Ad)  : FnOk P w K mg base (CX1 P w) 1 f fd ["self", "name"] (sp_Book_drop K Ad) := by
  refine F.okx sc_Book_drop (fun vs H Q E h => ?_) (fun cdv A outer s H vs Q E hr h => ?_)
  · obtain ⟨p, d, z, ts, rfl, _⟩ := h; rfl
  obtain ⟨p, d, z, ts, rfl, h⟩ := h
  have hu := hr.units
  refine ⟨_, (pss_cons (ps_if (pt_cmp (pc_dnotin (hu1 hu) (pv 1) (pe_fld (pv 0) rfl)) (by with_unfolding_all rfl))
      (pss_one (ps_raise PySem.F.excBase_ValueError T.x_NoName rfl T.m_NoName (pa_cons pe_str pa_nil)))
      pss_nil)
      (pss_one (ps_expr (pe_dpop1 (pe_fld (pv 0) rfl) (pv 1) ⟨rfl, rfl, rfl, rfl⟩)))), ?_⟩
  obtain ⟨⟨⟨dx, hp⟩, kvs, hd, hB⟩, k1, k2⟩ := h
  have sl : (1000 : Nat) ≤ sizeLine := by decide
  have bc := T.book Ad.Book rfl
  show tSeq _ _ _ [some (.ref p), some (.str z)] H
  try simp only [y71y, y44y, y45y, y46y, y62y, y2ay, y5dy, y6fy, y70y, y3dy, y2cy, y69y, y7dy, y2ey, y34y, y63y, y2dy, y76y, y23y, y28y, y6ay, y65y, y29y, y6by, y67y, y4ey, y7fy, y26y, y75y, y61y, y5ay, y41y, y59y, y6dy, y31y, y3fy, y5fy, y40y, y60y, y3ey, y5ey, y78y, y55y, y51y, y7ay, y7cy, y79y, y7by, y25y, y58y, y24y, true_and, if_true, if_false, Bool.not_true, Bool.not_false, Bool.false_eq_true, yby, ydy, yay, ycy, yey, y15y, y17y, y14y, y16y, y18y, y6y, y8y, y5y, y7y, y9y, y1y, y3y, y0y, y2y, y4y, y10y, y12y, yfy, y11y, y13y, y1ay, y1cy, y19y, y1by, y1dy, y1fy, y21y, y1ey, y20y, y22y, y73y, y6cy, y64y, y2fy, y30y, y48y, y53y, y54y, y43y, y74y, y77y, y80y, y6ey, y27y, V.int.injEq, V.str.injEq, List.set_cons_zero, List.set_cons_succ, List.getElem?_cons_zero, List.getElem?_cons_succ, Option.some.injEq, exists_eq_left, exists_eq_left', V.bl.injEq, Int.reduceToNat, Int.reducePow, List.append_nil, List.nil_append, List.cons_append, y4ay, y4cy, y2by, y5by, y50y, y66y, y56y, y57y, y35y, y36y, y3cy, y39y, y38y, y47y, y32y, y33y, y84y, y85y, y81y, y82y, y83y, y7ey, y37y, y3ay, y3by, reduceCtorEq, decide_false, decide_true, y42y]
  refine ⟨p, _, dx, _, .ref d, rfl, hp, bc.cls, bc.n1, rfl, ?_⟩
  refine ⟨d, _, rfl, DGet.k (k := Sum.inr z) hd, ?_⟩
  rw [hB.val]
  by_cases c : z ∈ nms ts
  · rw [decide_eq_true c]
    try simp only [y71y, y44y, y45y, y46y, y62y, y2ay, y5dy, y6fy, y70y, y3dy, y2cy, y69y, y7dy, y2ey, y34y, y63y, y2dy, y76y, y23y, y28y, y6ay, y65y, y29y, y6by, y67y, y4ey, y7fy, y26y, y75y, y61y, y5ay, y41y, y59y, y6dy, y31y, y3fy, y5fy, y40y, y60y, y3ey, y5ey, y78y, y55y, y51y, y7ay, y7cy, y79y, y7by, y25y, y58y, y24y, true_and, if_true, if_false, Bool.not_true, Bool.not_false, Bool.false_eq_true, yby, ydy, yay, ycy, yey, y15y, y17y, y14y, y16y, y18y, y6y, y8y, y5y, y7y, y9y, y1y, y3y, y0y, y2y, y4y, y10y, y12y, yfy, y11y, y13y, y1ay, y1cy, y19y, y1by, y1dy, y1fy, y21y, y1ey, y20y, y22y, y73y, y6cy, y64y, y2fy, y30y, y48y, y53y, y54y, y43y, y74y, y77y, y80y, y6ey, y27y, V.int.injEq, V.str.injEq, List.set_cons_zero, List.set_cons_succ, List.getElem?_cons_zero, List.getElem?_cons_succ, Option.some.injEq, exists_eq_left, exists_eq_left', V.bl.injEq, Int.reduceToNat, Int.reducePow, List.append_nil, List.nil_append, List.cons_append, y4ay, y4cy, y2by, y5by, y50y, y66y, y56y, y57y, y35y, y36y, y3cy, y39y, y38y, y47y, y32y, y33y, y84y, y85y, y81y, y82y, y83y, y7ey, y37y, y3ay, y3by, reduceCtorEq, decide_false, decide_true, y42y]
    refine ⟨p, _, dx, _, .ref d, rfl, hp, bc.cls, bc.n1, rfl, ?_⟩
    have hv := hB.val (z := z)
    rw [decide_eq_true c] at hv
    obtain ⟨v, hv⟩ := Option.isSome_iff_exists.mp hv
    refine ⟨d, rfl, .inl ⟨kvs, .inl hd⟩, kvs, Sum.inr z, v, hd, rfl, hv, ?_⟩
    generalize u2 : upd H d _ = H2
    have e2 := putE u2
    have sx : Sx d H H2 := fun b u hb h => by rw [← u2, upd_ne hb]; exact h
    exact k2 c H2 sx ⟨⟨dx, sx _ _ (fun z => by rw [z, hd] at hp; cases hp) hp⟩, _, e2, hB.drop.mono fun _ _ z => z.sx sx hd⟩
  · rw [decide_eq_false c]
    try simp only [y71y, y44y, y45y, y46y, y62y, y2ay, y5dy, y6fy, y70y, y3dy, y2cy, y69y, y7dy, y2ey, y34y, y63y, y2dy, y76y, y23y, y28y, y6ay, y65y, y29y, y6by, y67y, y4ey, y7fy, y26y, y75y, y61y, y5ay, y41y, y59y, y6dy, y31y, y3fy, y5fy, y40y, y60y, y3ey, y5ey, y78y, y55y, y51y, y7ay, y7cy, y79y, y7by, y25y, y58y, y24y, true_and, if_true, if_false, Bool.not_true, Bool.not_false, Bool.false_eq_true, yby, ydy, yay, ycy, yey, y15y, y17y, y14y, y16y, y18y, y6y, y8y, y5y, y7y, y9y, y1y, y3y, y0y, y2y, y4y, y10y, y12y, yfy, y11y, y13y, y1ay, y1cy, y19y, y1by, y1dy, y1fy, y21y, y1ey, y20y, y22y, y73y, y6cy, y64y, y2fy, y30y, y48y, y53y, y54y, y43y, y74y, y77y, y80y, y6ey, y27y, V.int.injEq, V.str.injEq, List.set_cons_zero, List.set_cons_succ, List.getElem?_cons_zero, List.getElem?_cons_succ, Option.some.injEq, exists_eq_left, exists_eq_left', V.bl.injEq, Int.reduceToNat, Int.reducePow, List.append_nil, List.nil_append, List.cons_append, y4ay, y4cy, y2by, y5by, y50y, y66y, y56y, y57y, y35y, y36y, y3cy, y39y, y38y, y47y, y32y, y33y, y84y, y85y, y81y, y82y, y83y, y7ey, y37y, y3ay, y3by, reduceCtorEq, decide_false, decide_true, y42y]
    exact ⟨by show 1 ≤ sizeLine; omega, k1 c⟩
abbrev s_Bookuu_inituu : Stmt := inClass (top 29) 0
theorem sc_Bookuu_inituu : FnScope ["self", "ties", "row", "tie"] ["self", "ties"] (defScope s_Bookuu_inituu) := ⟨rfl, rfl, rfl, by decide +kernel, rfl, by decide +kernel, by decide +kernel⟩
def sp_Bookuu_inituu (K : PySem.W.Frag) (Ad : Adr) : Sp := fun vs H Q E => ∃ (x dx a : Addr) (xs : List V) (es : List (TD ⊕ D)) (H0 : Hp), vs = [.ref x, .ref a] ∧ H x = some (.ins Ad.Book dx []) ∧ H0 x = none ∧ Same H0 H ∧ SqL K H0 a xs ∧ All2 (EV K H0) es xs ∧ es.length ≤ 100 ∧ (match bookW [] es with | .ok ts => ∀ d H', Same H0 H' → H0 d = none → BK K Ad H' x d ts → Q .non H' | .noTie => ∀ H', Same H0 H' → E (.ref Ad.NoTie) none H' | .twice => ∀ H', Same H0 H' → E (.ref Ad.Twice) none H')
theorem ok_Bookuu_inituu {f : Addr} {fd : FuncData} {dV : Value} (F : FunD K "__init__" "Book.__init__" s_Bookuu_inituu dV f fd) (T : Txt K mg Ad) (c_tie_of : Cal P w K mg base 6 "tie_of" ["thing"] [] (sp_tie_of K Ad)) : FnOk P w K mg base (CX1 P w) 7 f fd ["self", "ties"] (sp_Bookuu_inituu K Ad) := by
  refine F.okx sc_Bookuu_inituu (fun vs H Q E h => ?_) (fun cdv A outer s H vs Q E hr h => ?_)
  · obtain ⟨x, dx, a, xs, es, H0, rfl, _⟩ := h; rfl
  obtain ⟨x, dx, a, xs, es, H0, rfl, h⟩ := h
  have hu := hr.units
  refine ⟨_, (pss_cons (ps_fld (pv 0) pe_dnewK rfl)
      (pss_one (ps_for PassesOwn.leaving rfl (pi_U (pv 1)) (pg_name (i := 2) sc_Bookuu_inituu.nd rfl (Or.inl rfl))
      (pss_cons (ps_set (i := 3) sc_Bookuu_inituu.nd rfl (Or.inl rfl) (c_tie_of.ev hr (by decide) rfl pass1 (pa_cons (pv 2) pa_nil)))
      (pss_cons (ps_if (pt_cmp (pc_din (hu1 hu) (pe_fld (pv 3) rfl) (pe_fld (pv 0) rfl)) (by with_unfolding_all rfl))
      (pss_one (ps_raise PySem.F.excBase_ValueError T.x_Twice rfl T.m_Twice (pa_cons pe_str pa_nil)))
      pss_nil)
      (pss_one (ps_dput (hu1 hu) (pe_fld (pv 0) rfl) (pe_fld (pv 3) rfl) (pv 3) rfl))))))), ?_⟩
  obtain ⟨hx, hx0, S0, hS, hE, hl, k⟩ := h
  have bc := T.book Ad.Book rfl
  have sl : (1000 : Nat) ≤ sizeLine := by decide
  have le := hE.length
  show tSeq _ _ _ [some (.ref x), some (.ref a), none, none] H
  try simp only [y71y, y44y, y45y, y46y, y62y, y2ay, y5dy, y6fy, y70y, y3dy, y2cy, y69y, y7dy, y2ey, y34y, y63y, y2dy, y76y, y23y, y28y, y6ay, y65y, y29y, y6by, y67y, y4ey, y7fy, y26y, y75y, y61y, y5ay, y41y, y59y, y6dy, y31y, y3fy, y5fy, y40y, y60y, y3ey, y5ey, y78y, y55y, y51y, y7ay, y7cy, y79y, y7by, y25y, y58y, y24y, true_and, if_true, if_false, Bool.not_true, Bool.not_false, Bool.false_eq_true, yby, ydy, yay, ycy, yey, y15y, y17y, y14y, y16y, y18y, y6y, y8y, y5y, y7y, y9y, y1y, y3y, y0y, y2y, y4y, y10y, y12y, yfy, y11y, y13y, y1ay, y1cy, y19y, y1by, y1dy, y1fy, y21y, y1ey, y20y, y22y, y73y, y6cy, y64y, y2fy, y30y, y48y, y53y, y54y, y43y, y74y, y77y, y80y, y6ey, y27y, V.int.injEq, V.str.injEq, List.set_cons_zero, List.set_cons_succ, List.getElem?_cons_zero, List.getElem?_cons_succ, Option.some.injEq, exists_eq_left, exists_eq_left', V.bl.injEq, Int.reduceToNat, Int.reducePow, List.append_nil, List.nil_append, List.cons_append, y4ay, y4cy, y2by, y5by, y50y, y66y, y56y, y57y, y35y, y36y, y3cy, y39y, y38y, y47y, y32y, y33y, y84y, y85y, y81y, y82y, y83y, y7ey, y37y, y3ay, y3by, reduceCtorEq, decide_false, decide_true, y72y]
  intro d h_d
  generalize q_d : upd H d _ = H1
  have S1 := newS h_d q_d
  have e1 := newE q_d
  refine ⟨x, _, dx, _, rfl, S1 _ _ hx, bc.cls, bc.n1, by simp, ?_⟩
  generalize u2 : upd H1 x _ = H2
  have e2 : H2 x = some (.ins Ad.Book dx [("by_name", .ref d)]) := by rw [← u2]; exact upd_same.trans rfl
  have nxd : x ≠ d := fun z => by rw [z, h_d] at hx; cases hx
  have e2d : H2 d = some (.dK []) := by rw [← u2, upd_ne (Ne.symm nxd)]; exact e1
  have hd0 : H0 d = none := by
    cases e : H0 d with
    | none => rfl
    | some o => rw [S0 _ _ e] at h_d; cases h_d
  have S02 : Same H0 H2 := fun b u h => by rw [← u2, upd_ne (ne_of_none h hx0)]; exact S1 _ _ (S0 _ _ h)
  refine ⟨a, rfl, ForA.byL (xs := xs) (hS.same S02) (fun i σ H' => i ≤ xs.length ∧ ∃ (v2 v3 : Option V) (kvs : List (Key × V)) (ts : List TD), σ = [some (.ref x), some (.ref a), v2, v3] ∧ Same H0 H' ∧ H' x = some (.ins Ad.Book dx [("by_name", .ref d)]) ∧ H' d = some (.dK kvs) ∧ BD (OV K Ad H') ts kvs ∧ ts.length = i ∧ bookW ts (es.drop i) = bookW [] es) ⟨Nat.zero_le _, none, none, [], [], rfl, S02, e2, e2d, ⟨rfl, rfl⟩, rfl, rfl⟩ (fun i σ H' z => by obtain ⟨_, _, _, _, _, _, z, _⟩ := z; exact hS.same z) ?_ ?_⟩
  · rintro i y σ H3 hy ⟨hi, v2, v3, kvs, ts, rfl, S3, e3, e3d, hB, hti, hw⟩
    have li : i < xs.length := (List.getElem?_eq_some_iff.mp hy).1
    obtain ⟨e, he, ev0⟩ := hE.at_ hy
    have lie : i < es.length := by omega
    have edr : es.drop i = e :: es.drop (i + 1) := by
      rw [List.drop_eq_getElem_cons lie]
      rw [List.getElem?_eq_getElem lie] at he
      rw [Option.some.inj he]
    rw [edr] at hw
    have lk := hB.length
    try simp only [y71y, y44y, y45y, y46y, y62y, y2ay, y5dy, y6fy, y70y, y3dy, y2cy, y69y, y7dy, y2ey, y34y, y63y, y2dy, y76y, y23y, y28y, y6ay, y65y, y29y, y6by, y67y, y4ey, y7fy, y26y, y75y, y61y, y5ay, y41y, y59y, y6dy, y31y, y3fy, y5fy, y40y, y60y, y3ey, y5ey, y78y, y55y, y51y, y7ay, y7cy, y79y, y7by, y25y, y58y, y24y, true_and, if_true, if_false, Bool.not_true, Bool.not_false, Bool.false_eq_true, yby, ydy, yay, ycy, yey, y15y, y17y, y14y, y16y, y18y, y6y, y8y, y5y, y7y, y9y, y1y, y3y, y0y, y2y, y4y, y10y, y12y, yfy, y11y, y13y, y1ay, y1cy, y19y, y1by, y1dy, y1fy, y21y, y1ey, y20y, y22y, y73y, y6cy, y64y, y2fy, y30y, y48y, y53y, y54y, y43y, y74y, y77y, y80y, y6ey, y27y, V.int.injEq, V.str.injEq, List.set_cons_zero, List.set_cons_succ, List.getElem?_cons_zero, List.getElem?_cons_succ, Option.some.injEq, exists_eq_left, exists_eq_left', V.bl.injEq, Int.reduceToNat, Int.reducePow, List.append_nil, List.nil_append, List.cons_append, y4ay, y4cy, y2by, y5by, y50y, y66y, y56y, y57y, y35y, y36y, y3cy, y39y, y38y, y47y, y32y, y33y, y84y, y85y, y81y, y82y, y83y, y7ey, y37y, y3ay, y3by, reduceCtorEq, decide_false, decide_true, y42y]
    match e, ev0.same S3, hw with
    | .inr c, ev, hw =>
      rw [← hw] at k
      refine ⟨y, c, rfl, ev.1, ev.2.1, fun _ H4 S4 => k H4 (S3.trans S4), fun z => absurd z (by rw [ev.2.2]; simp)⟩
    | .inl t, ev, hw =>
      obtain ⟨tv1, ok⟩ := ev
      refine ⟨y, tdD t, rfl, tv1.rep, ok.sz, fun z => absurd z (by rw [ok.tie]; simp), fun _ => ?_⟩
      obtain ⟨b, vl, vg, rfl, hq, hl', hg'⟩ := tv1
      refine ⟨b, _, _, _, _, _, _, _, _, _, _, rfl, hq, rfl, hl'.rep, hg'.rep, fun w H4 S4 tv => ?_⟩
      have ov : OV K Ad H4 t w := ⟨_, vl, vg, tv, kind_is Ad _ _, hl'.sameT S4.t, hg'.sameT S4.t⟩
      obtain ⟨q, dq, rfl, hq2⟩ := id tv
      have tc := T.tie _ (kind_is Ad (bD t.lo) (bD t.hi))
      have hp4 := S4 _ _ e3
      have hd4 := S4 _ _ e3d
      have hB4 := hB.mono (P' := OV K Ad H4) fun _ _ z => z.same S4
      try simp only [y71y, y44y, y45y, y46y, y62y, y2ay, y5dy, y6fy, y70y, y3dy, y2cy, y69y, y7dy, y2ey, y34y, y63y, y2dy, y76y, y23y, y28y, y6ay, y65y, y29y, y6by, y67y, y4ey, y7fy, y26y, y75y, y61y, y5ay, y41y, y59y, y6dy, y31y, y3fy, y5fy, y40y, y60y, y3ey, y5ey, y78y, y55y, y51y, y7ay, y7cy, y79y, y7by, y25y, y58y, y24y, true_and, if_true, if_false, Bool.not_true, Bool.not_false, Bool.false_eq_true, yby, ydy, yay, ycy, yey, y15y, y17y, y14y, y16y, y18y, y6y, y8y, y5y, y7y, y9y, y1y, y3y, y0y, y2y, y4y, y10y, y12y, yfy, y11y, y13y, y1ay, y1cy, y19y, y1by, y1dy, y1fy, y21y, y1ey, y20y, y22y, y73y, y6cy, y64y, y2fy, y30y, y48y, y53y, y54y, y43y, y74y, y77y, y80y, y6ey, y27y, V.int.injEq, V.str.injEq, List.set_cons_zero, List.set_cons_succ, List.getElem?_cons_zero, List.getElem?_cons_succ, Option.some.injEq, exists_eq_left, exists_eq_left', V.bl.injEq, Int.reduceToNat, Int.reducePow, List.append_nil, List.nil_append, List.cons_append, y4ay, y4cy, y2by, y5by, y50y, y66y, y56y, y57y, y35y, y36y, y3cy, y39y, y38y, y47y, y32y, y33y, y84y, y85y, y81y, y82y, y83y, y7ey, y37y, y3ay, y3by, reduceCtorEq, decide_false, decide_true, y42y]
      refine ⟨q, _, dq, _, .str t.nm, rfl, hq2, tc.cls, tc.n1, rfl, ?_⟩
      refine ⟨x, _, dx, _, .ref d, rfl, hp4, bc.cls, bc.n1, rfl, ?_⟩
      refine ⟨d, _, rfl, DGet.k (k := Sum.inr t.nm) hd4, ?_⟩
      rw [hB4.val]
      rw [show bookW ts (.inl t :: es.drop (i + 1)) = if t.nm ∈ nms ts then .twice else bookW (ts ++ [t]) (es.drop (i + 1)) by rw [bookW]] at hw
      by_cases c : t.nm ∈ nms ts
      · rw [if_pos c] at hw
        rw [← hw] at k
        rw [decide_eq_true c]
        try simp only [y71y, y44y, y45y, y46y, y62y, y2ay, y5dy, y6fy, y70y, y3dy, y2cy, y69y, y7dy, y2ey, y34y, y63y, y2dy, y76y, y23y, y28y, y6ay, y65y, y29y, y6by, y67y, y4ey, y7fy, y26y, y75y, y61y, y5ay, y41y, y59y, y6dy, y31y, y3fy, y5fy, y40y, y60y, y3ey, y5ey, y78y, y55y, y51y, y7ay, y7cy, y79y, y7by, y25y, y58y, y24y, true_and, if_true, if_false, Bool.not_true, Bool.not_false, Bool.false_eq_true, yby, ydy, yay, ycy, yey, y15y, y17y, y14y, y16y, y18y, y6y, y8y, y5y, y7y, y9y, y1y, y3y, y0y, y2y, y4y, y10y, y12y, yfy, y11y, y13y, y1ay, y1cy, y19y, y1by, y1dy, y1fy, y21y, y1ey, y20y, y22y, y73y, y6cy, y64y, y2fy, y30y, y48y, y53y, y54y, y43y, y74y, y77y, y80y, y6ey, y27y, V.int.injEq, V.str.injEq, List.set_cons_zero, List.set_cons_succ, List.getElem?_cons_zero, List.getElem?_cons_succ, Option.some.injEq, exists_eq_left, exists_eq_left', V.bl.injEq, Int.reduceToNat, Int.reducePow, List.append_nil, List.nil_append, List.cons_append, y4ay, y4cy, y2by, y5by, y50y, y66y, y56y, y57y, y35y, y36y, y3cy, y39y, y38y, y47y, y32y, y33y, y84y, y85y, y81y, y82y, y83y, y7ey, y37y, y3ay, y3by, reduceCtorEq, decide_false, decide_true, y42y]
        exact ⟨by show 1 ≤ sizeLine; omega, k H4 (S3.trans S4)⟩
      · rw [if_neg c] at hw
        rw [decide_eq_false c]
        try simp only [y71y, y44y, y45y, y46y, y62y, y2ay, y5dy, y6fy, y70y, y3dy, y2cy, y69y, y7dy, y2ey, y34y, y63y, y2dy, y76y, y23y, y28y, y6ay, y65y, y29y, y6by, y67y, y4ey, y7fy, y26y, y75y, y61y, y5ay, y41y, y59y, y6dy, y31y, y3fy, y5fy, y40y, y60y, y3ey, y5ey, y78y, y55y, y51y, y7ay, y7cy, y79y, y7by, y25y, y58y, y24y, true_and, if_true, if_false, Bool.not_true, Bool.not_false, Bool.false_eq_true, yby, ydy, yay, ycy, yey, y15y, y17y, y14y, y16y, y18y, y6y, y8y, y5y, y7y, y9y, y1y, y3y, y0y, y2y, y4y, y10y, y12y, yfy, y11y, y13y, y1ay, y1cy, y19y, y1by, y1dy, y1fy, y21y, y1ey, y20y, y22y, y73y, y6cy, y64y, y2fy, y30y, y48y, y53y, y54y, y43y, y74y, y77y, y80y, y6ey, y27y, V.int.injEq, V.str.injEq, List.set_cons_zero, List.set_cons_succ, List.getElem?_cons_zero, List.getElem?_cons_succ, Option.some.injEq, exists_eq_left, exists_eq_left', V.bl.injEq, Int.reduceToNat, Int.reducePow, List.append_nil, List.nil_append, List.cons_append, y4ay, y4cy, y2by, y5by, y50y, y66y, y56y, y57y, y35y, y36y, y3cy, y39y, y38y, y47y, y32y, y33y, y84y, y85y, y81y, y82y, y83y, y7ey, y37y, y3ay, y3by, reduceCtorEq, decide_false, decide_true, y42y]
        refine ⟨x, _, dx, _, .ref d, rfl, hp4, bc.cls, bc.n1, rfl, ?_⟩
        refine ⟨q, _, dq, _, .str t.nm, rfl, hq2, tc.cls, tc.n1, rfl, ?_⟩
        refine ⟨d, _, rfl, DPut.k (k := Sum.inr t.nm) hd4 (by omega), ?_⟩
        generalize u5 : upd H4 d _ = H5
        have e5 := putE u5
        have sx : Sx d H4 H5 := fun b u hb h => by rw [← u5, upd_ne hb]; exact h
        have hpt : putT ts t = ts ++ [t] := by unfold putT; rw [if_neg c]
        have hB5 := (hB4.put ov).mono (P' := OV K Ad H5) fun _ _ z => z.sx sx hd4
        rw [hpt] at hB5
        exact ⟨li, _, _, _, ts ++ [t], rfl, fun b u h => sx b u (ne_of_none h hd0) (S4 _ _ (S3 _ _ h)), sx _ _ nxd hp4, e5, hB5, by simp [hti], hw⟩
  · rintro σ H3 ⟨hi, v2, v3, kvs, ts, rfl, S3, e3, e3d, hB, hti, hw⟩
    rw [List.drop_eq_nil_of_le (by omega)] at hw
    rw [← hw] at k
    try infer_instance
    exact k d H3 S3 hd0 ⟨⟨dx, e3⟩, kvs, e3d, hB⟩
abbrev s_law_name : Stmt := top 32
theorem sc_law_name : FnScope ["_law_cell"] ["_law_cell"] (defScope s_law_name) := ⟨rfl, rfl, rfl, by decide +kernel, rfl, by decide +kernel, by decide +kernel⟩
def sp_law_name (K : PySem.W.Frag) : Sp := fun vs H Q E => ∃ (c : Int), vs = [.int c] ∧ ∀ (z : Str) H', nameL[(c.fmod 6).toNat]? = some z → Same H H' → Q (.str z) H'
theorem ok_law_name {f : Addr} {fd : FuncData} {dV : Value} (F : FunD K "_law_name" "_law_name" s_law_name dV f fd) (T : Txt K mg Ad)  : FnOk P w K mg base (CX1 P w) 1 f fd ["_law_cell"] (sp_law_name K) := by
  refine F.okn sc_law_name (fun vs H Q E h => ?_) (fun cdv A outer s H vs Q E hr h => ?_)
  · obtain ⟨c, rfl, _⟩ := h; rfl
  obtain ⟨c, rfl, h⟩ := h
  have hu := hr.units
  refine ⟨_, (pss_one (ps_ret (pe_ix ix_U (pe_lst (pa_cons pe_str (pa_cons pe_str (pa_cons pe_str (pa_cons pe_str (pa_cons pe_str (pa_cons pe_str pa_nil))))))) (pe_op op_modU (pv 0) pe_int) (fun _ _ => rfl)))), ?_⟩
  have k := h
  have sl : (1000 : Nat) ≤ sizeLine := by decide
  show tRet _ _ [some (.int c)] H
  try infer_instance
  refine ⟨by show 6 ≤ sizeLine; omega, ?_⟩
  intro fl h_fl
  generalize q_fl : upd H fl _ = H1
  have S1 := newS h_fl q_fl
  have e1 := newE q_fl
  have e1' : H1 fl = some (.lst (nameL.map V.str)) := e1
  try try infer_instance
  repeat (refine And.intro (by first | exact divOkL (by decide) | exact powOkL (by decide) | exact mulOkL (by decide) | exact mulOkL' (by decide) | exact Int.one_ne_zero | decide) ?_)
  have q1 := Mth.fm (x := c) (y := 6) (by decide)
  obtain ⟨i, hi⟩ := Int.eq_ofNat_of_zero_le q1.1
  rw [hi]
  have h6 : i < nameL.length := by show i < 6; omega
  refine ixL (i := i) (SqL.of e1') (by rw [List.getElem?_map, List.getElem?_eq_getElem h6]; rfl) ?_
  exact k _ H1 (by rw [hi, Int.toNat_natCast]; exact List.getElem?_eq_getElem h6) S1
abbrev s_law_tie : Stmt := top 31
theorem sc_law_tie : FnScope ["_law_cell", "_law_name_here", "_law_mixed", "_law_faces_here", "_law_start", "_law_end", "_law_low", "_law_both", "_law_bounds"] ["_law_cell", "_law_name_here"] (defScope s_law_tie) := ⟨rfl, rfl, rfl, by decide +kernel, rfl, by decide +kernel, by decide +kernel⟩
def sp_law_tie (K : PySem.W.Frag) : Sp := fun vs H Q E => ∃ (c : Int) (z : Str), vs = [.int c, .str z] ∧ nameS z = true ∧ ∀ x t H', Same H H' → TV K H' t x → TOk t → t.nm = z → Q x H'
theorem ok_law_tie {f : Addr} {fd : FuncData} {dV : Value} (F : FunD K "_law_tie" "_law_tie" s_law_tie dV f fd) (T : Txt K mg Ad)  : FnOk P w K mg base (CX1 P w) 1 f fd ["_law_cell", "_law_name_here"] (sp_law_tie K) := by
  refine F.okn sc_law_tie (fun vs H Q E h => ?_) (fun cdv A outer s H vs Q E hr h => ?_)
  · obtain ⟨c, z, rfl, _⟩ := h; rfl
  obtain ⟨c, z, rfl, h⟩ := h
  have hu := hr.units
  refine ⟨_, (pss_cons (ps_set (i := 2) sc_law_tie.nd rfl (Or.inl rfl) (pe_op op_fdivU (pe_op op_modU (pe_op op_mul0 (pv 0) pe_int) pe_int) pe_int))
      (pss_cons (ps_set (i := 3) sc_law_tie.nd rfl (Or.inl rfl) (pe_lst (pa_cons pe_str (pa_cons pe_str (pa_cons pe_str (pa_cons pe_str (pa_cons pe_str (pa_cons pe_str pa_nil))))))))
      (pss_cons (ps_set (i := 4) sc_law_tie.nd rfl (Or.inl rfl) (pe_op op_modU (pv 2) pe_int))
      (pss_cons (ps_set (i := 5) sc_law_tie.nd rfl (Or.inl rfl) (pe_op op_modU (pe_op op_addU (pe_op op_addU (pv 4) pe_int) (pe_op op_modU (pe_op op_fdivU (pv 2) pe_int) pe_int)) pe_int))
      (pss_cons (ps_set (i := 6) sc_law_tie.nd rfl (Or.inl rfl) (pe_op op_sub (pe_op op_modU (pe_op op_fdivU (pv 2) pe_int) pe_int) pe_int))
      (pss_cons (ps_if (pt_cmpR (op_eqU hu) (pe_op op_modU (pv 2) pe_int) pe_int (nomark _))
      (pss_one (ps_set (i := 6) sc_law_tie.nd rfl (Or.inl rfl) (pe_op op_modU (pv 0) (pe_op op_powU pe_int pe_int))))
      pss_nil)
      (pss_cons (ps_set (i := 7) sc_law_tie.nd rfl (Or.inl rfl) (pe_tup (pa_cons (pe_tup (pa_cons (pv 6) (pa_cons pe_int pa_nil))) (pa_cons (pe_tup (pa_cons (pe_op op_addU (pv 6) (pe_op op_modU (pe_op op_fdivU (pv 2) pe_int) pe_int)) (pa_cons pe_int pa_nil))) pa_nil))))
      (pss_cons (ps_set (i := 8) sc_law_tie.nd rfl (Or.inl rfl) (pe_lst (pa_cons (pv 7) (pa_cons (pe_tup (pa_cons pe_non (pa_cons (pe_tup (pa_cons (pv 6) (pa_cons pe_int pa_nil))) pa_nil))) (pa_cons (pe_tup (pa_cons (pe_tup (pa_cons (pv 6) (pa_cons pe_int pa_nil))) (pa_cons pe_non pa_nil))) (pa_cons (pe_tup (pa_cons pe_non (pa_cons pe_non pa_nil))) pa_nil))))))
      (pss_one (ps_ret (pe_op op_addU (pe_tup (pa_cons (pv 1) (pa_cons (pe_ix ix_U (pv 3) (pv 4) (fun _ _ => rfl)) (pa_cons (pe_ix ix_U (pv 3) (pv 5) (fun _ _ => rfl)) pa_nil)))) (pe_ix ix_U (pv 8) (pe_op op_modU (pe_op op_fdivU (pv 2) pe_int) pe_int) (fun _ _ => rfl))))))))))))), ?_⟩
  obtain ⟨hz, k⟩ := h
  have sl : (1000 : Nat) ≤ sizeLine := by decide
  show tSeq _ _ _ [some (.int c), some (.str z), none, none, none, none, none, none, none] H
  try infer_instance
  repeat (refine And.intro (by first | exact divOkL (by decide) | exact powOkL (by decide) | exact mulOkL (by decide) | exact mulOkL' (by decide) | exact Int.one_ne_zero | decide) ?_)
  generalize hmx : ((c * 48271).fmod 2147483647).fdiv 37 = mx
  intro fl h_fl
  generalize q_fl : upd H fl _ = H1
  have S1 := newS h_fl q_fl
  have e1 := newE q_fl
  have e1' : H1 fl = some (.lst (fcL.map V.str)) := e1
  try try infer_instance
  repeat (refine And.intro (by first | exact divOkL (by decide) | exact powOkL (by decide) | exact mulOkL (by decide) | exact mulOkL' (by decide) | exact Int.one_ne_zero | decide) ?_)
  have q1 := Mth.fm (x := mx) (y := 6) (by decide)
  have q2 := Mth.fm (x := mx.fdiv 6) (y := 5) (by decide)
  have st2 := fmod_two (x := mx.fmod 6 + 1 + (mx.fdiv 6).fmod 5) (f := 6) (by omega) (by omega)
  have q3 := Mth.fm (x := mx.fmod 6 + 1 + (mx.fdiv 6).fmod 5) (y := 6) (by decide)
  obtain ⟨sI, hsI⟩ := Int.eq_ofNat_of_zero_le q1.1
  obtain ⟨eI, heI⟩ := Int.eq_ofNat_of_zero_le q3.1
  have hne : sI ≠ eI := fun z => by
    have : mx.fmod 6 = (mx.fmod 6 + 1 + (mx.fdiv 6).fmod 5).fmod 6 := by rw [heI, hsI, z]
    rcases st2 with e | e <;> omega
  have hs6 : sI < 6 := by omega
  have he6 : eI < 6 := by omega
  rw [heI, hsI]
  have q4 := Mth.fm (x := mx.fdiv 30) (y := 50) (by decide)
  have q5 := Mth.fm (x := c) (y := 100000000000000000000000000000000000000000000000000) (by decide)
  have q6 := Mth.fm (x := mx.fdiv 1500) (y := 9) (by decide)
  have q8 := Mth.fm (x := mx.fdiv 11) (y := 4) (by decide)
  obtain ⟨bI, hbI⟩ := Int.eq_ofNat_of_zero_le q8.1
  have hb4 : bI < 4 := by omega
  have hs6' : sI < fcL.length := hs6
  have he6' : eI < fcL.length := he6
  have fin : ∀ (vl vg : V) (lo hi : Option (Int × Int)) (H' : Hp) (q : Addr), H' q = some (.tup [.str z, .str fcL[sI], .str fcL[eI], vl, vg]) → Same H H' → BV K H' lo vl → BV K H' hi vg → (∀ a, lo = some a → FOk 200 a) → (∀ a, hi = some a → FOk 200 a) → lessD (bD hi) (bD lo) = false → Q (.ref q) H' := fun vl vg lo hi H' q hq S h1 h2 h3 h4 h5 => by
    refine k (.ref q) ⟨z, fcL[sI], fcL[eI], lo, hi⟩ H' S ⟨q, vl, vg, rfl, SqT.of hq, h1, h2⟩ ⟨hz, fcL_ok _ (List.getElem_mem _), fcL_ok _ (List.getElem_mem _), fun e => hne (fcL_tab _ hs6 _ he6 ?_), h3, h4, h5⟩ rfl
    rw [List.getElem?_eq_getElem hs6', List.getElem?_eq_getElem he6']
    exact congrArg some e
  by_cases c7 : mx.fmod 7 = 2
  rw [if_pos (by simpa using c7)]
  repeat (refine And.intro (by first | exact divOkL (by decide) | exact powOkL (by decide) | exact mulOkL (by decide) | exact mulOkL' (by decide) | exact Int.one_ne_zero | decide) ?_)
  generalize hlo : c.fmod 100000000000000000000000000000000000000000000000000 = lo at *
  have lo1 : -25 ≤ lo := by omega
  have lo2 : lo < 100000000000000000000000000000000000000000000000000 := by omega
  rotate_left
  rw [if_neg (by simpa using c7)]
  repeat (refine And.intro (by first | exact divOkL (by decide) | exact powOkL (by decide) | exact mulOkL (by decide) | exact mulOkL' (by decide) | exact Int.one_ne_zero | decide) ?_)
  generalize hlo : (mx.fdiv 30).fmod 50 - 25 = lo at *
  have lo1 : -25 ≤ lo := by omega
  have lo2 : lo < 100000000000000000000000000000000000000000000000000 := by omega
  all_goals
    have sz1 : Mth.Sz 200 lo := .lit (by omega) (by omega)
    have sz2 : Mth.Sz 200 (lo + (mx.fdiv 1500).fmod 9) := .lit (by omega) (by omega)
    refine ⟨len2, ?_⟩
    intro p1 h_p1
    generalize q_p1 : upd H1 p1 _ = H2
    have S2 := newS h_p1 q_p1
    have e2 := newE q_p1
    repeat (refine And.intro (by first | exact divOkL (by decide) | exact powOkL (by decide) | exact mulOkL (by decide) | exact mulOkL' (by decide) | exact Int.one_ne_zero | decide) ?_)
    refine ⟨len2, ?_⟩
    intro p2 h_p2
    generalize q_p2 : upd H2 p2 _ = H3
    have S3 := newS h_p2 q_p2
    have e3 := newE q_p2
    refine ⟨len2, ?_⟩
    intro p3 h_p3
    generalize q_p3 : upd H3 p3 _ = H4
    have S4 := newS h_p3 q_p3
    have e4 := newE q_p3
    refine ⟨len2, ?_⟩
    intro p4 h_p4
    generalize q_p4 : upd H4 p4 _ = H5
    have S5 := newS h_p4 q_p4
    have e5 := newE q_p4
    refine ⟨len2, ?_⟩
    intro p5 h_p5
    generalize q_p5 : upd H5 p5 _ = H6
    have S6 := newS h_p5 q_p5
    have e6 := newE q_p5
    refine ⟨len2, ?_⟩
    intro p6 h_p6
    generalize q_p6 : upd H6 p6 _ = H7
    have S7 := newS h_p6 q_p6
    have e7 := newE q_p6
    refine ⟨len2, ?_⟩
    intro p7 h_p7
    generalize q_p7 : upd H7 p7 _ = H8
    have S8 := newS h_p7 q_p7
    have e8 := newE q_p7
    refine ⟨len2, ?_⟩
    intro p8 h_p8
    generalize q_p8 : upd H8 p8 _ = H9
    have S9 := newS h_p8 q_p8
    have e9 := newE q_p8
    refine ⟨len4, ?_⟩
    intro p9 h_p9
    generalize q_p9 : upd H9 p9 _ = H10
    have S10 := newS h_p9 q_p9
    have e10 := newE q_p9
    try try infer_instance
    have S110 : Same H1 H10 := S2.trans (S3.trans (S4.trans (S5.trans (S6.trans (S7.trans (S8.trans (S9.trans S10)))))))
    refine ixL (i := sI) (SqL.of (S110 _ _ e1')) (by rw [List.getElem?_map, List.getElem?_eq_getElem (show sI < fcL.length from hs6)]; rfl) ?_
    refine ixL (i := eI) (SqL.of (S110 _ _ e1')) (by rw [List.getElem?_map, List.getElem?_eq_getElem (show eI < fcL.length from he6)]; rfl) ?_
    refine ⟨len3, ?_⟩
    intro pt h_pt
    generalize q_pt : upd H10 pt _ = H11
    have S11 := newS h_pt q_pt
    have e11 := newE q_pt
    repeat (refine And.intro (by first | exact divOkL (by decide) | exact powOkL (by decide) | exact mulOkL (by decide) | exact mulOkL' (by decide) | exact Int.one_ne_zero | decide) ?_)
    rw [hbI]
    have S411 : Same H4 H11 := S5.trans (S6.trans (S7.trans (S8.trans (S9.trans (S10.trans S11)))))
    have S711 : Same H7 H11 := S8.trans (S9.trans (S10.trans S11))
    have S011 : Same H H11 := S1.trans (S110.trans S11)
    have e10' := S11 _ _ e10
    have o1 : ∀ a : Int × Int, some (lo, 1) = some a → FOk 200 a := fun a ha => by cases ha; exact one_ok sz1
    have o2 : ∀ a : Int × Int, some (lo + (mx.fdiv 1500).fmod 9, 1) = some a → FOk 200 a := fun a ha => by cases ha; exact one_ok sz2
    have on : ∀ a : Int × Int, none = some a → FOk 200 a := fun a ha => by cases ha
    have l5 : ∀ {a b c d e : V}, [a, b, c].length + [d, e].length ≤ sizeLine := by intros; show 5 ≤ sizeLine; omega
    match bI, hb4 with
    | 0, _ =>
      refine ixL (i := 0) (SqL.of e10') rfl ?_
      refine .inr ⟨pt, p3, _, _, rfl, rfl, SqT.of e11, SqT.of (S411 _ _ e4), by simp, l5, fun z => by simp at z, fun _ => ?_⟩
      intro pr h_pr
      generalize q_pr : upd H11 pr _ = H12
      have S12 := newS h_pr q_pr
      have e12 := newE q_pr
      refine fin _ _ (some (lo, 1)) (some (lo + (mx.fdiv 1500).fmod 9, 1)) H12 pr e12 (S011.trans S12) (FrV.of (S12 _ _ (S411 _ _ (S4 _ _ (S3 _ _ e2))))) (FrV.of (S12 _ _ (S411 _ _ (S4 _ _ e3)))) o1 o2 ?_
      simp [bD, frD, lessD]
      omega
    | 1, _ =>
      refine ixL (i := 1) (SqL.of e10') rfl ?_
      refine .inr ⟨pt, p5, _, _, rfl, rfl, SqT.of e11, SqT.of (S711 _ _ (S7 _ _ e6)), by simp, l5, fun z => by simp at z, fun _ => ?_⟩
      intro pr h_pr
      generalize q_pr : upd H11 pr _ = H12
      have S12 := newS h_pr q_pr
      have e12 := newE q_pr
      exact fin _ _ none (some (lo, 1)) H12 pr e12 (S011.trans S12) rfl (FrV.of (S12 _ _ (S711 _ _ (S7 _ _ (S6 _ _ e5))))) on o1 rfl
    | 2, _ =>
      refine ixL (i := 2) (SqL.of e10') rfl ?_
      refine .inr ⟨pt, p7, _, _, rfl, rfl, SqT.of e11, SqT.of (S11 _ _ (S10 _ _ (S9 _ _ e8))), by simp, l5, fun z => by simp at z, fun _ => ?_⟩
      intro pr h_pr
      generalize q_pr : upd H11 pr _ = H12
      have S12 := newS h_pr q_pr
      have e12 := newE q_pr
      exact fin _ _ (some (lo, 1)) none H12 pr e12 (S011.trans S12) (FrV.of (S12 _ _ (S711 _ _ e7))) rfl o1 on rfl
    | 3, _ =>
      refine ixL (i := 3) (SqL.of e10') rfl ?_
      refine .inr ⟨pt, p8, _, _, rfl, rfl, SqT.of e11, SqT.of (S11 _ _ (S10 _ _ e9)), by simp, l5, fun z => by simp at z, fun _ => ?_⟩
      intro pr h_pr
      generalize q_pr : upd H11 pr _ = H12
      have S12 := newS h_pr q_pr
      have e12 := newE q_pr
      exact fin _ _ none none H12 pr e12 (S011.trans S12) rfl rfl on on rfl
abbrev s_law_bad : Stmt := top 33
theorem sc_law_bad : FnScope ["_law_tie_here", "_law_cell", "_law_some"] ["_law_tie_here", "_law_cell"] (defScope s_law_bad) := ⟨rfl, rfl, rfl, by decide +kernel, rfl, by decide +kernel, by decide +kernel⟩
def sp_law_bad (K : PySem.W.Frag) : Sp := fun vs H Q E => ∃ (x : V) (t : TD) (c : Int), vs = [x, .int c] ∧ TV K H t x ∧ TOk t ∧ ∀ y e H', Same H H' → Rep K H' e y → szD e → tieB e = false → Q y H'
theorem ok_law_bad {f : Addr} {fd : FuncData} {dV : Value} (F : FunD K "_law_bad" "_law_bad" s_law_bad dV f fd) (T : Txt K mg Ad)  : FnOk P w K mg base (CX1 P w) 1 f fd ["_law_tie_here", "_law_cell"] (sp_law_bad K) := by
  refine F.okn sc_law_bad (fun vs H Q E h => ?_) (fun cdv A outer s H vs Q E hr h => ?_)
  · obtain ⟨x, t, c, rfl, _⟩ := h; rfl
  obtain ⟨x, t, c, rfl, h⟩ := h
  have hu := hr.units
  refine ⟨_, (pss_cons (ps_set (i := 2) sc_law_bad.nd rfl (Or.inl rfl) (pe_lst (pa_cons (pe_callTy call_listU rfl T.n_list bt_list (pa_cons (pv 0) pa_nil)) (pa_cons (pe_slice sl_V (pv 0) po_none (po_some pe_int)) (pa_cons (pe_tup (pa_cons (pe_ix ix_U (pv 0) pe_int (fun _ _ => rfl)) (pa_cons (pe_ix ix_U (pv 0) pe_int (fun _ _ => rfl)) (pa_cons (pe_ix ix_U (pv 0) pe_int (fun _ _ => rfl)) (pa_cons pe_non (pa_cons pe_non pa_nil)))))) (pa_cons (pe_tup (pa_cons pe_str (pa_cons (pe_ix ix_U (pv 0) pe_int (fun _ _ => rfl)) (pa_cons (pe_ix ix_U (pv 0) pe_int (fun _ _ => rfl)) (pa_cons pe_non (pa_cons pe_non pa_nil)))))) pa_nil))))))
      (pss_one (ps_ret (pe_ix ix_U (pe_op op_addU (pv 2) (pe_lst (pa_cons (pe_tup (pa_cons (pe_ix ix_U (pv 0) pe_int (fun _ _ => rfl)) (pa_cons (pe_ix ix_U (pv 0) pe_int (fun _ _ => rfl)) (pa_cons (pe_ix ix_U (pv 0) pe_int (fun _ _ => rfl)) (pa_cons (pe_tup (pa_cons pe_int (pa_cons pe_int pa_nil))) (pa_cons (pe_tup (pa_cons pe_int (pa_cons pe_int pa_nil))) pa_nil)))))) (pa_cons (pe_tup (pa_cons (pe_ix ix_U (pv 0) pe_int (fun _ _ => rfl)) (pa_cons (pe_ix ix_U (pv 0) pe_int (fun _ _ => rfl)) (pa_cons (pe_ix ix_U (pv 0) pe_int (fun _ _ => rfl)) (pa_cons (pe_tup (pa_cons pe_int (pa_cons pe_int pa_nil))) (pa_cons pe_non pa_nil)))))) pa_nil)))) (pe_op op_modU (pv 1) pe_int) (fun _ _ => rfl))))), ?_⟩
  obtain ⟨tv, ok, k⟩ := h
  have sl : (1000 : Nat) ≤ sizeLine := by decide
  obtain ⟨b, vl, vg, rfl, hq, hlo, hhi⟩ := tv
  show tSeq _ _ _ [some (.ref b), some (.int c), none] H
  try infer_instance
  refine ⟨b, _, rfl, .inr hq, ?_⟩
  intro l1 h_l1
  generalize q_l1 : upd H l1 _ = H1
  have S1 := newS h_l1 q_l1
  have e1 := newE q_l1
  refine .inl (.inr ⟨b, _, rfl, hq.same S1, by simp [HT.sIx], ?_⟩)
  intro q1 h_q1
  generalize q_q1 : upd H1 q1 _ = H2
  have S2 := newS h_q1 q_q1
  have e2 := newE q_q1
  have S02 := S1.trans S2
  refine ixT (i := 0) (hq.same S02) rfl ?_
  refine ixT (i := 1) (hq.same S02) rfl ?_
  refine ixT (i := 1) (hq.same S02) rfl ?_
  refine ⟨len5, ?_⟩
  intro q2 h_q2
  generalize q_q2 : upd H2 q2 _ = H3
  have S3 := newS h_q2 q_q2
  have e3 := newE q_q2
  have S03 := S02.trans S3
  refine ixT (i := 1) (hq.same S03) rfl ?_
  refine ixT (i := 2) (hq.same S03) rfl ?_
  refine ⟨len5, ?_⟩
  intro q3 h_q3
  generalize q_q3 : upd H3 q3 _ = H4
  have S4 := newS h_q3 q_q3
  have e4 := newE q_q3
  refine ⟨len4, ?_⟩
  intro l2 h_l2
  generalize q_l2 : upd H4 l2 _ = H5
  have S5 := newS h_l2 q_l2
  have e5 := newE q_l2
  have S05 := S03.trans (S4.trans S5)
  try try infer_instance
  refine ixT (i := 0) (hq.same S05) rfl ?_
  refine ixT (i := 1) (hq.same S05) rfl ?_
  refine ixT (i := 2) (hq.same S05) rfl ?_
  refine ⟨len2, ?_⟩
  intro f1 h_f1
  generalize q_f1 : upd H5 f1 _ = H6
  have S6 := newS h_f1 q_f1
  have e6 := newE q_f1
  refine ⟨len2, ?_⟩
  intro f2 h_f2
  generalize q_f2 : upd H6 f2 _ = H7
  have S7 := newS h_f2 q_f2
  have e7 := newE q_f2
  refine ⟨len5, ?_⟩
  intro q4 h_q4
  generalize q_q4 : upd H7 q4 _ = H8
  have S8 := newS h_q4 q_q4
  have e8 := newE q_q4
  have S08 := S05.trans (S6.trans (S7.trans S8))
  refine ixT (i := 0) (hq.same S08) rfl ?_
  refine ixT (i := 1) (hq.same S08) rfl ?_
  refine ixT (i := 2) (hq.same S08) rfl ?_
  refine ⟨len2, ?_⟩
  intro f3 h_f3
  generalize q_f3 : upd H8 f3 _ = H9
  have S9 := newS h_f3 q_f3
  have e9 := newE q_f3
  refine ⟨len5, ?_⟩
  intro q5 h_q5
  generalize q_q5 : upd H9 q5 _ = H10
  have S10 := newS h_q5 q_q5
  have e10 := newE q_q5
  refine ⟨len2, ?_⟩
  intro l3 h_l3
  generalize q_l3 : upd H10 l3 _ = H11
  have S11 := newS h_l3 q_l3
  have e11 := newE q_l3
  have S511 : Same H5 H11 := S6.trans (S7.trans (S8.trans (S9.trans (S10.trans S11))))
  refine .inl ⟨l2, l3, _, _, rfl, rfl, S511 _ _ e5, e11, by show 6 ≤ sizeLine; omega, ?_⟩
  intro l4 h_l4
  generalize q_l4 : upd H11 l4 _ = H12
  have S12 := newS h_l4 q_l4
  have e12 := newE q_l4
  try try infer_instance
  repeat (refine And.intro (by first | exact divOkL (by decide) | exact powOkL (by decide) | exact mulOkL (by decide) | exact mulOkL' (by decide) | exact Int.one_ne_zero | decide) ?_)
  have q1' := Mth.fm (x := c) (y := 6) (by decide)
  obtain ⟨i, hi⟩ := Int.eq_ofNat_of_zero_le q1'.1
  have hi6 : i < 6 := by omega
  rw [hi]
  have S512 : Same H5 H12 := S511.trans S12
  have S012 : Same H H12 := S05.trans S512
  have rl : Rep K H12 (bD t.lo) vl := (hlo.sameT S012.t).rep
  have rh : Rep K H12 (bD t.hi) vg := (hhi.sameT S012.t).rep
  have z1 : t.nm.length ≤ 1000 := Nat.le_trans (len8 ok.n1) (by decide)
  have z2 : t.st.length ≤ 1000 := Nat.le_trans (len8 ok.n2) (by decide)
  have z3 : t.en.length ≤ 1000 := Nat.le_trans (len8 ok.n3) (by decide)
  have s12 : ∀ n : Int, n = 0 ∨ n = 1 ∨ n = 2 → Mth.Sz 4000 n := fun n hn => .lit (by rcases hn with rfl | rfl | rfl <;> decide) (by rcases hn with rfl | rfl | rfl <;> decide)
  match i, hi6 with
  | 0, _ =>
    refine ixL (i := 0) (SqL.of e12) rfl (k _ (.lst [.str t.nm, .str t.st, .str t.en, bD t.lo, bD t.hi]) H12 S012 ?_ ?_ rfl)
    · simp only [Rep, RepL]
      exact ⟨l1, _, rfl, SqL.of (S512 _ _ (S5 _ _ (S4 _ _ (S3 _ _ (S2 _ _ e1))))), _, _, rfl, rfl, _, _, rfl, rfl, _, _, rfl, rfl, _, _, rfl, rl, _, _, rfl, rh, rfl⟩
    · simp only [szD, szL]
      exact ⟨z1, z2, z3, (bD_ok ok.lo).2, (bD_ok ok.hi).2, trivial⟩
  | 1, _ =>
    refine ixL (i := 1) (SqL.of e12) rfl (k _ (.tup [.str t.nm, .str t.st, .str t.en, bD t.lo]) H12 S012 ?_ ?_ rfl)
    · simp only [Rep, RepL]
      exact ⟨q1, _, rfl, SqT.of (S512 _ _ (S5 _ _ (S4 _ _ (S3 _ _ e2)))), _, _, rfl, rfl, _, _, rfl, rfl, _, _, rfl, rfl, _, _, rfl, rl, rfl⟩
    · simp only [szD, szL]
      exact ⟨z1, z2, z3, (bD_ok ok.lo).2, trivial⟩
  | 2, _ =>
    refine ixL (i := 2) (SqL.of e12) rfl (k _ (.tup [.str t.nm, .str t.st, .str t.st, .non, .non]) H12 S012 ?_ ?_ ?_)
    · simp only [Rep, RepL]
      exact ⟨q2, _, rfl, SqT.of (S512 _ _ (S5 _ _ (S4 _ _ e3))), _, _, rfl, rfl, _, _, rfl, rfl, _, _, rfl, rfl, _, _, rfl, rfl, _, _, rfl, rfl, rfl⟩
    · simp only [szD, szL]
      exact ⟨z1, z2, z2, trivial, trivial, trivial⟩
    · simp [tieB, facesB, eqD]
  | 3, _ =>
    refine ixL (i := 3) (SqL.of e12) rfl (k _ (.tup [.str (Str.ofString ""), .str t.st, .str t.en, .non, .non]) H12 S012 ?_ ?_ ?_)
    · simp only [Rep, RepL]
      exact ⟨q3, _, rfl, SqT.of (S512 _ _ (S5 _ _ e4)), _, _, rfl, rfl, _, _, rfl, rfl, _, _, rfl, rfl, _, _, rfl, rfl, _, _, rfl, rfl, rfl⟩
    · simp only [szD, szL]
      exact ⟨by decide, z2, z3, trivial, trivial, trivial⟩
    · have : nameS (Str.ofString "") = false := by decide
      simp [tieB, nameB, this]
  | 4, _ =>
    refine ixL (i := 4) (SqL.of e12) rfl (k _ (.tup [.str t.nm, .str t.st, .str t.en, .tup [.int 1, .int 1], .tup [.int 0, .int 1]]) H12 S012 ?_ ?_ ?_)
    · simp only [Rep, RepL]
      have S812 : Same H8 H12 := S9.trans (S10.trans (S11.trans S12))
      exact ⟨q4, _, rfl, SqT.of (S812 _ _ e8), _, _, rfl, rfl, _, _, rfl, rfl, _, _, rfl, rfl, _, _, rfl, ⟨f1, _, rfl, SqT.of (S812 _ _ (S8 _ _ (S7 _ _ e6))), _, _, rfl, rfl, _, _, rfl, rfl, rfl⟩, _, _, rfl, ⟨f2, _, rfl, SqT.of (S812 _ _ (S8 _ _ e7)), _, _, rfl, rfl, _, _, rfl, rfl, rfl⟩, rfl⟩
    · simp only [szD, szL]
      exact ⟨z1, z2, z3, ⟨s12 _ (by decide), s12 _ (by decide), trivial⟩, ⟨s12 _ (by decide), s12 _ (by decide), trivial⟩, trivial⟩
    · simp [tieB, boundsB, lessD]
  | 5, _ =>
    refine ixL (i := 5) (SqL.of e12) rfl (k _ (.tup [.str t.nm, .str t.st, .str t.en, .tup [.int 2, .int 2], .non]) H12 S012 ?_ ?_ ?_)
    · simp only [Rep, RepL]
      exact ⟨q5, _, rfl, SqT.of (S12 _ _ (S11 _ _ e10)), _, _, rfl, rfl, _, _, rfl, rfl, _, _, rfl, rfl, _, _, rfl, ⟨f3, _, rfl, SqT.of (S12 _ _ (S11 _ _ (S10 _ _ e9))), _, _, rfl, rfl, _, _, rfl, rfl, rfl⟩, _, _, rfl, rfl, rfl⟩
    · simp only [szD, szL]
      exact ⟨z1, z2, z3, ⟨s12 _ (by decide), s12 _ (by decide), trivial⟩, trivial, trivial⟩
    · have : Mth.g 2 2 ≠ 1 := by decide
      simp [tieB, boundsB, boundB, fracB, this]
abbrev s_law_refused : Stmt := top 34
theorem sc_law_refused : FnScope ["_law_book", "_law_way", "_law_thing", "_law_named", "e"] ["_law_book", "_law_way", "_law_thing"] (defScope s_law_refused) := ⟨rfl, rfl, rfl, by decide +kernel, rfl, by decide +kernel, by decide +kernel⟩
def sp_law_refused (K : PySem.W.Frag) (Ad : Adr) : Sp := fun vs H Q E => ∃ (b v : V) (w : Int) (r : List Bool), vs = [b, .int w, v] ∧ ((w = 0 ∧ r = [true, false, false, true] ∧ ∃ p d ts c, b = .ref p ∧ BK K Ad H p d ts ∧ ts.length ≤ 20 ∧ Rep K H c v ∧ szD c ∧ tieB c = false) ∨ (w = 1 ∧ r = [false, true, false, true] ∧ ∃ p d ts z, b = .ref p ∧ BK K Ad H p d ts ∧ v = .str z ∧ z ∉ nms ts) ∨ (w = 2 ∧ ∃ a xs es, v = .ref a ∧ SqL K H a xs ∧ All2 (EV K H) es xs ∧ es.length ≤ 100 ∧ ((bookW [] es = .noTie ∧ r = [true, false, false, true]) ∨ (bookW [] es = .twice ∧ r = [false, false, true, true])))) ∧ ∀ l H', Same H H' → H' l = some (.lst (r.map V.bl)) → Q (.ref l) H'
theorem ok_law_refused {f : Addr} {fd : FuncData} {dV : Value} (F : FunD K "_law_refused" "_law_refused" s_law_refused dV f fd) (T : Txt K mg Ad) (m_put : MCal P w K mg base 7 "put" (IsBook Ad) ["self", "tie"] (sp_Book_put K Ad)) (m_drop : MCal P w K mg base 1 "drop" (IsBook Ad) ["self", "name"] (sp_Book_drop K Ad)) (k_Book : KCal P w K mg base 7 "Book" Ad.Book ["self", "ties"] (sp_Bookuu_inituu K Ad)) : FnOk P w K mg base (CX1 P w) 9 f fd ["_law_book", "_law_way", "_law_thing"] (sp_law_refused K Ad) := by
  refine F.okn sc_law_refused (fun vs H Q E h => ?_) (fun cdv A outer s H vs Q E hr h => ?_)
  · obtain ⟨b, v, w, r, rfl, _⟩ := h; rfl
  obtain ⟨b, v, w, r, rfl, h⟩ := h
  have hu := hr.units
  refine ⟨_, (pss_cons (ps_set (i := 3) sc_law_refused.nd rfl (Or.inl rfl) (pe_lst pa_nil))
      (pss_cons (ps_tryAsC (i := 4) sc_law_refused.nd rfl rfl (pb_cons (pb1_if (pt_cmpR (op_eqU hu) (pv 1) pe_int (nomark _)) (pb_cons (pb1_call (m_put.tr hr (by decide) (pv 0) (pa_cons (pv 2) pa_nil))) pb_nil) pb_nil) (pb_cons (pb1_if (pt_cmpR (op_eqU hu) (pv 1) pe_int (nomark _)) (pb_cons (pb1_call (m_drop.tr hr (by decide) (pv 0) (pa_cons (pv 2) pa_nil))) pb_nil) pb_nil) (pb_cons (pb1_if (pt_cmpR (op_eqU hu) (pv 1) pe_int (nomark _)) (pb_cons (pb1_call (k_Book.tr hr (by decide) rfl (pa_cons (pv 2) pa_nil))) pb_nil) pb_nil) pb_nil))) rfl T.m_SlackError (fun _ =>
      (pss_one (ps_set (i := 3) sc_law_refused.nd rfl (Or.inl rfl) (pe_lst (pa_cons (pe_isiC (K := K) rfl rfl T.n_isinstance bt_isinstance (pa_cons (pv 4) (pa_cons (pe_glob (v := .ref _) rfl T.m_NoTie rfl) pa_nil))) (pa_cons (pe_isiC (K := K) rfl rfl T.n_isinstance bt_isinstance (pa_cons (pv 4) (pa_cons (pe_glob (v := .ref _) rfl T.m_NoName rfl) pa_nil))) (pa_cons (pe_isiC (K := K) rfl rfl T.n_isinstance bt_isinstance (pa_cons (pv 4) (pa_cons (pe_glob (v := .ref _) rfl T.m_Twice rfl) pa_nil))) (pa_cons (pe_isiC (K := K) rfl rfl T.n_isinstance bt_isinstance (pa_cons (pv 4) (pa_cons (pe_bltn (v := .ty "ValueError") rfl T.n_ValueError bt_ValueError rfl) pa_nil))) pa_nil)))))))))
      (pss_one (ps_ret (pv 3))))), ?_⟩
  obtain ⟨hw, k⟩ := h
  have sl : (1000 : Nat) ≤ sizeLine := by decide
  show tSeq _ _ _ [some b, some (.int w), some v, none, none] H
  try infer_instance
  refine ⟨len0, ?_⟩
  intro p1 h_p1
  generalize q_p1 : upd H p1 _ = H1
  have S1 := newS h_p1 q_p1
  have e1 := newE q_p1

  have xcA : ExcC K Ad.NoTie := ⟨T.xc1A, T.xc2A, T.xc3A, T.xc4A, T.xc5, T.xc6, T.xc7A, T.xc8A⟩
  have ctA : ∀ {R : Addr → Prop}, R Ad.NoTie → ∃ C, (Value.ref Ad.NoTie : Value) = .ref C ∧ Catches K C Ad.SlackError ∧ R C := fun r => ⟨_, rfl, ⟨T.y1, T.y2, T.y3, T.y4A⟩, r⟩

  have xcB : ExcC K Ad.NoName := ⟨T.xc1B, T.xc2B, T.xc3B, T.xc4B, T.xc5, T.xc6, T.xc7B, T.xc8B⟩
  have ctB : ∀ {R : Addr → Prop}, R Ad.NoName → ∃ C, (Value.ref Ad.NoName : Value) = .ref C ∧ Catches K C Ad.SlackError ∧ R C := fun r => ⟨_, rfl, ⟨T.y1, T.y2, T.y3, T.y4B⟩, r⟩

  have xcC : ExcC K Ad.Twice := ⟨T.xc1C, T.xc2C, T.xc3C, T.xc4C, T.xc5, T.xc6, T.xc7C, T.xc8C⟩
  have ctC : ∀ {R : Addr → Prop}, R Ad.Twice → ∃ C, (Value.ref Ad.Twice : Value) = .ref C ∧ Catches K C Ad.SlackError ∧ R C := fun r => ⟨_, rfl, ⟨T.y1, T.y2, T.y3, T.y4C⟩, r⟩

  rcases hw with ⟨rfl, rfl, p, d, ts, c, rfl, hb, hl, hR, sz, hbad⟩ | ⟨rfl, rfl, p, d, ts, z, rfl, hb, rfl, hz⟩ | ⟨rfl, a, xs, es, rfl, hS, hE, hl, hcase⟩
  · obtain ⟨⟨dx, hp⟩, _⟩ := id hb
    try infer_instance
    refine ⟨p, _, dx, _, rfl, S1 _ _ hp, rfl, rfl, p, d, v, ts, .inr c, rfl, hb.same S1, ⟨hR.same S1, sz, hbad⟩, hl, fun H2 S2 => ?_⟩
    refine ctA ?_
    intro ea hea
    generalize qe : upd H2 ea _ = HE
    have SE := newS hea qe
    have eE := newE qe
    try try infer_instance
    refine isiXr eE xcA T.kAA ?_
    try try infer_instance
    refine isiXr eE xcA T.kAB ?_
    try try infer_instance
    refine isiXr eE xcA T.kAC ?_
    try try infer_instance
    refine isiXt eE xcA T.kVA ?_
    try try infer_instance
    refine ⟨len4, ?_⟩
    intro l h_l
    generalize q_l : upd HE l _ = HL
    have SL := newS h_l q_l
    have eL := newE q_l
    exact k l HL ((S1.trans S2).trans (SE.trans SL)) eL
  · obtain ⟨⟨dx, hp⟩, _⟩ := id hb
    try infer_instance
    rw [if_neg (by decide)]
    refine ⟨p, _, dx, _, rfl, S1 _ _ hp, rfl, rfl, p, d, z, ts, rfl, hb.same S1, fun _ => ?_, fun h => absurd h hz⟩
    refine ctB ?_
    intro ea hea
    generalize qe : upd H1 ea _ = HE
    have SE := newS hea qe
    have eE := newE qe
    try try infer_instance
    refine isiXr eE xcB T.kBA ?_
    try try infer_instance
    refine isiXr eE xcB T.kBB ?_
    try try infer_instance
    refine isiXr eE xcB T.kBC ?_
    try try infer_instance
    refine isiXt eE xcB T.kVB ?_
    try try infer_instance
    refine ⟨len4, ?_⟩
    intro l h_l
    generalize q_l : upd HE l _ = HL
    have SL := newS h_l q_l
    have eL := newE q_l
    exact k l HL (S1.trans (SE.trans SL)) eL
  · try infer_instance
    rw [if_neg (by decide), if_neg (by decide)]
    intro x dx hx hdx hne
    have S2 : Same H1 (upd (upd H1 dx (.own x)) x (.ins Ad.Book dx [])) := fun b u q => by rw [upd_ne (ne_of_none q hx), upd_ne (ne_of_none q hdx)]; exact q
    refine ⟨x, dx, a, xs, es, H1, rfl, upd_same, hx, S2, hS.same S1, hE.mono (P' := EV K H1) fun _ _ w => w.same S1, hl, ?_⟩
    rcases hcase with ⟨hb, rfl⟩ | ⟨hb, rfl⟩
    · rw [hb]
      intro H3 S3
      refine ctA ?_
      intro ea hea
      generalize qe : upd H3 ea _ = HE
      have SE := newS hea qe
      have eE := newE qe
      try try infer_instance
      refine isiXr eE xcA T.kAA ?_
      try try infer_instance
      refine isiXr eE xcA T.kAB ?_
      try try infer_instance
      refine isiXr eE xcA T.kAC ?_
      try try infer_instance
      refine isiXt eE xcA T.kVA ?_
      try try infer_instance
      refine ⟨len4, ?_⟩
      intro l h_l
      generalize q_l : upd HE l _ = HL
      have SL := newS h_l q_l
      have eL := newE q_l
      exact k l HL ((S1.trans S3).trans (SE.trans SL)) eL
    · rw [hb]
      intro H3 S3
      refine ctC ?_
      intro ea hea
      generalize qe : upd H3 ea _ = HE
      have SE := newS hea qe
      have eE := newE qe
      try try infer_instance
      refine isiXr eE xcC T.kCA ?_
      try try infer_instance
      refine isiXr eE xcC T.kCB ?_
      try try infer_instance
      refine isiXr eE xcC T.kCC ?_
      try try infer_instance
      refine isiXt eE xcC T.kVC ?_
      try try infer_instance
      refine ⟨len4, ?_⟩
      intro l h_l
      generalize q_l : upd HE l _ = HL
      have SL := newS h_l q_l
      have eL := newE q_l
      exact k l HL ((S1.trans S3).trans (SE.trans SL)) eL
abbrev s_law_faces : Stmt := top 35
theorem sc_law_faces : FnScope ["_law_rows"] ["_law_rows"] (defScope s_law_faces) := ⟨rfl, rfl, rfl, by decide +kernel, rfl, by decide +kernel, by decide +kernel⟩
def sp_law_faces (K : PySem.W.Frag) : Sp := fun vs H Q E => ∃ (l : Addr) (xs : List V) (ts : List TD), vs = [.ref l] ∧ SqL K H l xs ∧ All2 (TV K H) ts xs ∧ (∀ t ∈ ts, TOk t) ∧ ts.length ≤ 20 ∧ ∀ p out H', Same H H' → H' p = some (.lst (out.map V.str)) → FacesIs ts out → Q (.ref p) H'
theorem ok_law_faces {f : Addr} {fd : FuncData} {dV : Value} (F : FunD K "_law_faces" "_law_faces" s_law_faces dV f fd) (T : Txt K mg Ad)  : FnOk P w K mg base (CX1 P w) 1 f fd ["_law_rows"] (sp_law_faces K) := by
  refine F.okn sc_law_faces (fun vs H Q E h => ?_) (fun cdv A outer s H vs Q E hr h => ?_)
  · obtain ⟨l, xs, ts, rfl, _⟩ := h; rfl
  obtain ⟨l, xs, ts, rfl, h⟩ := h
  have hu := hr.units
  refine ⟨_, (pss_one (ps_ret (pe_sortsetE rfl rfl rfl rfl T.n_sorted bt_sorted rfl T.n_set bt_set (pa_cons (pe_op op_addU (pe_comp (own := ["_law_row"]) (cs := []) (cl := []) rfl (pi_U (pv 0)) (fun _ _ _ _ => (pg_name (i := 0) (show [("_law_row" : Str)].Nodup by decide) rfl (Or.inl rfl))) (fun _ _ _ _ => (pe_ix (ix_UK (K := K) rfl) (pv 0) pe_int (fun _ _ => rfl))) rfl (by decide) rfl (by decide) hcl0 (hhas0 (by decide)) hcs0) (pe_comp (own := ["_law_row"]) (cs := []) (cl := []) rfl (pi_U (pv 0)) (fun _ _ _ _ => (pg_name (i := 0) (show [("_law_row" : Str)].Nodup by decide) rfl (Or.inl rfl))) (fun _ _ _ _ => (pe_ix (ix_UK (K := K) rfl) (pv 0) pe_int (fun _ _ => rfl))) rfl (by decide) rfl (by decide) hcl0 (hhas0 (by decide)) hcs0)) pa_nil)))), ?_⟩
  obtain ⟨hS, hA, hT, hl, k⟩ := h
  have sl : (1000 : Nat) ≤ sizeLine := by decide
  have la := hA.length
  show tRet _ _ [some (.ref l)] H
  try infer_instance
  have lst : ∀ (i : Nat) (g : TD → V), ((ts.take i).map g).length ≤ 20 := fun i g => by rw [List.length_map, List.length_take]; omega
  refine ⟨l, rfl, .inl ⟨⟨xs, hS⟩, CompJ.list (xs := xs) (fun i ys' H' => H' = H ∧ ys' = (ts.take i).map fun t => V.str t.st) ⟨rfl, rfl⟩ (fun i ys' H' hi z => ⟨by rw [z.1]; exact hS, by rw [z.2]; have := lst i (fun t => V.str t.st); omega⟩) ?_ ?_⟩⟩
  · rintro i x ys' H' hx ⟨rfl, rfl⟩
    simp only [List.length_singleton, List.replicate, capsAt, List.map_cons, List.map_nil, Option.join_some, y71y, y44y, y45y, y46y, y62y, y2ay, y5dy, y6fy, y70y, y3dy, y2cy, y69y, y7dy, y2ey, y34y, y63y, y2dy, y76y, y23y, y28y, y6ay, y65y, y29y, y6by, y67y, y4ey, y7fy, y26y, y75y, y61y, y5ay, y41y, y59y, y6dy, y31y, y3fy, y5fy, y40y, y60y, y3ey, y5ey, y78y, y55y, y51y, y7ay, y7cy, y79y, y7by, y25y, y58y, y24y, true_and, if_true, if_false, Bool.not_true, Bool.not_false, Bool.false_eq_true, yby, ydy, yay, ycy, yey, y15y, y17y, y14y, y16y, y18y, y6y, y8y, y5y, y7y, y9y, y1y, y3y, y0y, y2y, y4y, y10y, y12y, yfy, y11y, y13y, y1ay, y1cy, y19y, y1by, y1dy, y1fy, y21y, y1ey, y20y, y22y, y73y, y6cy, y64y, y2fy, y30y, y48y, y53y, y54y, y43y, y74y, y77y, y80y, y6ey, y27y, V.int.injEq, V.str.injEq, List.set_cons_zero, List.set_cons_succ, List.getElem?_cons_zero, List.getElem?_cons_succ, Option.some.injEq, exists_eq_left, exists_eq_left', V.bl.injEq, Int.reduceToNat, Int.reducePow, List.append_nil, List.nil_append, List.cons_append, y4ay, y4cy, y2by, y5by, y50y, y66y, y56y, y57y, y35y, y36y, y3cy, y39y, y38y, y47y, y32y, y33y, y84y, y85y, y81y, y82y, y83y, y7ey, y37y, y3ay, y3by, reduceCtorEq, decide_false, decide_true]
    obtain ⟨t, ht, b, vl, vg, rfl, hq, _, _⟩ := hA.at_ hx
    refine ixT (i := 1) hq rfl ?_
    rw [List.take_succ, ht]
    simp
  · rintro ys' H' ⟨rfl, rfl⟩
    rw [List.take_of_length_le (by omega)]
    intro l1 h_l1
    generalize q_l1 : upd H' l1 _ = H4
    have S4 := newS h_l1 q_l1
    have e4 := newE q_l1
    try infer_instance
    refine ⟨l, rfl, .inl ⟨⟨xs, hS.same S4⟩, CompJ.list (xs := xs) (fun i ys' H' => H' = H4 ∧ ys' = (ts.take i).map fun t => V.str t.en) ⟨rfl, rfl⟩ (fun i ys' H' hi z => ⟨by rw [z.1]; exact hS.same S4, by rw [z.2]; have := lst i (fun t => V.str t.en); omega⟩) ?_ ?_⟩⟩
    · rintro i x ys' H'' hx ⟨rfl, rfl⟩
      simp only [List.length_singleton, List.replicate, capsAt, List.map_cons, List.map_nil, Option.join_some, y71y, y44y, y45y, y46y, y62y, y2ay, y5dy, y6fy, y70y, y3dy, y2cy, y69y, y7dy, y2ey, y34y, y63y, y2dy, y76y, y23y, y28y, y6ay, y65y, y29y, y6by, y67y, y4ey, y7fy, y26y, y75y, y61y, y5ay, y41y, y59y, y6dy, y31y, y3fy, y5fy, y40y, y60y, y3ey, y5ey, y78y, y55y, y51y, y7ay, y7cy, y79y, y7by, y25y, y58y, y24y, true_and, if_true, if_false, Bool.not_true, Bool.not_false, Bool.false_eq_true, yby, ydy, yay, ycy, yey, y15y, y17y, y14y, y16y, y18y, y6y, y8y, y5y, y7y, y9y, y1y, y3y, y0y, y2y, y4y, y10y, y12y, yfy, y11y, y13y, y1ay, y1cy, y19y, y1by, y1dy, y1fy, y21y, y1ey, y20y, y22y, y73y, y6cy, y64y, y2fy, y30y, y48y, y53y, y54y, y43y, y74y, y77y, y80y, y6ey, y27y, V.int.injEq, V.str.injEq, List.set_cons_zero, List.set_cons_succ, List.getElem?_cons_zero, List.getElem?_cons_succ, Option.some.injEq, exists_eq_left, exists_eq_left', V.bl.injEq, Int.reduceToNat, Int.reducePow, List.append_nil, List.nil_append, List.cons_append, y4ay, y4cy, y2by, y5by, y50y, y66y, y56y, y57y, y35y, y36y, y3cy, y39y, y38y, y47y, y32y, y33y, y84y, y85y, y81y, y82y, y83y, y7ey, y37y, y3ay, y3by, reduceCtorEq, decide_false, decide_true]
      obtain ⟨t, ht, b, vl, vg, rfl, hq, _, _⟩ := hA.at_ hx
      refine ixT (i := 2) (hq.same S4) rfl ?_
      rw [List.take_succ, ht]
      simp
    · rintro ys' H'' ⟨rfl, rfl⟩
      rw [List.take_of_length_le (by omega)]
      intro l2 h_l2
      generalize q_l2 : upd H'' l2 _ = H5
      have S5 := newS h_l2 q_l2
      have e5 := newE q_l2
      refine .inl ⟨l1, l2, _, _, rfl, rfl, S5 _ _ e4, e5, by simp; omega, ?_⟩
      intro l3 h_l3
      generalize q_l3 : upd H5 l3 _ = H6
      have S6 := newS h_l3 q_l3
      have e6 := newE q_l3
      have e6' : H6 l3 = some (.lst ((ts.map (·.st) ++ ts.map (·.en)).map V.str)) := by
        rw [e6, List.map_append, List.map_map, List.map_map]
        rfl
      refine ⟨l3, ts.map (·.st) ++ ts.map (·.en), rfl, SqL.of e6', by simp; omega, ?_, fun sp out hsp nd hmem hso => ?_⟩
      · match ts, hT with
        | [], _ => exact .inl rfl
        | t0 :: r, hT => exact .inr ⟨t0.st, t0.en, by simp, by simp, (hT t0 (by simp)).ne⟩
      · have hF : FacesIs ts out := ⟨nd, hso, fun z => by
          rw [hmem, List.mem_append, List.mem_map, List.mem_map]
          constructor
          · rintro (⟨t, ht, rfl⟩ | ⟨t, ht, rfl⟩)
            · exact ⟨t, ht, .inl rfl⟩
            · exact ⟨t, ht, .inr rfl⟩
          · rintro ⟨t, ht, rfl | rfl⟩
            · exact .inl ⟨t, ht, rfl⟩
            · exact .inr ⟨t, ht, rfl⟩⟩
        exact k sp out _ (S4.trans (S5.trans (S6.trans (newS hsp rfl)))) (newE rfl) hF
abbrev s_law_seen : Stmt := top 36
theorem sc_law_seen : FnScope ["_law_book", "_law_rows", "_law_found", "_law_faces_here", "_law_row"] ["_law_book", "_law_rows"] (defScope s_law_seen) := ⟨rfl, rfl, rfl, by decide +kernel, rfl, by decide +kernel, by decide +kernel⟩
def sp_law_seen (K : PySem.W.Frag) (Ad : Adr) : Sp := fun vs H Q E => ∃ (p l d : Addr) (xs : List V) (ts : List TD), vs = [.ref p, .ref l] ∧ BK K Ad H p d ts ∧ SqL K H l xs ∧ All2 (TV K H) ts xs ∧ (∀ t ∈ ts, TOk t) ∧ ts.length ≤ 6 ∧ ∀ H', Same H H' → Q (.bl true) H'
theorem ok_law_seen {f : Addr} {fd : FuncData} {dV : Value} (F : FunD K "_law_seen" "_law_seen" s_law_seen dV f fd) (T : Txt K mg Ad) (m_ties : MCal P w K mg base 2 "ties" (IsBook Ad) ["self"] (sp_Book_ties K Ad)) (m_faces : MCal P w K mg base 2 "faces" (IsBook Ad) ["self"] (sp_Book_faces K Ad)) (c_law_faces : Cal P w K mg base 1 "_law_faces" ["_law_rows"] [] (sp_law_faces K)) : FnOk P w K mg base (CX1 P w) 3 f fd ["_law_book", "_law_rows"] (sp_law_seen K Ad) := by
  refine F.okn sc_law_seen (fun vs H Q E h => ?_) (fun cdv A outer s H vs Q E hr h => ?_)
  · obtain ⟨p, l, d, xs, ts, rfl, _⟩ := h; rfl
  obtain ⟨p, l, d, xs, ts, rfl, h⟩ := h
  have hu := hr.units
  refine ⟨_, (pss_cons (ps_set (i := 2) sc_law_seen.nd rfl (Or.inl rfl) (m_ties.m0 hr (by decide) passF (pv 0)))
      (pss_cons (ps_set (i := 3) sc_law_seen.nd rfl (Or.inl rfl) (m_faces.m0 hr (by decide) passF (pv 0)))
      (pss_cons (ps_if (PW.pt (pw_or (pt_not (pt_val (pe_callB call_isinstanceU rfl T.n_isinstance bt_isinstance (pa_cons (pv 2) (pa_cons (pe_bltn (v := .ty "list") rfl T.n_list bt_list rfl) pa_nil))))) (pw_or (pt_cmpR (op_neU hu) (pv 2) (pv 1) (nomark _)) (pw_or (pt_not (pt_val (pe_callB call_isinstanceU rfl T.n_isinstance bt_isinstance (pa_cons (pv 3) (pa_cons (pe_bltn (v := .ty "list") rfl T.n_list bt_list rfl) pa_nil))))) (pw_or1 (pt_cmpR (op_neU hu) (pv 3) (c_law_faces.ev hr (by decide) rfl passF (pa_cons (pv 1) pa_nil)) (nomark _)))))))
      (pss_one (ps_ret pe_bl))
      pss_nil)
      (pss_cons (ps_for PassesOwn.never rfl (pi_U (pv 2)) (pg_name (i := 4) sc_law_seen.nd rfl (Or.inl rfl))
      (pss_one (ps_if (pt_not (pt_val (pe_callB call_isinstanceU rfl T.n_isinstance bt_isinstance (pa_cons (pv 4) (pa_cons (pe_bltn (v := .ty "tuple") rfl T.n_tuple bt_tuple rfl) pa_nil)))))
      (pss_one (ps_ret pe_bl))
      pss_nil)))
      (pss_cons (ps_expr (pe_bm PySem.F.plainAttrs_list PySem.F.slot_list_append PySem.F.type_list_append mt_append (pv 2) (pa_cons pe_int pa_nil)))
      (pss_cons (ps_expr (pe_bm0 PySem.F.plainAttrs_list PySem.F.slot_list_reverse PySem.F.type_list_reverse mt_reverse (pv 3)))
      (pss_one (ps_ret pe_bl)))))))), ?_⟩
  obtain ⟨hb, hS, hA, hT, hl, k⟩ := h
  obtain ⟨⟨dx, hp⟩, _⟩ := id hb
  have sl : (1000 : Nat) ≤ sizeLine := by decide
  show tSeq _ _ _ [some (.ref p), some (.ref l), none, none, none] H
  try infer_instance
  refine ⟨p, _, dx, _, rfl, hp, rfl, rfl, p, d, ts, rfl, hb, by omega, fun f ys H1 S1 hf e1 hY => ?_⟩
  try try infer_instance
  refine ⟨p, _, dx, _, rfl, S1 _ _ hp, rfl, rfl, p, d, ts, rfl, hb.same S1, by omega, fun g out H2 S2 hg e2 hF => ?_⟩
  try try infer_instance
  have S02 := S1.trans S2
  have hY2 := hY.mono (P' := TV K H2) fun _ _ z => z.sameT S2.t
  have hA2 := hA.mono (P' := TV K H2) fun _ _ z => z.sameT S02.t
  have ly := hY.length
  have hg0 : H g = none := by
    cases e : H g with
    | none => rfl
    | some o => rw [S1 _ _ e] at hg; cases hg
  refine ⟨"list", .inl ⟨rfl, _, SqL.of (S2 _ _ e1)⟩, ?_⟩
  rw [if_neg (by decide)]
  refine ⟨.lst (ts.map tdD), .lst (ts.map tdD), ?_, ?_, ?_, rfl, ?_⟩
  · simp only [Rep]
    exact ⟨f, _, rfl, SqL.of (S2 _ _ e1), hY2.repL fun _ _ z => z.rep⟩
  · simp only [Rep]
    exact ⟨l, _, rfl, hS.same S02, hA2.repL fun _ _ z => z.rep⟩
  · have := depL_map (n := 10) dep_td ts
    rw [depD]
    omega
  rw [eqD_refl]
  try infer_instance
  refine ⟨"list", .inl ⟨rfl, _, SqL.of e2⟩, ?_⟩
  rw [if_neg (by decide)]
  refine ⟨l, xs, ts, rfl, hS.same S02, hA2, hT, by omega, fun q out' H3 S3 e3 hF' => ?_⟩
  try try infer_instance
  refine neStrs (SqL.of (S3 _ _ e2)) (SqL.of e3) ?_
  rw [hF.eq hF']
  try infer_instance
  have e1' := S3 _ _ (S2 _ _ e1)
  refine ⟨f, rfl, ForA.byL (xs := ys) (SqL.of e1') (fun i σ H' => H' = H3 ∧ ∃ (v4 : Option V), σ = [some (.ref p), some (.ref l), some (.ref f), some (.ref g), v4]) ⟨rfl, none, rfl⟩ (fun i σ H' z => by rw [z.1]; exact SqL.of e1') ?_ ?_⟩
  · rintro i y σ H' hy ⟨rfl, v4, rfl⟩
    obtain ⟨t, ht, b, vl, vg, rfl, hq, _, _⟩ := hY2.at_ hy
    try infer_instance
    refine ⟨"tuple", .inr ⟨rfl, _, hq.same S3⟩, ?_⟩
    rw [if_neg (by decide)]
    exact ⟨_, rfl⟩
  · rintro σ H' ⟨rfl, v4, rfl⟩
    try infer_instance
    refine ⟨.inl ⟨rfl, _, SqL.of e1'⟩, ?_⟩
    try try infer_instance
    refine ⟨f, _, _, rfl, rfl, e1', by omega, ?_⟩
    generalize u4 : upd H' f _ = H4
    have nfg : g ≠ f := fun z => by
      rw [z, e1] at hg
      cases hg
    have e4g : H4 g = some (.lst (out.map V.str)) := by rw [← u4, upd_ne nfg]; exact S3 _ _ e2
    try try infer_instance
    refine ⟨.ref g, rfl, .inl ⟨rfl, _, SqL.of e4g⟩, g, _, rfl, rfl, e4g, ?_⟩
    try try infer_instance
    refine k _ fun b u hb => ?_
    rw [upd_ne (ne_of_none hb hg0), ← u4, upd_ne (ne_of_none hb hf)]
    exact S3 _ _ (S02 _ _ hb)
abbrev s_law_step : Stmt := top 37
theorem sc_law_step : FnScope ["_law_book", "_law_rows", "_law_cell", "_law_name_here", "_law_there", "_law_tie_here", "_law_way"] ["_law_book", "_law_rows", "_law_cell"] (defScope s_law_step) := ⟨rfl, rfl, rfl, by decide +kernel, rfl, by decide +kernel, by decide +kernel⟩
def sp_law_step (K : PySem.W.Frag) (Ad : Adr) : Sp := fun vs H Q E => ∃ (p l d : Addr) (c : Int) (xs : List V) (ts : List TD), vs = [.ref p, .ref l, .int c] ∧ BK K Ad H p d ts ∧ H l = some (.lst xs) ∧ All2 (TV K H) ts xs ∧ Good ts ∧ ∀ ts' xs' H', (∀ b u, b ≠ d → b ≠ l → H b = some u → H' b = some u) → BK K Ad H' p d ts' → H' l = some (.lst xs') → All2 (TV K H') ts' xs' → Good ts' → Q (.bl true) H'
theorem ok_law_step {f : Addr} {fd : FuncData} {dV : Value} (F : FunD K "_law_step" "_law_step" s_law_step dV f fd) (T : Txt K mg Ad) (c_law_name : Cal P w K mg base 1 "_law_name" ["_law_cell"] [] (sp_law_name K)) (c_law_tie : Cal P w K mg base 1 "_law_tie" ["_law_cell", "_law_name_here"] [] (sp_law_tie K)) (c_law_refused : Cal P w K mg base 9 "_law_refused" ["_law_book", "_law_way", "_law_thing"] [] (sp_law_refused K Ad)) (c_law_bad : Cal P w K mg base 1 "_law_bad" ["_law_tie_here", "_law_cell"] [] (sp_law_bad K)) (m_drop : MCal P w K mg base 1 "drop" (IsBook Ad) ["self", "name"] (sp_Book_drop K Ad)) (m_put : MCal P w K mg base 7 "put" (IsBook Ad) ["self", "tie"] (sp_Book_put K Ad)) : FnOk P w K mg base (CX1 P w) 10 f fd ["_law_book", "_law_rows", "_law_cell"] (sp_law_step K Ad) := by
  refine F.okn sc_law_step (fun vs H Q E h => ?_) (fun cdv A outer s H vs Q E hr h => ?_)
  · obtain ⟨p, l, d, c, xs, ts, rfl, _⟩ := h; rfl
  obtain ⟨p, l, d, c, xs, ts, rfl, h⟩ := h
  have hu := hr.units
  refine ⟨_, (pss_cons (ps_set (i := 3) sc_law_step.nd rfl (Or.inl rfl) (c_law_name.ev hr (by decide) rfl passF (pa_cons (pe_op op_fdivU (pv 2) pe_int) pa_nil)))
      (pss_cons (ps_setComp (j := 4) (own := ["_law_row"]) (cs := []) sc_law_step.nd rfl (Or.inl rfl) rfl (pi_U (pv 1)) (fun _ _ _ _ => (pg_name (i := 0) (show [("_law_row" : Str)].Nodup by decide) rfl (Or.inl rfl))) (fun _ _ _ _ => (pe_ix (ix_UK (K := K) rfl) (pv 0) pe_int (fun _ _ => rfl))) (hfreeD rfl) (by decide) rfl (by decide) hcs0)
      (pss_cons (ps_set (i := 5) sc_law_step.nd rfl (Or.inl rfl) (c_law_tie.ev hr (by decide) rfl passF (pa_cons (pe_op op_fdivU (pv 2) pe_int) (pa_cons (pv 3) pa_nil))))
      (pss_cons (ps_set (i := 6) sc_law_step.nd rfl (Or.inl rfl) (pe_op op_modU (pv 2) pe_int))
      (pss_cons (ps_if (pt_cmpR (op_eqU hu) (pv 6) pe_int (nomark _))
      (pss_one (ps_ret (pe_cmpR (op_eqU hu) (c_law_refused.ev hr (by decide) rfl passF (pa_cons (pv 0) (pa_cons pe_int (pa_cons (c_law_bad.ev hr (by decide) rfl passF (pa_cons (pv 5) (pa_cons (pe_op op_fdivU (pv 2) pe_int) pa_nil))) pa_nil)))) (pe_lst (pa_cons pe_bl (pa_cons pe_bl (pa_cons pe_bl (pa_cons pe_bl pa_nil))))) (nomark _))))
      pss_nil)
      (pss_cons (ps_if (PW.pt (pw_and (pt_cmpR (op_eqU hu) (pv 6) pe_int (nomark _)) (pw_and1 (pt_cmpR op_notinU (pv 3) (pv 4) (by with_unfolding_all rfl)))))
      (pss_one (ps_ret (pe_cmpR (op_eqU hu) (c_law_refused.ev hr (by decide) rfl passF (pa_cons (pv 0) (pa_cons pe_int (pa_cons (pv 3) pa_nil)))) (pe_lst (pa_cons pe_bl (pa_cons pe_bl (pa_cons pe_bl (pa_cons pe_bl pa_nil))))) (nomark _))))
      pss_nil)
      (pss_cons (ps_if (pt_cmpR (op_eqU hu) (pv 6) pe_int (nomark _))
      (pss_cons (ps_expr (m_drop.m hr (by decide) passF (pv 0) (pa_cons (pv 3) pa_nil)))
      (pss_cons (ps_expr (pe_bm PySem.F.plainAttrs_list PySem.F.slot_list_pop PySem.F.type_list_pop mt_popAt (pv 1) (pa_cons (pe_bm PySem.F.plainAttrs_list PySem.F.slot_list_index PySem.F.type_list_index mt_index (pv 4) (pa_cons (pv 3) pa_nil)) pa_nil)))
      (pss_one (ps_ret pe_bl))))
      pss_nil)
      (pss_cons (ps_expr (m_put.m hr (by decide) passF (pv 0) (pa_cons (pv 5) pa_nil)))
      (pss_cons (ps_if (pt_cmpR op_inU (pv 3) (pv 4) (by with_unfolding_all rfl))
      (pss_one (ps_asg (pv 5) (pg_sub (pv 1) (pe_bm PySem.F.plainAttrs_list PySem.F.slot_list_index PySem.F.type_list_index mt_index (pv 4) (pa_cons (pv 3) pa_nil)) set_list)))
      (pss_one (ps_expr (pe_bm PySem.F.plainAttrs_list PySem.F.slot_list_append PySem.F.type_list_append mt_append (pv 1) (pa_cons (pv 5) pa_nil)))))
      (pss_one (ps_ret pe_bl))))))))))), ?_⟩
  obtain ⟨hb, e0, hA, hG, k⟩ := h
  have sl : (1000 : Nat) ≤ sizeLine := by decide
  have hl6 := hG.len
  have la := hA.length
  have inn : ∀ (ss : List Str) (z : Str), inV (.str z) (ss.map V.str) = decide (z ∈ ss) := fun ss z => by
    induction ss with
    | nil => rfl
    | cons a ss ih =>
      rw [List.map_cons]
      show (eqV (.str a) (.str z) || inV (.str z) (ss.map V.str)) = _
      rw [ih]
      show (a == z || decide (z ∈ ss)) = _
      by_cases c : a = z
      · subst c
        simp
      · have c' : z ≠ a := fun e => c e.symm
        simp [c, c']
  show tSeq _ _ _ [some (.ref p), some (.ref l), some (.int c), none, none, none, none] H
  try infer_instance
  repeat (refine And.intro (by first | exact divOkL (by decide) | exact powOkL (by decide) | exact mulOkL (by decide) | exact mulOkL' (by decide) | exact Int.one_ne_zero | decide) ?_)
  refine ⟨_, rfl, fun z H1 hz0 S1 => ?_⟩
  have hz := List.mem_of_getElem? hz0
  try try infer_instance
  have lst : ∀ (i : Nat), ((ts.take i).map fun t => V.str t.nm).length ≤ 6 := fun i => by rw [List.length_map, List.length_take]; omega
  refine ⟨l, rfl, .inl ⟨⟨xs, SqL.of (S1 _ _ e0)⟩, CompJ.list (xs := xs) (fun i ys' H' => H' = H1 ∧ ys' = (ts.take i).map fun t => V.str t.nm) ⟨rfl, rfl⟩ (fun i ys' H' hi z => ⟨by rw [z.1]; exact SqL.of (S1 _ _ e0), by rw [z.2]; have := lst i; omega⟩) ?_ ?_⟩⟩
  · rintro i x ys' H' hx ⟨rfl, rfl⟩
    simp only [List.length_singleton, List.replicate, capsAt, List.map_cons, List.map_nil, Option.join_some, y71y, y44y, y45y, y46y, y62y, y2ay, y5dy, y6fy, y70y, y3dy, y2cy, y69y, y7dy, y2ey, y34y, y63y, y2dy, y76y, y23y, y28y, y6ay, y65y, y29y, y6by, y67y, y4ey, y7fy, y26y, y75y, y61y, y5ay, y41y, y59y, y6dy, y31y, y3fy, y5fy, y40y, y60y, y3ey, y5ey, y78y, y55y, y51y, y7ay, y7cy, y79y, y7by, y25y, y58y, y24y, true_and, if_true, if_false, Bool.not_true, Bool.not_false, Bool.false_eq_true, yby, ydy, yay, ycy, yey, y15y, y17y, y14y, y16y, y18y, y6y, y8y, y5y, y7y, y9y, y1y, y3y, y0y, y2y, y4y, y10y, y12y, yfy, y11y, y13y, y1ay, y1cy, y19y, y1by, y1dy, y1fy, y21y, y1ey, y20y, y22y, y73y, y6cy, y64y, y2fy, y30y, y48y, y53y, y54y, y43y, y74y, y77y, y80y, y6ey, y27y, V.int.injEq, V.str.injEq, List.set_cons_zero, List.set_cons_succ, List.getElem?_cons_zero, List.getElem?_cons_succ, Option.some.injEq, exists_eq_left, exists_eq_left', V.bl.injEq, Int.reduceToNat, Int.reducePow, List.append_nil, List.nil_append, List.cons_append, y4ay, y4cy, y2by, y5by, y50y, y66y, y56y, y57y, y35y, y36y, y3cy, y39y, y38y, y47y, y32y, y33y, y84y, y85y, y81y, y82y, y83y, y7ey, y37y, y3ay, y3by, reduceCtorEq, decide_false, decide_true]
    obtain ⟨t, ht, b, vl, vg, rfl, hq, _, _⟩ := hA.at_ hx
    refine ixT (i := 0) (hq.same S1) rfl ?_
    rw [List.take_succ, ht]
    simp
  · rintro ys' H' ⟨rfl, rfl⟩
    rw [List.take_of_length_le (by omega)]
    intro lt h_lt
    generalize q_lt : upd H' lt _ = H2
    have S2 := newS h_lt q_lt
    have e2 := newE q_lt
    have e2' : H2 lt = some (.lst ((nms ts).map V.str)) := by
      rw [e2, List.map_map]
      rfl
    try try infer_instance
    repeat (refine And.intro (by first | exact divOkL (by decide) | exact powOkL (by decide) | exact mulOkL (by decide) | exact mulOkL' (by decide) | exact Int.one_ne_zero | decide) ?_)
    refine ⟨_, z, rfl, nameL_ok z hz, fun x t H3 S3 tv ok hn => ?_⟩
    repeat (refine And.intro (by first | exact divOkL (by decide) | exact powOkL (by decide) | exact mulOkL (by decide) | exact mulOkL' (by decide) | exact Int.one_ne_zero | decide) ?_)
    have S03 : Same H H3 := S1.trans (S2.trans S3)
    have hb3 := hb.same S03
    have hA3 := hA.mono (P' := TV K H3) fun _ _ w => w.sameT S03.t
    have e3l := S03 _ _ e0
    have e3t := S3 _ _ e2'
    have flt : ((nms ts).map V.str).all flatV = true := by simp [flatV]
    obtain ⟨⟨dx, hp⟩, kvs, hd, _⟩ := id hb3
    have nld : l ≠ d := fun w => by rw [w, hd] at e3l; cases e3l
    have ntd : lt ≠ d := fun w => by rw [w, hd] at e3t; cases e3t
    have ntl : lt ≠ l := fun w => by rw [w, S1 _ _ e0] at h_lt; cases h_lt
    by_cases c0 : c.fmod 6 = 0
    · rw [if_pos (by simpa using c0)]
      repeat (refine And.intro (by first | exact divOkL (by decide) | exact powOkL (by decide) | exact mulOkL (by decide) | exact mulOkL' (by decide) | exact Int.one_ne_zero | decide) ?_)
      refine ⟨x, t, _, rfl, tv, ok, fun y e H4 S4 hR sz hbad => ?_⟩
      try try infer_instance
      refine ⟨.ref p, y, 0, [true, false, false, true], rfl, .inl ⟨rfl, rfl, p, d, ts, e, rfl, hb3.same S4, by omega, hR, sz, hbad⟩, fun q H5 S5 e5 => ?_⟩
      refine ⟨len4, ?_⟩
      intro m h_m
      generalize q_m : upd H5 m _ = H6
      have S6 := newS h_m q_m
      have e6 := newE q_m
      refine eqBL (as := [true, false, false, true]) (bs := [true, false, false, true]) (S6 _ _ e5) e6 ?_
      have S36 := S4.trans (S5.trans S6)
      rw [decide_eq_true rfl]
      exact k ts xs H6 (fun b u _ _ h => S36 _ _ (S03 _ _ h)) (hb3.same S36) (S36 _ _ e3l) (hA3.mono fun _ _ w => w.sameT S36.t) hG
    · rw [if_neg (by simpa using c0)]
      by_cases c1 : c.fmod 6 = 1
      · rw [if_pos (by simpa using c1)]
        refine ⟨lt, _, rfl, .inl (SqL.of e3t), rfl, flt, ?_⟩
        rw [inn]
        by_cases hm : z ∈ nms ts
        · rw [decide_eq_true hm]
          try try infer_instance
          rw [if_pos (by simpa using c1)]
          refine ⟨p, _, dx, _, rfl, hp, rfl, rfl, p, d, z, ts, rfl, hb3, fun h => absurd hm h, fun _ H4 sx hb4 => ?_⟩
          have e4l := sx _ _ nld e3l
          have e4t := sx _ _ ntd e3t
          obtain ⟨j, hj⟩ := List.getElem?_of_mem hm
          have hj' := hj
          rw [List.getElem?_map] at hj'
          obtain ⟨u, hu, eu⟩ := Option.map_eq_some_iff.mp hj'
          have lj : j < xs.length := by have := (List.getElem?_eq_some_iff.mp hu).1; omega
          refine ⟨.inl ⟨rfl, _, SqL.of e4l⟩, .inl ⟨rfl, _, SqL.of e4t⟩, lt, nms ts, z, j, rfl, rfl, e4t, hj, nd_first hG.nd hj, ?_⟩
          refine ⟨l, xs, (j : Int), j, _, rfl, rfl, e4l, by omega, by omega, (by have := seqIndex_of (k := (j : Int)) (n := xs.length) (by omega) (by omega); rw [Int.toNat_natCast] at this; exact this), List.getElem?_eq_getElem lj, ?_⟩
          generalize u5 : upd H4 l _ = H5
          have e5 := putE u5
          have T45 : SameT H4 H5 := SameT.put u5 e4l rfl
          have sl5 : Sx l H4 H5 := fun b u hb h => by rw [← u5, upd_ne hb]; exact h
          refine k (dropT ts z) (xs.eraseIdx j) H5 (fun b u h1 h2 h => sl5 _ _ h2 (sx _ _ h1 (S03 _ _ h))) (hb4.sl e4l sl5) e5 ?_ hG.drop
          rw [dropT_erase hG.nd hu eu]
          exact (hA3.mono (P' := TV K H5) fun _ _ w => (w.sameT (sx.t hd)).sameT T45).erase
        · rw [decide_eq_false hm]
          try try infer_instance
          refine ⟨.ref p, .str z, 1, [false, true, false, true], rfl, .inr (.inl ⟨rfl, rfl, p, d, ts, z, rfl, hb3, rfl, hm⟩), fun q H5 S5 e5 => ?_⟩
          refine ⟨len4, ?_⟩
          intro m h_m
          generalize q_m : upd H5 m _ = H6
          have S6 := newS h_m q_m
          have e6 := newE q_m
          refine eqBL (as := [false, true, false, true]) (bs := [false, true, false, true]) (S6 _ _ e5) e6 ?_
          have S36 := S5.trans S6
          rw [decide_eq_true rfl]
          exact k ts xs H6 (fun b u _ _ h => S36 _ _ (S03 _ _ h)) (hb3.same S36) (S36 _ _ e3l) (hA3.mono fun _ _ w => w.sameT S36.t) hG
      · rw [if_neg (by simpa using c1), if_neg (by simpa using c1)]
        refine ⟨p, _, dx, _, rfl, hp, rfl, rfl, p, d, x, ts, .inl t, rfl, hb3, ⟨tv, ok⟩, by omega, fun H4 sx hb4 => ?_⟩
        have e4l := sx _ _ nld e3l
        have e4t := sx _ _ ntd e3t
        have tv4 := tv.sameT (sx.t hd)
        have hA4 := hA3.mono (P' := TV K H4) fun _ _ w => w.sameT (sx.t hd)
        have hG' : Good (putT ts t) := hG.put ok (by rw [hn]; exact hz)
        refine ⟨lt, _, rfl, .inl (SqL.of e4t), rfl, flt, ?_⟩
        rw [inn]
        by_cases hm : z ∈ nms ts
        · rw [decide_eq_true hm]
          try try infer_instance
          obtain ⟨j, hj⟩ := List.getElem?_of_mem hm
          have hj' := hj
          rw [List.getElem?_map] at hj'
          obtain ⟨u, hu, eu⟩ := Option.map_eq_some_iff.mp hj'
          have lj : j < xs.length := by have := (List.getElem?_eq_some_iff.mp hu).1; omega
          refine ⟨.ref l, rfl, .ref lt, rfl, .inl ⟨rfl, _, SqL.of e4t⟩, .str z, rfl, lt, nms ts, z, j, rfl, rfl, e4t, hj, nd_first hG.nd hj, ?_⟩
          refine ⟨l, xs, (j : Int), j, rfl, rfl, e4l, by unfold ixN; rw [if_pos (by omega), if_pos (by omega), Int.toNat_natCast], ?_⟩
          generalize u5 : upd H4 l _ = H5
          have e5 := putE u5
          have T45 : SameT H4 H5 := SameT.put u5 e4l rfl
          have sl5 : Sx l H4 H5 := fun b u hb h => by rw [← u5, upd_ne hb]; exact h
          refine k (putT ts t) (xs.set j x) H5 (fun b u h1 h2 h => sl5 _ _ h2 (sx _ _ h1 (S03 _ _ h))) (hb4.sl e4l sl5) e5 ?_ hG'
          rw [putT_set hG.nd hu (by rw [hn]; exact eu)]
          exact (hA4.mono (P' := TV K H5) fun _ _ w => w.sameT T45).set (tv4.sameT T45)
        · rw [decide_eq_false hm]
          try try infer_instance
          refine ⟨.inl ⟨rfl, _, SqL.of e4l⟩, l, xs, x, rfl, rfl, e4l, by omega, ?_⟩
          generalize u5 : upd H4 l _ = H5
          have e5 := putE u5
          have T45 : SameT H4 H5 := SameT.put u5 e4l rfl
          have sl5 : Sx l H4 H5 := fun b u hb h => by rw [← u5, upd_ne hb]; exact h
          refine k (putT ts t) (xs ++ [x]) H5 (fun b u h1 h2 h => sl5 _ _ h2 (sx _ _ h1 (S03 _ _ h))) (hb4.sl e4l sl5) e5 ?_ hG'
          have ep : putT ts t = ts ++ [t] := by unfold putT; rw [if_neg (by rw [hn]; exact hm)]
          rw [ep]
          exact (hA4.mono (P' := TV K H5) fun _ _ w => w.sameT T45).append (.one (tv4.sameT T45))
abbrev s_law_lists : Stmt := top 38
theorem sc_law_lists : FnScope ["_law_rows", "_law_cell", "_law_at", "_law_twice", "_law_bad_here"] ["_law_rows", "_law_cell"] (defScope s_law_lists) := ⟨rfl, rfl, rfl, by decide +kernel, rfl, by decide +kernel, by decide +kernel⟩
def sp_law_lists (K : PySem.W.Frag) (Ad : Adr) : Sp := fun vs H Q E => ∃ (l : Addr) (c : Int) (xs : List V) (ts : List TD), vs = [.ref l, .int c] ∧ H l = some (.lst xs) ∧ All2 (TV K H) ts xs ∧ Good ts ∧ ∀ H', Same H H' → Q (.bl true) H'
theorem ok_law_lists {f : Addr} {fd : FuncData} {dV : Value} (F : FunD K "_law_lists" "_law_lists" s_law_lists dV f fd) (T : Txt K mg Ad) (c_law_refused : Cal P w K mg base 9 "_law_refused" ["_law_book", "_law_way", "_law_thing"] [] (sp_law_refused K Ad)) (c_law_bad : Cal P w K mg base 1 "_law_bad" ["_law_tie_here", "_law_cell"] [] (sp_law_bad K)) : FnOk P w K mg base (CX1 P w) 10 f fd ["_law_rows", "_law_cell"] (sp_law_lists K Ad) := by
  refine F.okn sc_law_lists (fun vs H Q E h => ?_) (fun cdv A outer s H vs Q E hr h => ?_)
  · obtain ⟨l, c, xs, ts, rfl, _⟩ := h; rfl
  obtain ⟨l, c, xs, ts, rfl, h⟩ := h
  have hu := hr.units
  refine ⟨_, (pss_cons (ps_if (pt_cmpR (op_eqU hu) (pe_callB call_lenU rfl T.n_len bt_len (pa_cons (pv 0) pa_nil)) pe_int (nomark _))
      (pss_one (ps_ret (pe_cmpR (op_eqU hu) (c_law_refused.ev hr (by decide) rfl passF (pa_cons pe_non (pa_cons pe_int (pa_cons (pe_lst (pa_cons (pe_tup (pa_cons pe_str (pa_cons pe_str (pa_cons pe_str (pa_cons pe_non (pa_cons pe_non pa_nil)))))) pa_nil)) pa_nil)))) (pe_lst (pa_cons pe_bl (pa_cons pe_bl (pa_cons pe_bl (pa_cons pe_bl pa_nil))))) (nomark _))))
      pss_nil)
      (pss_cons (ps_set (i := 2) sc_law_lists.nd rfl (Or.inl rfl) (pe_op op_modU (pv 1) (pe_callB call_lenU rfl T.n_len bt_len (pa_cons (pv 0) pa_nil))))
      (pss_cons (ps_set (i := 3) sc_law_lists.nd rfl (Or.inl rfl) (pe_op op_addU (pv 0) (pe_lst (pa_cons (pe_ix ix_U (pv 0) (pv 2) (fun _ _ => rfl)) pa_nil))))
      (pss_cons (ps_set (i := 4) sc_law_lists.nd rfl (Or.inl rfl) (c_law_bad.ev hr (by decide) rfl passF (pa_cons (pe_ix ix_U (pv 0) (pv 2) (fun _ _ => rfl)) (pa_cons (pe_op op_fdivU (pv 1) pe_int) pa_nil))))
      (pss_cons (ps_if (pt_cmpR (op_neU hu) (c_law_refused.ev hr (by decide) rfl passF (pa_cons pe_non (pa_cons pe_int (pa_cons (pv 3) pa_nil)))) (pe_lst (pa_cons pe_bl (pa_cons pe_bl (pa_cons pe_bl (pa_cons pe_bl pa_nil))))) (nomark _))
      (pss_one (ps_ret pe_bl))
      pss_nil)
      (pss_cons (ps_if (pt_cmpR (op_neU hu) (c_law_refused.ev hr (by decide) rfl passF (pa_cons pe_non (pa_cons pe_int (pa_cons (pe_op op_addU (pe_op op_addU (pe_slice sl_V (pv 0) po_none (po_some (pv 2))) (pe_lst (pa_cons (pv 4) pa_nil))) (pe_slice sl_V (pv 0) (po_some (pv 2)) po_none)) pa_nil)))) (pe_lst (pa_cons pe_bl (pa_cons pe_bl (pa_cons pe_bl (pa_cons pe_bl pa_nil))))) (nomark _))
      (pss_one (ps_ret pe_bl))
      pss_nil)
      (pss_one (ps_ret (pe_cmpR (op_eqU hu) (c_law_refused.ev hr (by decide) rfl passF (pa_cons pe_non (pa_cons pe_int (pa_cons (pe_op op_addU (pv 3) (pe_lst (pa_cons (pv 4) pa_nil))) pa_nil)))) (pe_lst (pa_cons pe_bl (pa_cons pe_bl (pa_cons pe_bl (pa_cons pe_bl pa_nil))))) (nomark _)))))))))), ?_⟩
  obtain ⟨e0, hA, hG, k⟩ := h
  have sl : (1000 : Nat) ≤ sizeLine := by decide
  have len1 : ∀ x : V, [x].length ≤ sizeLine := fun x => by show 1 ≤ sizeLine; omega
  have hl6 := hG.len
  have la := hA.length
  have neb : ∀ {H : Hp} {Q : VK} {l m : Addr} {as : List Bool}, H l = some (.lst (as.map V.bl)) → H m = some (.lst (as.map V.bl)) → Q (.bl false) H → rNeU K (.ref l) (.ref m) H Q := fun {H Q l m as} h g q => by
    refine ⟨.lst (as.map D.bl), .lst (as.map D.bl), ?_, ?_, ?_, rfl, ?_⟩
    · simp only [Rep]; exact ⟨_, _, rfl, SqL.of h, repL_bl as⟩
    · simp only [Rep]; exact ⟨_, _, rfl, SqL.of g, repL_bl as⟩
    · rw [depD, depL_bl]; decide
    · rw [eqD_refl]; exact q
  show tSeq _ _ _ [some (.ref l), some (.int c), none, none, none] H
  try infer_instance
  refine ⟨xs, .inl (SqL.of e0), ?_⟩
  try try infer_instance
  by_cases c0 : ts = []
  · have hx0 : xs.length = 0 := by rw [la, c0]; rfl
    rw [if_pos (by rw [hx0]; decide)]
    refine ⟨len5, ?_⟩
    intro q1 h_q1
    generalize q_q1 : upd H q1 _ = H1
    have S1 := newS h_q1 q_q1
    have e1 := newE q_q1
    refine ⟨len1 _, ?_⟩
    intro q2 h_q2
    generalize q_q2 : upd H1 q2 _ = H2
    have S2 := newS h_q2 q_q2
    have e2 := newE q_q2
    refine ⟨.non, .ref q2, 2, [true, false, false, true], rfl, .inr (.inr ⟨rfl, q2, _, [.inr (.tup [.str "a", .str "a", .str "a", .non, .non])], rfl, SqL.of e2, .one ⟨?_, ?_, by simp [tieB, facesB, eqD]⟩, by show 1 ≤ 100; omega, .inl ⟨by rw [bookW], rfl⟩⟩), fun q H3 S3 e3 => ?_⟩
    · simp only [Rep, RepL]
      exact ⟨q1, _, rfl, SqT.of (S2 _ _ e1), _, _, rfl, rfl, _, _, rfl, rfl, _, _, rfl, rfl, _, _, rfl, rfl, _, _, rfl, rfl, rfl⟩
    · simp only [szD, szL]
      exact ⟨by decide, by decide, by decide, trivial, trivial, trivial⟩
    refine ⟨len4, ?_⟩
    intro m h_m
    generalize q_m : upd H3 m _ = H4
    have S4 := newS h_m q_m
    have e4 := newE q_m
    refine eqBL (as := [true, false, false, true]) (bs := [true, false, false, true]) (S4 _ _ e3) e4 ?_
    rw [decide_eq_true rfl]
    exact k H4 (S1.trans (S2.trans (S3.trans S4)))
  · have ht0 : 0 < ts.length := by
      cases ts with
      | nil => exact absurd rfl c0
      | cons a b => simp
    rw [if_neg (by rw [decide_eq_true_eq]; omega)]
    refine ⟨xs, .inl (SqL.of e0), ?_⟩
    try try infer_instance
    have qa := Mth.fm (x := c) (y := (xs.length : Int)) (by omega)
    obtain ⟨j, hj⟩ := Int.eq_ofNat_of_zero_le qa.1
    refine ⟨by omega, ?_⟩
    rw [hj]
    have lj : j < xs.length := by omega
    have lj' : j < ts.length := by omega
    have ct : ∀ {l : List V} {i : Nat}, cutV l none (some (i : Int)) = l.take i := fun {l i} => by
      unfold cutV
      rw [HT.sIx_none, HT.sIx_nat, List.drop_zero, Nat.sub_zero]
      by_cases hi : i ≤ l.length
      · rw [Nat.min_eq_left hi]
      · rw [Nat.min_eq_right (by omega), List.take_of_length_le (Nat.le_refl _), List.take_of_length_le (by omega)]
    have cf : ∀ {l : List V} {i : Nat}, cutV l (some (i : Int)) none = l.drop i := fun {l i} => by
      unfold cutV
      rw [HT.sIx_none, HT.sIx_nat]
      by_cases hi : i ≤ l.length
      · rw [Nat.min_eq_left hi, List.take_of_length_le (by simp)]
      · rw [Nat.min_eq_right (by omega), List.drop_eq_nil_of_le (Nat.le_refl _), List.drop_eq_nil_of_le (by omega)]
        simp
    obtain ⟨t, ht, tv⟩ := hA.at_ (List.getElem?_eq_getElem lj)
    have ok := hG.ok t (List.mem_of_getElem? ht)
    have hin : t.nm ∈ nms ts := List.mem_map_of_mem (f := (·.nm)) (List.mem_of_getElem? ht)
    have E0' := evs hA hG.ok
    refine ixL (i := j) (SqL.of e0) (List.getElem?_eq_getElem lj) ?_
    refine ⟨len1 _, ?_⟩
    intro a1 h_a1
    generalize q_a1 : upd H a1 _ = H1
    have S1 := newS h_a1 q_a1
    have e1 := newE q_a1
    refine .inl ⟨l, a1, xs, _, rfl, rfl, S1 _ _ e0, e1, by simp; omega, ?_⟩
    intro a2 h_a2
    generalize q_a2 : upd H1 a2 _ = H2
    have S2 := newS h_a2 q_a2
    have e2 := newE q_a2
    have S02 := S1.trans S2
    refine ixL (i := j) (SqL.of (S02 _ _ e0)) (List.getElem?_eq_getElem lj) ?_
    repeat (refine And.intro (by first | exact divOkL (by decide) | exact powOkL (by decide) | exact mulOkL (by decide) | exact mulOkL' (by decide) | exact Int.one_ne_zero | decide) ?_)
    refine ⟨xs[j], t, _, rfl, tv.sameT S02.t, ok, fun y e H3 S3 hR sz hbad => ?_⟩
    have S03 := S02.trans S3
    try try infer_instance
    have b1 : bookW [] (ts.map Sum.inl ++ [Sum.inl t]) = .twice := by
      rw [bookW_app ts [] _ (by simpa using hG.nd), List.nil_append, bookW, if_pos hin]
    have b2 : bookW [] ((ts.take j).map Sum.inl ++ [Sum.inr e] ++ (ts.drop j).map Sum.inl) = .noTie := by
      rw [List.append_assoc, bookW_app (ts.take j) [] _ (by
        rw [List.nil_append, nms, List.map_take]
        exact hG.nd.sublist (List.take_sublist _ _)), List.cons_append, List.nil_append, bookW]
    have b3 : bookW [] (ts.map Sum.inl ++ [Sum.inl t] ++ [Sum.inr e]) = .twice := by
      rw [List.append_assoc, bookW_app ts [] _ (by simpa using hG.nd), List.nil_append, List.cons_append, bookW, if_pos hin]
    have ev2 : ∀ {H' : Hp}, Same H H' → All2 (EV K H') (ts.map Sum.inl ++ [Sum.inl t]) (xs ++ [xs[j]]) := fun S => (E0'.mono fun _ _ w => w.same S).append (.one ⟨tv.sameT S.t, ok⟩)
    refine ⟨.non, .ref a2, 2, [false, false, true, true], rfl, .inr (.inr ⟨rfl, a2, _, _, rfl, SqL.of (S3 _ _ e2), ev2 S03, by simp; omega, .inr ⟨b1, rfl⟩⟩), fun q H4 S4 e4 => ?_⟩
    refine ⟨len4, ?_⟩
    intro m1 h_m1
    generalize q_m1 : upd H4 m1 _ = H5
    have S5 := newS h_m1 q_m1
    have f5 := newE q_m1
    refine neb (as := [false, false, true, true]) (S5 _ _ e4) f5 ?_
    try try infer_instance
    have S05 := S03.trans (S4.trans S5)
    refine .inl (.inl ⟨l, xs, rfl, SqL.of (S05 _ _ e0), ?_⟩)
    intro a3 h_a3
    generalize q_a3 : upd H5 a3 _ = H6
    have S6 := newS h_a3 q_a3
    have e6 := newE q_a3
    rw [ct] at e6
    refine ⟨len1 _, ?_⟩
    intro a4 h_a4
    generalize q_a4 : upd H6 a4 _ = H7
    have S7 := newS h_a4 q_a4
    have e7 := newE q_a4
    refine .inl ⟨a3, a4, _, _, rfl, rfl, S7 _ _ e6, e7, by simp; omega, ?_⟩
    intro a5 h_a5
    generalize q_a5 : upd H7 a5 _ = H8
    have S8 := newS h_a5 q_a5
    have e8 := newE q_a5
    try try infer_instance
    have S08 := S05.trans (S6.trans (S7.trans S8))
    refine .inl (.inl ⟨l, xs, rfl, SqL.of (S08 _ _ e0), ?_⟩)
    intro a6 h_a6
    generalize q_a6 : upd H8 a6 _ = H9
    have S9 := newS h_a6 q_a6
    have e9 := newE q_a6
    rw [cf] at e9
    refine .inl ⟨a5, a6, _, _, rfl, rfl, S9 _ _ e8, e9, by simp; omega, ?_⟩
    intro a7 h_a7
    generalize q_a7 : upd H9 a7 _ = H10
    have S10 := newS h_a7 q_a7
    have e10 := newE q_a7
    try try infer_instance
    have S010 := S08.trans (S9.trans S10)
    have S310 : Same H3 H10 := S4.trans (S5.trans (S6.trans (S7.trans (S8.trans (S9.trans S10)))))
    have ev3 : All2 (EV K H10) ((ts.take j).map Sum.inl ++ [Sum.inr e] ++ (ts.drop j).map Sum.inl) (xs.take j ++ [y] ++ xs.drop j) := by
      have m := E0'.mono (P' := EV K H10) fun _ _ w => w.same S010
      have m1 := m.take j
      have m2 := m.drop j
      rw [← List.map_take] at m1
      rw [← List.map_drop] at m2
      exact (m1.append (All2.one (a := Sum.inr e) (x := y) ⟨hR.same S310, sz, hbad⟩)).append m2
    refine ⟨.non, .ref a7, 2, [true, false, false, true], rfl, .inr (.inr ⟨rfl, a7, _, _, rfl, SqL.of e10, ev3, by simp; omega, .inl ⟨b2, rfl⟩⟩), fun q H11 S11 e11 => ?_⟩
    refine ⟨len4, ?_⟩
    intro m2 h_m2
    generalize q_m2 : upd H11 m2 _ = H12
    have S12 := newS h_m2 q_m2
    have f12 := newE q_m2
    refine neb (as := [true, false, false, true]) (S12 _ _ e11) f12 ?_
    try try infer_instance
    refine ⟨len1 _, ?_⟩
    intro a8 h_a8
    generalize q_a8 : upd H12 a8 _ = H13
    have S13 := newS h_a8 q_a8
    have e13 := newE q_a8
    have S313 : Same H3 H13 := S310.trans (S11.trans (S12.trans S13))
    refine .inl ⟨a2, a8, _, _, rfl, rfl, S313 _ _ (S3 _ _ e2), e13, by simp; omega, ?_⟩
    intro a9 h_a9
    generalize q_a9 : upd H13 a9 _ = H14
    have S14 := newS h_a9 q_a9
    have e14 := newE q_a9
    try try infer_instance
    have S314 := S313.trans S14
    have S014 := S03.trans S314
    refine ⟨.non, .ref a9, 2, [false, false, true, true], rfl, .inr (.inr ⟨rfl, a9, _, _, rfl, SqL.of e14, (ev2 S014).append (All2.one (a := Sum.inr e) (x := y) ⟨hR.same S314, sz, hbad⟩), by simp; omega, .inr ⟨b3, rfl⟩⟩), fun q H15 S15 e15 => ?_⟩
    refine ⟨len4, ?_⟩
    intro m3 h_m3
    generalize q_m3 : upd H15 m3 _ = H16
    have S16 := newS h_m3 q_m3
    have f16 := newE q_m3
    refine eqBL (as := [false, false, true, true]) (bs := [false, false, true, true]) (S16 _ _ e15) f16 ?_
    rw [decide_eq_true rfl]
    exact k H16 (S014.trans (S15.trans S16))
abbrev s_law : Stmt := top 39
theorem sc_law : FnScope ["_law_script", "_law_first", "_law_rows", "_law_k", "_law_handed", "_law_book", "_law_cell"] ["_law_script"] (defScope s_law) := ⟨rfl, rfl, rfl, by decide +kernel, rfl, by decide +kernel, by decide +kernel⟩
def sp_law (K : PySem.W.Frag) : Sp := fun vs H Q E => ∃ (a : Addr) (ns : List Int), vs = [.ref a] ∧ SqL K H a (ns.map V.int) ∧ ns.length ≤ 63 ∧ ∀ H', Q (.bl true) H'
theorem ok_law {f : Addr} {fd : FuncData} {dV : Value} (F : FunD K "law" "law" s_law dV f fd) (T : Txt K mg Ad) (c_law_tie : Cal P w K mg base 1 "_law_tie" ["_law_cell", "_law_name_here"] [] (sp_law_tie K)) (c_law_name : Cal P w K mg base 1 "_law_name" ["_law_cell"] [] (sp_law_name K)) (k_Book : KCal P w K mg base 7 "Book" Ad.Book ["self", "ties"] (sp_Bookuu_inituu K Ad)) (c_law_step : Cal P w K mg base 10 "_law_step" ["_law_book", "_law_rows", "_law_cell"] [] (sp_law_step K Ad)) (c_law_seen : Cal P w K mg base 3 "_law_seen" ["_law_book", "_law_rows"] [] (sp_law_seen K Ad)) (c_law_lists : Cal P w K mg base 10 "_law_lists" ["_law_rows", "_law_cell"] [] (sp_law_lists K Ad)) : FnOk P w K mg base (CX1 P w) 11 f fd ["_law_script"] (sp_law K) := by
  refine F.okn sc_law (fun vs H Q E h => ?_) (fun cdv A outer s H vs Q E hr h => ?_)
  · obtain ⟨a, ns, rfl, _⟩ := h; rfl
  obtain ⟨a, ns, rfl, h⟩ := h
  have hu := hr.units
  refine ⟨_, (pss_cons (ps_set (i := 1) sc_law.nd rfl (Or.inl rfl) pe_int)
      (pss_cons (ps_if (pt_cmpR op_gtU (pe_callB call_lenU rfl T.n_len bt_len (pa_cons (pv 0) pa_nil)) pe_int (nomark _))
      (pss_one (ps_set (i := 1) sc_law.nd rfl (Or.inl rfl) (pe_ix ix_U (pv 0) pe_int (fun _ _ => rfl))))
      pss_nil)
      (pss_cons (ps_set (i := 2) sc_law.nd rfl (Or.inl rfl) (pe_lst pa_nil))
      (pss_cons (ps_for PassesOwn.never rfl (pi_range1 rfl T.n_range (pa_cons (pe_op op_modU (pv 1) pe_int) pa_nil)) (pg_name (i := 3) sc_law.nd rfl (Or.inl rfl))
      (pss_one (ps_expr (pe_bm PySem.F.plainAttrs_list PySem.F.slot_list_append PySem.F.type_list_append mt_append (pv 2) (pa_cons (c_law_tie.ev hr (by decide) rfl passF (pa_cons (pe_op op_fdivU (pv 1) (pe_op op_addU pe_int (pv 3))) (pa_cons (c_law_name.ev hr (by decide) rfl passF (pa_cons (pv 3) pa_nil)) pa_nil))) pa_nil)))))
      (pss_cons (ps_set (i := 4) sc_law.nd rfl (Or.inl rfl) (pe_callTy call_listU rfl T.n_list bt_list (pa_cons (pv 2) pa_nil)))
      (pss_cons (ps_set (i := 5) sc_law.nd rfl (Or.inl rfl) (k_Book.ev hr (by decide) rfl passF (pa_cons (pv 4) pa_nil)))
      (pss_cons (ps_expr (pe_bm PySem.F.plainAttrs_list PySem.F.slot_list_append PySem.F.type_list_append mt_append (pv 4) (pa_cons (pv 2) pa_nil)))
      (pss_cons (ps_for PassesOwn.never rfl (pi_U (pe_slice sl_V (pv 0) po_none (po_some pe_int))) (pg_name (i := 6) sc_law.nd rfl (Or.inl rfl))
      (pss_one (ps_if (PW.pt (pw_or (pt_not (pt_val (c_law_step.ev hr (by decide) rfl passF (pa_cons (pv 5) (pa_cons (pv 2) (pa_cons (pv 6) pa_nil)))))) (pw_or1 (pt_not (pt_val (c_law_seen.ev hr (by decide) rfl passF (pa_cons (pv 5) (pa_cons (pv 2) pa_nil))))))))
      (pss_one (ps_ret pe_bl))
      pss_nil)))
      (pss_one (ps_ret (pe_and (c_law_seen.ev hr (by decide) rfl passF (pa_cons (pv 5) (pa_cons (pv 2) pa_nil))) (pe_and (c_law_lists.ev hr (by decide) rfl passF (pa_cons (pv 2) (pa_cons (pe_op op_fdivU (pv 1) pe_int) pa_nil))) (pe_one (c_law_seen.ev hr (by decide) rfl passF (pa_cons (k_Book.ev hr (by decide) rfl passF (pa_cons (pv 2) pa_nil)) (pa_cons (pv 2) pa_nil)))))))))))))))), ?_⟩
  obtain ⟨hS, hl, k⟩ := h
  have sl : (1000 : Nat) ≤ sizeLine := by decide
  show tSeq _ _ _ [some (.ref a), none, none, none, none, none, none] H
  try infer_instance
  refine ⟨_, .inl hS, ?_⟩
  try try infer_instance
  obtain ⟨n0, hn0⟩ : ∃ n0 : Int, (0 < ns.length → (ns.map V.int)[0]? = some (.int n0)) ∧ (¬ 0 < ns.length → n0 = 0) := by
    cases ns with
    | nil => exact ⟨0, fun h => absurd h (by simp), fun _ => rfl⟩
    | cons x r => exact ⟨x, fun _ => rfl, fun h => absurd (by simp) h⟩
  by_cases c0 : 0 < ns.length
  rw [if_pos (by simp; exact c0)]
  refine ixL (i := 0) hS (hn0.1 c0) ?_
  rotate_left
  rw [if_neg (by simp; exact List.eq_nil_of_length_eq_zero (by omega))]
  have hz := hn0.2 c0
  rw [show Int.fmod 0 5 = n0.fmod 5 by rw [hz], show V.int 0 = V.int n0 by rw [hz]]
  all_goals
    try try infer_instance
    refine ⟨len0, ?_⟩
    intro rl h_rl
    generalize q_rl : upd H rl _ = H1
    have S1 := newS h_rl q_rl
    have e1 := newE q_rl
    repeat (refine And.intro (by first | exact divOkL (by decide) | exact powOkL (by decide) | exact mulOkL (by decide) | exact mulOkL' (by decide) | exact Int.one_ne_zero | decide) ?_)
    have q5 := Mth.fm (x := n0) (y := 5) (by decide)
    refine ⟨_, rfl, by omega, by omega, ?_⟩
    refine ForR.by (fun i σ H' => ∃ (v3 : Option V) (xs : List V) (ts : List TD), σ = [some (.ref a), some (.int n0), some (.ref rl), v3, none, none, none] ∧ Same H H' ∧ H' rl = some (.lst xs) ∧ All2 (TV K H') ts xs ∧ (∀ t ∈ ts, TOk t) ∧ nms ts = nameL.take i) ⟨none, [], [], rfl, S1, e1, rfl, by simp, rfl⟩ ?_ ?_
    · rintro i σ H2 hi ⟨v3, xs, ts, rfl, S2, e2, hA, hT, hn⟩
      have la := hA.length
      have ln : ts.length ≤ 5 := by
        have := congrArg List.length hn
        rw [List.length_map, List.length_take] at this
        omega
      try infer_instance
      refine ⟨.inl ⟨rfl, _, SqL.of e2⟩, ?_⟩
      try try infer_instance
      refine ⟨divOk (n := 8) (by omega) (.lit (by omega) (by omega)), ?_⟩
      try try infer_instance
      refine ⟨_, rfl, fun z H3 hz S3 => ?_⟩
      try try infer_instance
      refine ⟨_, z, rfl, nameL_ok z (List.mem_of_getElem? hz), fun x t H4 S4 tv ok hnm => ?_⟩
      try try infer_instance
      have e4 := S4 _ _ (S3 _ _ e2)
      refine ⟨rl, _, _, rfl, rfl, e4, by omega, ?_⟩
      generalize u5 : upd H4 rl _ = H5
      have e5 := putE u5
      have T45 : SameT H4 H5 := SameT.put u5 e4 rfl
      refine ⟨_, xs ++ [x], ts ++ [t], rfl, fun bb u hb => ?_, e5, ?_, ?_, ?_⟩
      · rw [← u5, upd_ne (ne_of_none hb h_rl)]
        exact S4 _ _ (S3 _ _ (S2 _ _ hb))
      · exact (hA.mono (P' := TV K H5) fun _ _ w => ((w.sameT S3.t).sameT S4.t).sameT T45).append (.one (tv.sameT T45))
      · intro t' ht'
        rcases List.mem_append.mp ht' with h' | h'
        · exact hT _ h'
        · rw [List.mem_singleton.mp h']
          exact ok
      · have ei : ((0 + (i : Int)).fmod 6).toNat = i := by
          rw [Int.zero_add, Int.fmod_eq_emod_of_nonneg _ (by decide), Int.emod_eq_of_lt (by omega) (by omega), Int.toNat_natCast]
        rw [ei] at hz
        have hn2 : ts.map (·.nm) = nameL.take i := hn
        show (ts ++ [t]).map (·.nm) = _
        rw [List.map_append, hn2, List.take_succ, hz, List.map_cons, List.map_nil, hnm]
        rfl
    · rintro σ H2 ⟨v3, xs, ts, rfl, S2, e2, hA, hT, hn⟩
      have la := hA.length
      have hG : Good ts := by
        refine ⟨by rw [hn]; exact (show nameL.Nodup by decide).sublist (List.take_sublist _ _), hT, fun t ht => ?_⟩
        have : t.nm ∈ nms ts := List.mem_map_of_mem (f := (·.nm)) ht
        rw [hn] at this
        exact List.mem_of_mem_take this
      have hl6 := hG.len
      have mk : ∀ {ts : List TD}, Good ts → bookW [] (ts.map Sum.inl) = .ok ts := fun {ts} g => by
        have := bookW_app ts [] [] (by simpa using g.nd)
        rw [List.append_nil, List.nil_append] at this
        rw [this, bookW]
      try infer_instance
      refine ⟨rl, xs, rfl, .inl (SqL.of e2), ?_⟩
      intro hd h_hd
      generalize q_hd : upd H2 hd _ = H3
      have S3 := newS h_hd q_hd
      have e3 := newE q_hd
      try try infer_instance
      intro x dx hx hdx hne
      have Sm : Same H3 (upd (upd H3 dx (.own x)) x (.ins Ad.Book dx [])) := fun b u q => by rw [upd_ne (ne_of_none q hx), upd_ne (ne_of_none q hdx)]; exact q
      have hA3 := hA.mono (P' := TV K H3) fun _ _ w => w.sameT S3.t
      refine ⟨x, dx, hd, xs, ts.map Sum.inl, H3, rfl, upd_same, hx, Sm, SqL.of e3, evs hA3 hT, by simp; omega, ?_⟩
      rw [mk hG]
      intro d H4 S4 hd4 hb4
      refine ⟨rfl, ?_⟩
      try try infer_instance
      have e4h := S4 _ _ e3
      refine ⟨.inl ⟨rfl, _, SqL.of e4h⟩, ?_⟩
      try try infer_instance
      refine ⟨hd, _, _, rfl, rfl, e4h, by omega, ?_⟩
      generalize u5 : upd H4 hd _ = H5
      have T45 : SameT H4 H5 := SameT.put u5 e4h rfl
      have sl5 : Sx hd H4 H5 := fun b u hb h => by rw [← u5, upd_ne hb]; exact h
      have hb5 := hb4.sl e4h sl5
      have nhr : rl ≠ hd := fun w => by rw [← w, e2] at h_hd; cases h_hd
      have e5 : H5 rl = some (.lst xs) := sl5 _ _ nhr (S4 _ _ (S3 _ _ e2))
      have hA5 := hA3.mono (P' := TV K H5) fun _ _ w => (w.sameT S4.t).sameT T45
      have hh0 : H hd = none := by
        cases e : H hd with
        | none => rfl
        | some o => rw [S2 _ _ e] at h_hd; cases h_hd
      have hd0 : H d = none := by
        cases e : H d with
        | none => rfl
        | some o => rw [S3 _ _ (S2 _ _ e)] at hd4; cases hd4
      have S05 : Same H H5 := fun b u h => sl5 _ _ (ne_of_none h hh0) (S4 _ _ (S3 _ _ (S2 _ _ h)))
      try try infer_instance
      refine .inl (.inl ⟨a, ns.map V.int, rfl, hS.same S05, ?_⟩)
      intro sc h_sc
      generalize q_sc : upd H5 sc _ = H6
      have S6 := newS h_sc q_sc
      have e6 := newE q_sc
      have nsr : sc ≠ rl := fun w => by rw [w, e5] at h_sc; cases h_sc
      obtain ⟨⟨_, _⟩, _, hd5, _⟩ := id hb5
      have nsd : sc ≠ d := fun w => by rw [w, hd5] at h_sc; cases h_sc
      refine ⟨sc, rfl, ForA.byL (xs := cutV (ns.map V.int) none (some 63)) (SqL.of e6) (fun i σ H' => ∃ (v6 : Option V) (xs : List V) (ts : List TD), σ = [some (.ref a), some (.int n0), some (.ref rl), v3, some (.ref hd), some (.ref x), v6] ∧ H' sc = some (.lst (cutV (ns.map V.int) none (some 63))) ∧ BK K Ad H' x d ts ∧ H' rl = some (.lst xs) ∧ All2 (TV K H') ts xs ∧ Good ts) ⟨none, xs, ts, rfl, e6, hb5.same S6, S6 _ _ e5, hA5.mono fun _ _ w => w.sameT S6.t, hG⟩ (fun i σ H' z => by obtain ⟨_, _, _, _, z, _⟩ := z; exact SqL.of z) ?_ ?_⟩
      · rintro i y σ H7 hy ⟨v6, xs, ts, rfl, e7, hb7, e7r, hA7, hG7⟩
        obtain ⟨c, rfl⟩ : ∃ c : Int, y = .int c := by
          have := List.mem_of_getElem? hy
          unfold cutV at this
          obtain ⟨c, _, e⟩ := List.mem_map.mp (List.mem_of_mem_drop (List.mem_of_mem_take this))
          exact ⟨c, e.symm⟩
        try infer_instance
        refine ⟨x, rl, d, c, xs, ts, rfl, hb7, e7r, hA7, hG7, fun ts' xs' H8 fr hb8 e8 hA8 hG8 => ?_⟩
        try try infer_instance
        have e8s := fr _ _ nsd nsr e7
        refine ⟨x, rl, d, xs', ts', rfl, hb8, SqL.of e8, hA8, hG8.ok, hG8.len, fun H9 S9 => ?_⟩
        try try infer_instance
        exact ⟨_, xs', ts', rfl, S9 _ _ e8s, hb8.same S9, S9 _ _ e8, hA8.mono fun _ _ w => w.sameT S9.t, hG8⟩
      · rintro σ H7 ⟨v6, xs, ts, rfl, e7, hb7, e7r, hA7, hG7⟩
        have hl7 := hG7.len
        have la7 := hA7.length
        try infer_instance
        refine ⟨x, rl, d, xs, ts, rfl, hb7, SqL.of e7r, hA7, hG7.ok, hG7.len, fun H8 S8 => ?_⟩
        try try infer_instance
        repeat (refine And.intro (by first | exact divOkL (by decide) | exact powOkL (by decide) | exact mulOkL (by decide) | exact mulOkL' (by decide) | exact Int.one_ne_zero | decide) ?_)
        refine ⟨rl, _, xs, ts, rfl, S8 _ _ e7r, hA7.mono (P' := TV K H8) fun _ _ w => w.sameT S8.t, hG7, fun H9 S9 => ?_⟩
        try try infer_instance
        have S79 := S8.trans S9
        intro x2 dx2 hx2 hdx2 hne2
        have Sm2 : Same H9 (upd (upd H9 dx2 (.own x2)) x2 (.ins Ad.Book dx2 [])) := fun b u q => by rw [upd_ne (ne_of_none q hx2), upd_ne (ne_of_none q hdx2)]; exact q
        have hA9 := hA7.mono (P' := TV K H9) fun _ _ w => w.sameT S79.t
        refine ⟨x2, dx2, rl, xs, ts.map Sum.inl, H9, rfl, upd_same, hx2, Sm2, SqL.of (S79 _ _ e7r), evs hA9 hG7.ok, by simp; omega, ?_⟩
        rw [mk hG7]
        intro d2 H10 S10 hd10 hb10
        refine ⟨rfl, ?_⟩
        try try infer_instance
        refine ⟨x2, rl, d2, xs, ts, rfl, hb10, SqL.of (S10 _ _ (S79 _ _ e7r)), hA9.mono (P' := TV K H10) fun _ _ w => w.sameT S10.t, hG7.ok, hG7.len, fun H11 S11 => ?_⟩
        try try infer_instance
        exact k _
end
theorem all_mk {l : PySem.W.OpenLaw} {w : World} {K : PySem.W.Frag} {h : Heap} {mg : Str → Option Value} {fa : Addr} {SlackError NoTie Twice NoName Tie Free AtLeast AtMost Just Between Book : Addr} (X : K.In h) (G : h.Ns mainGlobals mg) (hfa : mg "law" = some (.ref fa))
    {f1 : Addr} {od1 an1 : Option Addr} {sl1 : Array (Option Value)} {oc1 kV1 dc1 pm1 cd1 ct1 : Value}
    {f2 : Addr} {od2 an2 : Option Addr} {sl2 : Array (Option Value)} {oc2 kV2 dc2 pm2 cd2 ct2 : Value}
    {f3 : Addr} {od3 an3 : Option Addr} {sl3 : Array (Option Value)} {oc3 kV3 dc3 pm3 cd3 ct3 : Value}
    {f4 : Addr} {od4 an4 : Option Addr} {sl4 : Array (Option Value)} {oc4 kV4 dc4 pm4 cd4 ct4 : Value}
    {f5 : Addr} {od5 an5 : Option Addr} {sl5 : Array (Option Value)} {oc5 kV5 dc5 pm5 cd5 ct5 : Value}
    {f6 : Addr} {od6 an6 : Option Addr} {sl6 : Array (Option Value)} {oc6 kV6 dc6 pm6 cd6 ct6 : Value}
    {f7 : Addr} {od7 an7 : Option Addr} {sl7 : Array (Option Value)} {oc7 kV7 dc7 pm7 cd7 ct7 : Value}
    {f8 : Addr} {od8 an8 : Option Addr} {sl8 : Array (Option Value)} {oc8 kV8 dc8 pm8 cd8 ct8 : Value}
    {f9 : Addr} {od9 an9 : Option Addr} {sl9 : Array (Option Value)} {oc9 kV9 dc9 pm9 cd9 ct9 : Value}
    {f10 : Addr} {od10 an10 : Option Addr} {sl10 : Array (Option Value)} {oc10 kV10 dc10 pm10 cd10 ct10 : Value}
    {f11 : Addr} {od11 an11 : Option Addr} {sl11 : Array (Option Value)} {oc11 kV11 dc11 pm11 cd11 ct11 : Value}
    {f12 : Addr} {od12 an12 : Option Addr} {sl12 : Array (Option Value)} {oc12 kV12 dc12 pm12 cd12 ct12 : Value}
    {f13 : Addr} {od13 an13 : Option Addr} {sl13 : Array (Option Value)} {oc13 kV13 dc13 pm13 cd13 ct13 : Value}
    {f14 : Addr} {od14 an14 : Option Addr} {sl14 : Array (Option Value)} {oc14 kV14 dc14 pm14 cd14 ct14 : Value}
    {f15 : Addr} {od15 an15 : Option Addr} {sl15 : Array (Option Value)} {oc15 kV15 dc15 pm15 cd15 ct15 : Value}
    {f16 : Addr} {od16 an16 : Option Addr} {sl16 : Array (Option Value)} {oc16 kV16 dc16 pm16 cd16 ct16 : Value}
    {f17 : Addr} {od17 an17 : Option Addr} {sl17 : Array (Option Value)} {oc17 kV17 dc17 pm17 cd17 ct17 : Value}
    {f18 : Addr} {od18 an18 : Option Addr} {sl18 : Array (Option Value)} {oc18 kV18 dc18 pm18 cd18 ct18 : Value}
    {f19 : Addr} {od19 an19 : Option Addr} {sl19 : Array (Option Value)} {oc19 kV19 dc19 pm19 cd19 ct19 : Value}
    {f20 : Addr} {od20 an20 : Option Addr} {sl20 : Array (Option Value)} {oc20 kV20 dc20 pm20 cd20 ct20 : Value}
    {f21 : Addr} {od21 an21 : Option Addr} {sl21 : Array (Option Value)} {oc21 kV21 dc21 pm21 cd21 ct21 : Value}
    {f22 : Addr} {od22 an22 : Option Addr} {sl22 : Array (Option Value)} {oc22 kV22 dc22 pm22 cd22 ct22 : Value}
    {f23 : Addr} {od23 an23 : Option Addr} {sl23 : Array (Option Value)} {oc23 kV23 dc23 pm23 cd23 ct23 : Value}
    {f24 : Addr} {od24 an24 : Option Addr} {sl24 : Array (Option Value)} {oc24 kV24 dc24 pm24 cd24 ct24 : Value}
    {f25 : Addr} {od25 an25 : Option Addr} {sl25 : Array (Option Value)} {oc25 kV25 dc25 pm25 cd25 ct25 : Value}
    {f26 : Addr} {od26 an26 : Option Addr} {sl26 : Array (Option Value)} {oc26 kV26 dc26 pm26 cd26 ct26 : Value}
    {f27 : Addr} {od27 an27 : Option Addr} {sl27 : Array (Option Value)} {oc27 kV27 dc27 pm27 cd27 ct27 : Value}
    {f28 : Addr} {od28 an28 : Option Addr} {sl28 : Array (Option Value)} {oc28 kV28 dc28 pm28 cd28 ct28 : Value}
    {ct_SMALL_LETTERS : Tok}
    {ct_LONGEST_NAME : Tok}
    (g_SlackError : PySem.W.nsIn K mainGlobals "SlackError" = some (some (.ref SlackError)))
    (g_NoTie : PySem.W.nsIn K mainGlobals "NoTie" = some (some (.ref NoTie)))
    (g_Twice : PySem.W.nsIn K mainGlobals "Twice" = some (some (.ref Twice)))
    (g_NoName : PySem.W.nsIn K mainGlobals "NoName" = some (some (.ref NoName)))
    (g_Tie : PySem.W.nsIn K mainGlobals "Tie" = some (some (.ref Tie)))
    (g_Free : PySem.W.nsIn K mainGlobals "Free" = some (some (.ref Free)))
    (g_AtLeast : PySem.W.nsIn K mainGlobals "AtLeast" = some (some (.ref AtLeast)))
    (g_AtMost : PySem.W.nsIn K mainGlobals "AtMost" = some (some (.ref AtMost)))
    (g_Just : PySem.W.nsIn K mainGlobals "Just" = some (some (.ref Just)))
    (g_Between : PySem.W.nsIn K mainGlobals "Between" = some (some (.ref Between)))
    (g_Book : PySem.W.nsIn K mainGlobals "Book" = some (some (.ref Book)))
    (a1 : PySem.W.nsIn K mainGlobals "common_divisor" = some (some (.ref f1))) (l1 : K.lookup f1 = some ⟨oc1, od1, .func (PySem.W.fnOf "common_divisor" "common_divisor" (defArgs s_common_divisor) (defBody s_common_divisor) (defScope s_common_divisor) .none kV1 dc1 pm1 an1 cd1 ct1), sl1⟩) (c1 : PySem.W.codeIn K cd1 "common_divisor" = true) (k1 : PySem.W.keepIn K (.ref f1) = true)
    (a2 : PySem.W.nsIn K mainGlobals "under" = some (some (.ref f2))) (l2 : K.lookup f2 = some ⟨oc2, od2, .func (PySem.W.fnOf "under" "under" (defArgs s_under) (defBody s_under) (defScope s_under) .none kV2 dc2 pm2 an2 cd2 ct2), sl2⟩) (c2 : PySem.W.codeIn K cd2 "under" = true) (k2 : PySem.W.keepIn K (.ref f2) = true)
    (a3 : PySem.W.nsIn K mainGlobals "is_name" = some (some (.ref f3))) (l3 : K.lookup f3 = some ⟨oc3, od3, .func (PySem.W.fnOf "is_name" "is_name" (defArgs s_is_name) (defBody s_is_name) (defScope s_is_name) .none kV3 dc3 pm3 an3 cd3 ct3), sl3⟩) (c3 : PySem.W.codeIn K cd3 "is_name" = true) (k3 : PySem.W.keepIn K (.ref f3) = true)
    (a4 : PySem.W.nsIn K mainGlobals "is_whole" = some (some (.ref f4))) (l4 : K.lookup f4 = some ⟨oc4, od4, .func (PySem.W.fnOf "is_whole" "is_whole" (defArgs s_is_whole) (defBody s_is_whole) (defScope s_is_whole) .none kV4 dc4 pm4 an4 cd4 ct4), sl4⟩) (c4 : PySem.W.codeIn K cd4 "is_whole" = true) (k4 : PySem.W.keepIn K (.ref f4) = true)
    (a5 : PySem.W.nsIn K mainGlobals "is_fraction" = some (some (.ref f5))) (l5 : K.lookup f5 = some ⟨oc5, od5, .func (PySem.W.fnOf "is_fraction" "is_fraction" (defArgs s_is_fraction) (defBody s_is_fraction) (defScope s_is_fraction) .none kV5 dc5 pm5 an5 cd5 ct5), sl5⟩) (c5 : PySem.W.codeIn K cd5 "is_fraction" = true) (k5 : PySem.W.keepIn K (.ref f5) = true)
    (a6 : PySem.W.nsIn K mainGlobals "is_bound" = some (some (.ref f6))) (l6 : K.lookup f6 = some ⟨oc6, od6, .func (PySem.W.fnOf "is_bound" "is_bound" (defArgs s_is_bound) (defBody s_is_bound) (defScope s_is_bound) .none kV6 dc6 pm6 an6 cd6 ct6), sl6⟩) (c6 : PySem.W.codeIn K cd6 "is_bound" = true) (k6 : PySem.W.keepIn K (.ref f6) = true)
    (a7 : PySem.W.nsIn K mainGlobals "are_faces" = some (some (.ref f7))) (l7 : K.lookup f7 = some ⟨oc7, od7, .func (PySem.W.fnOf "are_faces" "are_faces" (defArgs s_are_faces) (defBody s_are_faces) (defScope s_are_faces) .none kV7 dc7 pm7 an7 cd7 ct7), sl7⟩) (c7 : PySem.W.codeIn K cd7 "are_faces" = true) (k7 : PySem.W.keepIn K (.ref f7) = true)
    (a8 : PySem.W.nsIn K mainGlobals "are_bounds" = some (some (.ref f8))) (l8 : K.lookup f8 = some ⟨oc8, od8, .func (PySem.W.fnOf "are_bounds" "are_bounds" (defArgs s_are_bounds) (defBody s_are_bounds) (defScope s_are_bounds) .none kV8 dc8 pm8 an8 cd8 ct8), sl8⟩) (c8 : PySem.W.codeIn K cd8 "are_bounds" = true) (k8 : PySem.W.keepIn K (.ref f8) = true)
    (a9 : PySem.W.nsIn K mainGlobals "is_tie" = some (some (.ref f9))) (l9 : K.lookup f9 = some ⟨oc9, od9, .func (PySem.W.fnOf "is_tie" "is_tie" (defArgs s_is_tie) (defBody s_is_tie) (defScope s_is_tie) .none kV9 dc9 pm9 an9 cd9 ct9), sl9⟩) (c9 : PySem.W.codeIn K cd9 "is_tie" = true) (k9 : PySem.W.keepIn K (.ref f9) = true)
    (a10 : PySem.W.findIn K (.ref Tie) "__init__" = some (some (.ref f10))) (l10 : K.lookup f10 = some ⟨oc10, od10, .func (PySem.W.fnOf "__init__" "Tie.__init__" (defArgs s_Tieuu_inituu) (defBody s_Tieuu_inituu) (defScope s_Tieuu_inituu) .none kV10 dc10 pm10 an10 cd10 ct10), sl10⟩) (c10 : PySem.W.codeIn K cd10 "Tie.__init__" = true) (k10 : PySem.W.keepIn K (.ref f10) = true)
    (a11 : PySem.W.findIn K (.ref Tie) "plain" = some (some (.ref f11))) (l11 : K.lookup f11 = some ⟨oc11, od11, .func (PySem.W.fnOf "plain" "Tie.plain" (defArgs s_Tie_plain) (defBody s_Tie_plain) (defScope s_Tie_plain) .none kV11 dc11 pm11 an11 cd11 ct11), sl11⟩) (c11 : PySem.W.codeIn K cd11 "Tie.plain" = true) (k11 : PySem.W.keepIn K (.ref f11) = true)
    (a12 : PySem.W.nsIn K mainGlobals "tie_of" = some (some (.ref f12))) (l12 : K.lookup f12 = some ⟨oc12, od12, .func (PySem.W.fnOf "tie_of" "tie_of" (defArgs s_tie_of) (defBody s_tie_of) (defScope s_tie_of) .none kV12 dc12 pm12 an12 cd12 ct12), sl12⟩) (c12 : PySem.W.codeIn K cd12 "tie_of" = true) (k12 : PySem.W.keepIn K (.ref f12) = true)
    (a13 : PySem.W.nsIn K mainGlobals "faces_of" = some (some (.ref f13))) (l13 : K.lookup f13 = some ⟨oc13, od13, .func (PySem.W.fnOf "faces_of" "faces_of" (defArgs s_faces_of) (defBody s_faces_of) (defScope s_faces_of) .none kV13 dc13 pm13 an13 cd13 ct13), sl13⟩) (c13 : PySem.W.codeIn K cd13 "faces_of" = true) (k13 : PySem.W.keepIn K (.ref f13) = true)
    (a14 : PySem.W.findIn K (.ref Book) "kept" = some (some (.ref f14))) (l14 : K.lookup f14 = some ⟨oc14, od14, .func (PySem.W.fnOf "kept" "Book.kept" (defArgs s_Book_kept) (defBody s_Book_kept) (defScope s_Book_kept) .none kV14 dc14 pm14 an14 cd14 ct14), sl14⟩) (c14 : PySem.W.codeIn K cd14 "Book.kept" = true) (k14 : PySem.W.keepIn K (.ref f14) = true)
    (a15 : PySem.W.findIn K (.ref Book) "ties" = some (some (.ref f15))) (l15 : K.lookup f15 = some ⟨oc15, od15, .func (PySem.W.fnOf "ties" "Book.ties" (defArgs s_Book_ties) (defBody s_Book_ties) (defScope s_Book_ties) .none kV15 dc15 pm15 an15 cd15 ct15), sl15⟩) (c15 : PySem.W.codeIn K cd15 "Book.ties" = true) (k15 : PySem.W.keepIn K (.ref f15) = true)
    (a16 : PySem.W.findIn K (.ref Book) "faces" = some (some (.ref f16))) (l16 : K.lookup f16 = some ⟨oc16, od16, .func (PySem.W.fnOf "faces" "Book.faces" (defArgs s_Book_faces) (defBody s_Book_faces) (defScope s_Book_faces) .none kV16 dc16 pm16 an16 cd16 ct16), sl16⟩) (c16 : PySem.W.codeIn K cd16 "Book.faces" = true) (k16 : PySem.W.keepIn K (.ref f16) = true)
    (a17 : PySem.W.findIn K (.ref Book) "put" = some (some (.ref f17))) (l17 : K.lookup f17 = some ⟨oc17, od17, .func (PySem.W.fnOf "put" "Book.put" (defArgs s_Book_put) (defBody s_Book_put) (defScope s_Book_put) .none kV17 dc17 pm17 an17 cd17 ct17), sl17⟩) (c17 : PySem.W.codeIn K cd17 "Book.put" = true) (k17 : PySem.W.keepIn K (.ref f17) = true)
    (a18 : PySem.W.findIn K (.ref Book) "drop" = some (some (.ref f18))) (l18 : K.lookup f18 = some ⟨oc18, od18, .func (PySem.W.fnOf "drop" "Book.drop" (defArgs s_Book_drop) (defBody s_Book_drop) (defScope s_Book_drop) .none kV18 dc18 pm18 an18 cd18 ct18), sl18⟩) (c18 : PySem.W.codeIn K cd18 "Book.drop" = true) (k18 : PySem.W.keepIn K (.ref f18) = true)
    (a19 : PySem.W.findIn K (.ref Book) "__init__" = some (some (.ref f19))) (l19 : K.lookup f19 = some ⟨oc19, od19, .func (PySem.W.fnOf "__init__" "Book.__init__" (defArgs s_Bookuu_inituu) (defBody s_Bookuu_inituu) (defScope s_Bookuu_inituu) .none kV19 dc19 pm19 an19 cd19 ct19), sl19⟩) (c19 : PySem.W.codeIn K cd19 "Book.__init__" = true) (k19 : PySem.W.keepIn K (.ref f19) = true)
    (a20 : PySem.W.nsIn K mainGlobals "_law_name" = some (some (.ref f20))) (l20 : K.lookup f20 = some ⟨oc20, od20, .func (PySem.W.fnOf "_law_name" "_law_name" (defArgs s_law_name) (defBody s_law_name) (defScope s_law_name) .none kV20 dc20 pm20 an20 cd20 ct20), sl20⟩) (c20 : PySem.W.codeIn K cd20 "_law_name" = true) (k20 : PySem.W.keepIn K (.ref f20) = true)
    (a21 : PySem.W.nsIn K mainGlobals "_law_tie" = some (some (.ref f21))) (l21 : K.lookup f21 = some ⟨oc21, od21, .func (PySem.W.fnOf "_law_tie" "_law_tie" (defArgs s_law_tie) (defBody s_law_tie) (defScope s_law_tie) .none kV21 dc21 pm21 an21 cd21 ct21), sl21⟩) (c21 : PySem.W.codeIn K cd21 "_law_tie" = true) (k21 : PySem.W.keepIn K (.ref f21) = true)
    (a22 : PySem.W.nsIn K mainGlobals "_law_bad" = some (some (.ref f22))) (l22 : K.lookup f22 = some ⟨oc22, od22, .func (PySem.W.fnOf "_law_bad" "_law_bad" (defArgs s_law_bad) (defBody s_law_bad) (defScope s_law_bad) .none kV22 dc22 pm22 an22 cd22 ct22), sl22⟩) (c22 : PySem.W.codeIn K cd22 "_law_bad" = true) (k22 : PySem.W.keepIn K (.ref f22) = true)
    (a23 : PySem.W.nsIn K mainGlobals "_law_refused" = some (some (.ref f23))) (l23 : K.lookup f23 = some ⟨oc23, od23, .func (PySem.W.fnOf "_law_refused" "_law_refused" (defArgs s_law_refused) (defBody s_law_refused) (defScope s_law_refused) .none kV23 dc23 pm23 an23 cd23 ct23), sl23⟩) (c23 : PySem.W.codeIn K cd23 "_law_refused" = true) (k23 : PySem.W.keepIn K (.ref f23) = true)
    (a24 : PySem.W.nsIn K mainGlobals "_law_faces" = some (some (.ref f24))) (l24 : K.lookup f24 = some ⟨oc24, od24, .func (PySem.W.fnOf "_law_faces" "_law_faces" (defArgs s_law_faces) (defBody s_law_faces) (defScope s_law_faces) .none kV24 dc24 pm24 an24 cd24 ct24), sl24⟩) (c24 : PySem.W.codeIn K cd24 "_law_faces" = true) (k24 : PySem.W.keepIn K (.ref f24) = true)
    (a25 : PySem.W.nsIn K mainGlobals "_law_seen" = some (some (.ref f25))) (l25 : K.lookup f25 = some ⟨oc25, od25, .func (PySem.W.fnOf "_law_seen" "_law_seen" (defArgs s_law_seen) (defBody s_law_seen) (defScope s_law_seen) .none kV25 dc25 pm25 an25 cd25 ct25), sl25⟩) (c25 : PySem.W.codeIn K cd25 "_law_seen" = true) (k25 : PySem.W.keepIn K (.ref f25) = true)
    (a26 : PySem.W.nsIn K mainGlobals "_law_step" = some (some (.ref f26))) (l26 : K.lookup f26 = some ⟨oc26, od26, .func (PySem.W.fnOf "_law_step" "_law_step" (defArgs s_law_step) (defBody s_law_step) (defScope s_law_step) .none kV26 dc26 pm26 an26 cd26 ct26), sl26⟩) (c26 : PySem.W.codeIn K cd26 "_law_step" = true) (k26 : PySem.W.keepIn K (.ref f26) = true)
    (a27 : PySem.W.nsIn K mainGlobals "_law_lists" = some (some (.ref f27))) (l27 : K.lookup f27 = some ⟨oc27, od27, .func (PySem.W.fnOf "_law_lists" "_law_lists" (defArgs s_law_lists) (defBody s_law_lists) (defScope s_law_lists) .none kV27 dc27 pm27 an27 cd27 ct27), sl27⟩) (c27 : PySem.W.codeIn K cd27 "_law_lists" = true) (k27 : PySem.W.keepIn K (.ref f27) = true)
    (a28 : PySem.W.nsIn K mainGlobals "law" = some (some (.ref f28))) (l28 : K.lookup f28 = some ⟨oc28, od28, .func (PySem.W.fnOf "law" "law" (defArgs s_law) (defBody s_law) (defScope s_law) .none kV28 dc28 pm28 an28 cd28 ct28), sl28⟩) (c28 : PySem.W.codeIn K cd28 "law" = true) (k28 : PySem.W.keepIn K (.ref f28) = true)
    (z_abs : PySem.W.nsIn K mainGlobals "abs" = some none)
    (z_isinstance : PySem.W.nsIn K mainGlobals "isinstance" = some none)
    (z_len : PySem.W.nsIn K mainGlobals "len" = some none)
    (z_all : PySem.W.nsIn K mainGlobals "all" = some none)
    (z_int : PySem.W.nsIn K mainGlobals "int" = some none)
    (z_bool : PySem.W.nsIn K mainGlobals "bool" = some none)
    (z_tuple : PySem.W.nsIn K mainGlobals "tuple" = some none)
    (z_str : PySem.W.nsIn K mainGlobals "str" = some none)
    (z_range : PySem.W.nsIn K mainGlobals "range" = some none)
    (z_list : PySem.W.nsIn K mainGlobals "list" = some none)
    (z_sorted : PySem.W.nsIn K mainGlobals "sorted" = some none)
    (z_set : PySem.W.nsIn K mainGlobals "set" = some none)
    (z_ValueError : PySem.W.nsIn K mainGlobals "ValueError" = some none)
    (g_SMALL_LETTERS : PySem.W.nsIn K mainGlobals "SMALL_LETTERS" = some (some (.str "abcdefghijklmnopqrstuvwxyz" ct_SMALL_LETTERS)))
    (g_LONGEST_NAME : PySem.W.nsIn K mainGlobals "LONGEST_NAME" = some (some (.int 8 ct_LONGEST_NAME)))
    (x_NoTie : PySem.W.excIn K NoTie [.type "ValueError", .type "Exception", .type "BaseException", .type "object"] "ValueError.__new__" = true)
    (x_Twice : PySem.W.excIn K Twice [.type "ValueError", .type "Exception", .type "BaseException", .type "object"] "ValueError.__new__" = true)
    (x_NoName : PySem.W.excIn K NoName [.type "ValueError", .type "Exception", .type "BaseException", .type "object"] "ValueError.__new__" = true)
    (mk_Free : PySem.W.makesIn K Free = true)
    (mi_Free : PySem.W.findIn K (.ref Free) "__init__" = some (some (.ref f10)))
    (mf_Free : PySem.W.isFn K (.ref f10) = true)
    (mp_Free : PySem.W.keepIn K (.ref Free) = true)
    (me_plain_Free : PySem.W.findIn K (.ref Free) "plain" = some (some (.ref f11)))
    (mk_AtLeast : PySem.W.makesIn K AtLeast = true)
    (mi_AtLeast : PySem.W.findIn K (.ref AtLeast) "__init__" = some (some (.ref f10)))
    (mf_AtLeast : PySem.W.isFn K (.ref f10) = true)
    (mp_AtLeast : PySem.W.keepIn K (.ref AtLeast) = true)
    (me_plain_AtLeast : PySem.W.findIn K (.ref AtLeast) "plain" = some (some (.ref f11)))
    (mk_AtMost : PySem.W.makesIn K AtMost = true)
    (mi_AtMost : PySem.W.findIn K (.ref AtMost) "__init__" = some (some (.ref f10)))
    (mf_AtMost : PySem.W.isFn K (.ref f10) = true)
    (mp_AtMost : PySem.W.keepIn K (.ref AtMost) = true)
    (me_plain_AtMost : PySem.W.findIn K (.ref AtMost) "plain" = some (some (.ref f11)))
    (mk_Just : PySem.W.makesIn K Just = true)
    (mi_Just : PySem.W.findIn K (.ref Just) "__init__" = some (some (.ref f10)))
    (mf_Just : PySem.W.isFn K (.ref f10) = true)
    (mp_Just : PySem.W.keepIn K (.ref Just) = true)
    (me_plain_Just : PySem.W.findIn K (.ref Just) "plain" = some (some (.ref f11)))
    (mk_Between : PySem.W.makesIn K Between = true)
    (mi_Between : PySem.W.findIn K (.ref Between) "__init__" = some (some (.ref f10)))
    (mf_Between : PySem.W.isFn K (.ref f10) = true)
    (mp_Between : PySem.W.keepIn K (.ref Between) = true)
    (me_plain_Between : PySem.W.findIn K (.ref Between) "plain" = some (some (.ref f11)))
    (mm_plain : PySem.W.isFn K (.ref f11) = true)
    (mk_Book : PySem.W.makesIn K Book = true)
    (mi_Book : PySem.W.findIn K (.ref Book) "__init__" = some (some (.ref f19)))
    (mf_Book : PySem.W.isFn K (.ref f19) = true)
    (mp_Book : PySem.W.keepIn K (.ref Book) = true)
    (me_kept_Book : PySem.W.findIn K (.ref Book) "kept" = some (some (.ref f14)))
    (mm_kept : PySem.W.isFn K (.ref f14) = true)
    (me_ties_Book : PySem.W.findIn K (.ref Book) "ties" = some (some (.ref f15)))
    (mm_ties : PySem.W.isFn K (.ref f15) = true)
    (me_faces_Book : PySem.W.findIn K (.ref Book) "faces" = some (some (.ref f16)))
    (mm_faces : PySem.W.isFn K (.ref f16) = true)
    (me_put_Book : PySem.W.findIn K (.ref Book) "put" = some (some (.ref f17)))
    (mm_put : PySem.W.isFn K (.ref f17) = true)
    (me_drop_Book : PySem.W.findIn K (.ref Book) "drop" = some (some (.ref f18)))
    (mm_drop : PySem.W.isFn K (.ref f18) = true)
    (cl1_Free : PySem.W.plainGet K Free Str.empty = true)
    (cl2_Free : PySem.W.hasDictIn K Free = true)
    (cl3_Free : PySem.W.plainOver K Free = true)
    (cl4_Free : PySem.W.findIn K (.ref Free) "__setattr__" = some (some (.builtin "object.__setattr__")))
    (na1_Free : PySem.W.findIn K (.ref Free) "name" = some none)
    (na2_Free : PySem.W.findIn K (.ref Free) "start" = some none)
    (na3_Free : PySem.W.findIn K (.ref Free) "end" = some none)
    (na4_Free : PySem.W.findIn K (.ref Free) "least" = some none)
    (na5_Free : PySem.W.findIn K (.ref Free) "greatest" = some none)
    (cl1_AtLeast : PySem.W.plainGet K AtLeast Str.empty = true)
    (cl2_AtLeast : PySem.W.hasDictIn K AtLeast = true)
    (cl3_AtLeast : PySem.W.plainOver K AtLeast = true)
    (cl4_AtLeast : PySem.W.findIn K (.ref AtLeast) "__setattr__" = some (some (.builtin "object.__setattr__")))
    (na1_AtLeast : PySem.W.findIn K (.ref AtLeast) "name" = some none)
    (na2_AtLeast : PySem.W.findIn K (.ref AtLeast) "start" = some none)
    (na3_AtLeast : PySem.W.findIn K (.ref AtLeast) "end" = some none)
    (na4_AtLeast : PySem.W.findIn K (.ref AtLeast) "least" = some none)
    (na5_AtLeast : PySem.W.findIn K (.ref AtLeast) "greatest" = some none)
    (cl1_AtMost : PySem.W.plainGet K AtMost Str.empty = true)
    (cl2_AtMost : PySem.W.hasDictIn K AtMost = true)
    (cl3_AtMost : PySem.W.plainOver K AtMost = true)
    (cl4_AtMost : PySem.W.findIn K (.ref AtMost) "__setattr__" = some (some (.builtin "object.__setattr__")))
    (na1_AtMost : PySem.W.findIn K (.ref AtMost) "name" = some none)
    (na2_AtMost : PySem.W.findIn K (.ref AtMost) "start" = some none)
    (na3_AtMost : PySem.W.findIn K (.ref AtMost) "end" = some none)
    (na4_AtMost : PySem.W.findIn K (.ref AtMost) "least" = some none)
    (na5_AtMost : PySem.W.findIn K (.ref AtMost) "greatest" = some none)
    (cl1_Just : PySem.W.plainGet K Just Str.empty = true)
    (cl2_Just : PySem.W.hasDictIn K Just = true)
    (cl3_Just : PySem.W.plainOver K Just = true)
    (cl4_Just : PySem.W.findIn K (.ref Just) "__setattr__" = some (some (.builtin "object.__setattr__")))
    (na1_Just : PySem.W.findIn K (.ref Just) "name" = some none)
    (na2_Just : PySem.W.findIn K (.ref Just) "start" = some none)
    (na3_Just : PySem.W.findIn K (.ref Just) "end" = some none)
    (na4_Just : PySem.W.findIn K (.ref Just) "least" = some none)
    (na5_Just : PySem.W.findIn K (.ref Just) "greatest" = some none)
    (cl1_Between : PySem.W.plainGet K Between Str.empty = true)
    (cl2_Between : PySem.W.hasDictIn K Between = true)
    (cl3_Between : PySem.W.plainOver K Between = true)
    (cl4_Between : PySem.W.findIn K (.ref Between) "__setattr__" = some (some (.builtin "object.__setattr__")))
    (na1_Between : PySem.W.findIn K (.ref Between) "name" = some none)
    (na2_Between : PySem.W.findIn K (.ref Between) "start" = some none)
    (na3_Between : PySem.W.findIn K (.ref Between) "end" = some none)
    (na4_Between : PySem.W.findIn K (.ref Between) "least" = some none)
    (na5_Between : PySem.W.findIn K (.ref Between) "greatest" = some none)
    (bk1 : PySem.W.plainGet K Book Str.empty = true)
    (bk2 : PySem.W.hasDictIn K Book = true)
    (bk3 : PySem.W.plainOver K Book = true)
    (bk4 : PySem.W.findIn K (.ref Book) "__setattr__" = some (some (.builtin "object.__setattr__")))
    (bkn : PySem.W.findIn K (.ref Book) "by_name" = some none)
    (y1 : PySem.W.hasDictIn K SlackError = true)
    (y2 : PySem.W.typeIn K (.ref SlackError) = some (.type "type"))
    (y3 : PySem.W.mroIn K SlackError (.type "BaseException") = some true)
    (y4A : PySem.W.mroIn K NoTie (.ref SlackError) = some true)
    (xc1A : PySem.W.hasDictIn K NoTie = true)
    (xc2A : PySem.W.findIn K (.ref NoTie) "__getattribute__" = some (some (.builtin "BaseException.__getattribute__")))
    (xc3A : PySem.W.findIn K (.ref NoTie) "__getattr__" = some none)
    (xc4A : PySem.W.findIn K (.ref NoTie) "__class__" = some (some (.builtin "object.__class__")))
    (xc7A : PySem.W.mroIn K NoTie (.type "object") = some true)
    (xc8A : PySem.W.mroIn K NoTie (.type "BaseException") = some true)
    (kAA : PySem.W.kitOne K (.ref NoTie) (.ref NoTie) = some true)
    (kAB : PySem.W.kitOne K (.ref NoTie) (.ref NoName) = some false)
    (kAC : PySem.W.kitOne K (.ref NoTie) (.ref Twice) = some false)
    (kVA : PySem.W.kitOne K (.ref NoTie) (.type "ValueError") = some true)
    (y4B : PySem.W.mroIn K NoName (.ref SlackError) = some true)
    (xc1B : PySem.W.hasDictIn K NoName = true)
    (xc2B : PySem.W.findIn K (.ref NoName) "__getattribute__" = some (some (.builtin "BaseException.__getattribute__")))
    (xc3B : PySem.W.findIn K (.ref NoName) "__getattr__" = some none)
    (xc4B : PySem.W.findIn K (.ref NoName) "__class__" = some (some (.builtin "object.__class__")))
    (xc7B : PySem.W.mroIn K NoName (.type "object") = some true)
    (xc8B : PySem.W.mroIn K NoName (.type "BaseException") = some true)
    (kBA : PySem.W.kitOne K (.ref NoName) (.ref NoTie) = some false)
    (kBB : PySem.W.kitOne K (.ref NoName) (.ref NoName) = some true)
    (kBC : PySem.W.kitOne K (.ref NoName) (.ref Twice) = some false)
    (kVB : PySem.W.kitOne K (.ref NoName) (.type "ValueError") = some true)
    (y4C : PySem.W.mroIn K Twice (.ref SlackError) = some true)
    (xc1C : PySem.W.hasDictIn K Twice = true)
    (xc2C : PySem.W.findIn K (.ref Twice) "__getattribute__" = some (some (.builtin "BaseException.__getattribute__")))
    (xc3C : PySem.W.findIn K (.ref Twice) "__getattr__" = some none)
    (xc4C : PySem.W.findIn K (.ref Twice) "__class__" = some (some (.builtin "object.__class__")))
    (xc7C : PySem.W.mroIn K Twice (.type "object") = some true)
    (xc8C : PySem.W.mroIn K Twice (.type "BaseException") = some true)
    (kCA : PySem.W.kitOne K (.ref Twice) (.ref NoTie) = some false)
    (kCB : PySem.W.kitOne K (.ref Twice) (.ref NoName) = some false)
    (kCC : PySem.W.kitOne K (.ref Twice) (.ref Twice) = some true)
    (kVC : PySem.W.kitOne K (.ref Twice) (.type "ValueError") = some true)
    (xc5 : PySem.W.specialIn K (.builtin "object.__class__") "__get__" = some (some (.builtin "getset_descriptor.__get__")))
    (xc6 : PySem.W.takesIn K (.builtin "object.__class__") = some true)
    : ∃ fd : FuncData, (∀ (s : Shared) (v : Value), BindsTo s fd ⟨[v], []⟩ [("_law_script", v)]) ∧ ∀ base : Heap, K.In base → base.Ns mainGlobals mg → FnOk l.prog w K mg base (CX1 l.prog w) 11 fa fd ["_law_script"] (sp_law K) := by
  have e := hfa.symm.trans (PySem.W.mg_of X G a28)
  cases e
  have T : Txt K mg ⟨SlackError, NoTie, Twice, NoName, Tie, Free, AtLeast, AtMost, Just, Between, Book, (.str "abcdefghijklmnopqrstuvwxyz" ct_SMALL_LETTERS), (.int 8 ct_LONGEST_NAME)⟩ := ⟨PySem.W.mg_none_of X G z_abs, PySem.W.mg_none_of X G z_isinstance, PySem.W.mg_none_of X G z_len, PySem.W.mg_none_of X G z_all, PySem.W.mg_none_of X G z_int, PySem.W.mg_none_of X G z_bool, PySem.W.mg_none_of X G z_tuple, PySem.W.mg_none_of X G z_str, PySem.W.mg_none_of X G z_range, PySem.W.mg_none_of X G z_list, PySem.W.mg_none_of X G z_sorted, PySem.W.mg_none_of X G z_set, PySem.W.mg_none_of X G z_ValueError, PySem.W.mg_of X G g_SlackError, PySem.W.mg_of X G g_NoTie, PySem.W.mg_of X G g_Twice, PySem.W.mg_of X G g_NoName, PySem.W.mg_of X G g_Tie, PySem.W.mg_of X G g_Free, PySem.W.mg_of X G g_AtLeast, PySem.W.mg_of X G g_AtMost, PySem.W.mg_of X G g_Just, PySem.W.mg_of X G g_Between, PySem.W.mg_of X G g_Book, PySem.W.mg_of X G g_SMALL_LETTERS, ⟨_, rfl⟩, PySem.W.mg_of X G g_LONGEST_NAME, ⟨_, rfl⟩, x_NoTie, x_Twice, x_NoName, cl1_Free, cl2_Free, cl3_Free, cl4_Free, na1_Free, na2_Free, na3_Free, na4_Free, na5_Free, cl1_AtLeast, cl2_AtLeast, cl3_AtLeast, cl4_AtLeast, na1_AtLeast, na2_AtLeast, na3_AtLeast, na4_AtLeast, na5_AtLeast, cl1_AtMost, cl2_AtMost, cl3_AtMost, cl4_AtMost, na1_AtMost, na2_AtMost, na3_AtMost, na4_AtMost, na5_AtMost, cl1_Just, cl2_Just, cl3_Just, cl4_Just, na1_Just, na2_Just, na3_Just, na4_Just, na5_Just, cl1_Between, cl2_Between, cl3_Between, cl4_Between, na1_Between, na2_Between, na3_Between, na4_Between, na5_Between, bk1, bk2, bk3, bk4, bkn, y1, y2, y3, y4A, xc1A, xc2A, xc3A, xc4A, xc7A, xc8A, kAA, kAB, kAC, kVA, y4B, xc1B, xc2B, xc3B, xc4B, xc7B, xc8B, kBA, kBB, kBC, kVB, y4C, xc1C, xc2C, xc3C, xc4C, xc7C, xc8C, kCA, kCB, kCC, kVC, xc5, xc6, (fun C hC => by rcases hC with rfl | rfl | rfl | rfl | rfl <;> first | exact ⟨⟨cl1_Free, cl2_Free, cl3_Free, cl4_Free⟩, na1_Free, na2_Free, na3_Free, na4_Free, na5_Free⟩ | exact ⟨⟨cl1_AtLeast, cl2_AtLeast, cl3_AtLeast, cl4_AtLeast⟩, na1_AtLeast, na2_AtLeast, na3_AtLeast, na4_AtLeast, na5_AtLeast⟩ | exact ⟨⟨cl1_AtMost, cl2_AtMost, cl3_AtMost, cl4_AtMost⟩, na1_AtMost, na2_AtMost, na3_AtMost, na4_AtMost, na5_AtMost⟩ | exact ⟨⟨cl1_Just, cl2_Just, cl3_Just, cl4_Just⟩, na1_Just, na2_Just, na3_Just, na4_Just, na5_Just⟩ | exact ⟨⟨cl1_Between, cl2_Between, cl3_Between, cl4_Between⟩, na1_Between, na2_Between, na3_Between, na4_Between, na5_Between⟩), (fun C hC => by cases hC; exact ⟨⟨bk1, bk2, bk3, bk4⟩, bkn⟩)⟩
  have F1 := funD_mk (st := s_common_divisor) l1 c1 k1
  have b1 := F1.binds (ps := ["one", "other"]) fun _ _ _ _ _ _ us hl => match us, hl with | [_, _], _ => rfl
  have F2 := funD_mk (st := s_under) l2 c2 k2
  have b2 := F2.binds (ps := ["one", "other"]) fun _ _ _ _ _ _ us hl => match us, hl with | [_, _], _ => rfl
  have F3 := funD_mk (st := s_is_name) l3 c3 k3
  have b3 := F3.binds (ps := ["thing"]) fun _ _ _ _ _ _ us hl => match us, hl with | [_], _ => rfl
  have F4 := funD_mk (st := s_is_whole) l4 c4 k4
  have b4 := F4.binds (ps := ["thing"]) fun _ _ _ _ _ _ us hl => match us, hl with | [_], _ => rfl
  have F5 := funD_mk (st := s_is_fraction) l5 c5 k5
  have b5 := F5.binds (ps := ["thing"]) fun _ _ _ _ _ _ us hl => match us, hl with | [_], _ => rfl
  have F6 := funD_mk (st := s_is_bound) l6 c6 k6
  have b6 := F6.binds (ps := ["thing"]) fun _ _ _ _ _ _ us hl => match us, hl with | [_], _ => rfl
  have F7 := funD_mk (st := s_are_faces) l7 c7 k7
  have b7 := F7.binds (ps := ["one", "other"]) fun _ _ _ _ _ _ us hl => match us, hl with | [_, _], _ => rfl
  have F8 := funD_mk (st := s_are_bounds) l8 c8 k8
  have b8 := F8.binds (ps := ["least", "greatest"]) fun _ _ _ _ _ _ us hl => match us, hl with | [_, _], _ => rfl
  have F9 := funD_mk (st := s_is_tie) l9 c9 k9
  have b9 := F9.binds (ps := ["thing"]) fun _ _ _ _ _ _ us hl => match us, hl with | [_], _ => rfl
  have F10 := funD_mk (st := s_Tieuu_inituu) l10 c10 k10
  have b10 := F10.binds (ps := ["self", "row"]) fun _ _ _ _ _ _ us hl => match us, hl with | [_, _], _ => rfl
  have F11 := funD_mk (st := s_Tie_plain) l11 c11 k11
  have b11 := F11.binds (ps := ["self"]) fun _ _ _ _ _ _ us hl => match us, hl with | [_], _ => rfl
  have F12 := funD_mk (st := s_tie_of) l12 c12 k12
  have b12 := F12.binds (ps := ["thing"]) fun _ _ _ _ _ _ us hl => match us, hl with | [_], _ => rfl
  have F13 := funD_mk (st := s_faces_of) l13 c13 k13
  have b13 := F13.binds (ps := ["ties"]) fun _ _ _ _ _ _ us hl => match us, hl with | [_], _ => rfl
  have F14 := funD_mk (st := s_Book_kept) l14 c14 k14
  have b14 := F14.binds (ps := ["self"]) fun _ _ _ _ _ _ us hl => match us, hl with | [_], _ => rfl
  have F15 := funD_mk (st := s_Book_ties) l15 c15 k15
  have b15 := F15.binds (ps := ["self"]) fun _ _ _ _ _ _ us hl => match us, hl with | [_], _ => rfl
  have F16 := funD_mk (st := s_Book_faces) l16 c16 k16
  have b16 := F16.binds (ps := ["self"]) fun _ _ _ _ _ _ us hl => match us, hl with | [_], _ => rfl
  have F17 := funD_mk (st := s_Book_put) l17 c17 k17
  have b17 := F17.binds (ps := ["self", "tie"]) fun _ _ _ _ _ _ us hl => match us, hl with | [_, _], _ => rfl
  have F18 := funD_mk (st := s_Book_drop) l18 c18 k18
  have b18 := F18.binds (ps := ["self", "name"]) fun _ _ _ _ _ _ us hl => match us, hl with | [_, _], _ => rfl
  have F19 := funD_mk (st := s_Bookuu_inituu) l19 c19 k19
  have b19 := F19.binds (ps := ["self", "ties"]) fun _ _ _ _ _ _ us hl => match us, hl with | [_, _], _ => rfl
  have F20 := funD_mk (st := s_law_name) l20 c20 k20
  have b20 := F20.binds (ps := ["_law_cell"]) fun _ _ _ _ _ _ us hl => match us, hl with | [_], _ => rfl
  have F21 := funD_mk (st := s_law_tie) l21 c21 k21
  have b21 := F21.binds (ps := ["_law_cell", "_law_name_here"]) fun _ _ _ _ _ _ us hl => match us, hl with | [_, _], _ => rfl
  have F22 := funD_mk (st := s_law_bad) l22 c22 k22
  have b22 := F22.binds (ps := ["_law_tie_here", "_law_cell"]) fun _ _ _ _ _ _ us hl => match us, hl with | [_, _], _ => rfl
  have F23 := funD_mk (st := s_law_refused) l23 c23 k23
  have b23 := F23.binds (ps := ["_law_book", "_law_way", "_law_thing"]) fun _ _ _ _ _ _ us hl => match us, hl with | [_, _, _], _ => rfl
  have F24 := funD_mk (st := s_law_faces) l24 c24 k24
  have b24 := F24.binds (ps := ["_law_rows"]) fun _ _ _ _ _ _ us hl => match us, hl with | [_], _ => rfl
  have F25 := funD_mk (st := s_law_seen) l25 c25 k25
  have b25 := F25.binds (ps := ["_law_book", "_law_rows"]) fun _ _ _ _ _ _ us hl => match us, hl with | [_, _], _ => rfl
  have F26 := funD_mk (st := s_law_step) l26 c26 k26
  have b26 := F26.binds (ps := ["_law_book", "_law_rows", "_law_cell"]) fun _ _ _ _ _ _ us hl => match us, hl with | [_, _, _], _ => rfl
  have F27 := funD_mk (st := s_law_lists) l27 c27 k27
  have b27 := F27.binds (ps := ["_law_rows", "_law_cell"]) fun _ _ _ _ _ _ us hl => match us, hl with | [_, _], _ => rfl
  have F28 := funD_mk (st := s_law) l28 c28 k28
  have b28 := F28.binds (ps := ["_law_script"]) fun _ _ _ _ _ _ us hl => match us, hl with | [_], _ => rfl
  refine ⟨PySem.W.fnOf "law" "law" (defArgs s_law) (defBody s_law) (defScope s_law) .none kV28 dc28 pm28 an28 cd28 ct28, fun s v => .of_eq rfl, fun base _ _ => ?_⟩
  have K1 := ok_common_divisor (P := l.prog) (w := w) (base := base) F1 T 
  have c_common_divisor : Cal l.prog w K mg base 1 "common_divisor" ["one", "other"] [] (sp_common_divisor) := ⟨f1, _, [], K1, PySem.W.mg_of X G a1, k1, b1, .nil⟩
  have K2 := ok_under (P := l.prog) (w := w) (base := base) F2 T 
  have c_under : Cal l.prog w K mg base 1 "under" ["one", "other"] [] (sp_under K) := ⟨f2, _, [], K2, PySem.W.mg_of X G a2, k2, b2, .nil⟩
  have K3 := ok_is_name (P := l.prog) (w := w) (base := base) F3 T 
  have c_is_name : Cal l.prog w K mg base 1 "is_name" ["thing"] [] (sp_is_name K) := ⟨f3, _, [], K3, PySem.W.mg_of X G a3, k3, b3, .nil⟩
  have K4 := ok_is_whole (P := l.prog) (w := w) (base := base) F4 T 
  have c_is_whole : Cal l.prog w K mg base 1 "is_whole" ["thing"] [] (sp_is_whole K) := ⟨f4, _, [], K4, PySem.W.mg_of X G a4, k4, b4, .nil⟩
  have K5 := ok_is_fraction (P := l.prog) (w := w) (base := base) F5 T c_is_whole c_common_divisor
  have c_is_fraction : Cal l.prog w K mg base 2 "is_fraction" ["thing"] [] (sp_is_fraction K) := ⟨f5, _, [], K5, PySem.W.mg_of X G a5, k5, b5, .nil⟩
  have K6 := ok_is_bound (P := l.prog) (w := w) (base := base) F6 T c_is_fraction
  have c_is_bound : Cal l.prog w K mg base 3 "is_bound" ["thing"] [] (sp_is_bound K) := ⟨f6, _, [], K6, PySem.W.mg_of X G a6, k6, b6, .nil⟩
  have K7 := ok_are_faces (P := l.prog) (w := w) (base := base) F7 T c_is_name
  have c_are_faces : Cal l.prog w K mg base 2 "are_faces" ["one", "other"] [] (sp_are_faces K) := ⟨f7, _, [], K7, PySem.W.mg_of X G a7, k7, b7, .nil⟩
  have K8 := ok_are_bounds (P := l.prog) (w := w) (base := base) F8 T c_is_bound c_under
  have c_are_bounds : Cal l.prog w K mg base 4 "are_bounds" ["least", "greatest"] [] (sp_are_bounds K) := ⟨f8, _, [], K8, PySem.W.mg_of X G a8, k8, b8, .nil⟩
  have K9 := ok_is_tie (P := l.prog) (w := w) (base := base) F9 T c_is_name c_are_faces c_are_bounds
  have c_is_tie : Cal l.prog w K mg base 5 "is_tie" ["thing"] [] (sp_is_tie K) := ⟨f9, _, [], K9, PySem.W.mg_of X G a9, k9, b9, .nil⟩
  have K10 := ok_Tieuu_inituu (P := l.prog) (w := w) (base := base) F10 T 
  have k_Free : KCal l.prog w K mg base 1 "Free" Free ["self", "row"] (sp_Tieuu_inituu K) := ⟨f10, _, K10, PySem.W.mg_of X G g_Free, ⟨mk_Free, mi_Free, mf_Free, mp_Free⟩, b10⟩
  have k_AtLeast : KCal l.prog w K mg base 1 "AtLeast" AtLeast ["self", "row"] (sp_Tieuu_inituu K) := ⟨f10, _, K10, PySem.W.mg_of X G g_AtLeast, ⟨mk_AtLeast, mi_AtLeast, mf_AtLeast, mp_AtLeast⟩, b10⟩
  have k_AtMost : KCal l.prog w K mg base 1 "AtMost" AtMost ["self", "row"] (sp_Tieuu_inituu K) := ⟨f10, _, K10, PySem.W.mg_of X G g_AtMost, ⟨mk_AtMost, mi_AtMost, mf_AtMost, mp_AtMost⟩, b10⟩
  have k_Just : KCal l.prog w K mg base 1 "Just" Just ["self", "row"] (sp_Tieuu_inituu K) := ⟨f10, _, K10, PySem.W.mg_of X G g_Just, ⟨mk_Just, mi_Just, mf_Just, mp_Just⟩, b10⟩
  have k_Between : KCal l.prog w K mg base 1 "Between" Between ["self", "row"] (sp_Tieuu_inituu K) := ⟨f10, _, K10, PySem.W.mg_of X G g_Between, ⟨mk_Between, mi_Between, mf_Between, mp_Between⟩, b10⟩
  have K11 := ok_Tie_plain (P := l.prog) (w := w) (base := base) F11 T 
  have m_plain : MCal l.prog w K mg base 1 "plain" (IsTie ⟨SlackError, NoTie, Twice, NoName, Tie, Free, AtLeast, AtMost, Just, Between, Book, (.str "abcdefghijklmnopqrstuvwxyz" ct_SMALL_LETTERS), (.int 8 ct_LONGEST_NAME)⟩) ["self"] (sp_Tie_plain K ⟨SlackError, NoTie, Twice, NoName, Tie, Free, AtLeast, AtMost, Just, Between, Book, (.str "abcdefghijklmnopqrstuvwxyz" ct_SMALL_LETTERS), (.int 8 ct_LONGEST_NAME)⟩) := ⟨f11, _, K11, fun C hC => ⟨(T.tie C hC).cls, (by rcases hC with rfl | rfl | rfl | rfl | rfl <;> first | exact ⟨me_plain_Free, mm_plain, k11⟩ | exact ⟨me_plain_AtLeast, mm_plain, k11⟩ | exact ⟨me_plain_AtMost, mm_plain, k11⟩ | exact ⟨me_plain_Just, mm_plain, k11⟩ | exact ⟨me_plain_Between, mm_plain, k11⟩)⟩, k11, b11⟩
  have K12 := ok_tie_of (P := l.prog) (w := w) (base := base) F12 T c_is_tie k_Free k_AtLeast k_AtMost k_Just k_Between
  have c_tie_of : Cal l.prog w K mg base 6 "tie_of" ["thing"] [] (sp_tie_of K ⟨SlackError, NoTie, Twice, NoName, Tie, Free, AtLeast, AtMost, Just, Between, Book, (.str "abcdefghijklmnopqrstuvwxyz" ct_SMALL_LETTERS), (.int 8 ct_LONGEST_NAME)⟩) := ⟨f12, _, [], K12, PySem.W.mg_of X G a12, k12, b12, .nil⟩
  have K13 := ok_faces_of (P := l.prog) (w := w) (base := base) F13 T 
  have c_faces_of : Cal l.prog w K mg base 1 "faces_of" ["ties"] [] (sp_faces_of K ⟨SlackError, NoTie, Twice, NoName, Tie, Free, AtLeast, AtMost, Just, Between, Book, (.str "abcdefghijklmnopqrstuvwxyz" ct_SMALL_LETTERS), (.int 8 ct_LONGEST_NAME)⟩) := ⟨f13, _, [], K13, PySem.W.mg_of X G a13, k13, b13, .nil⟩
  have K14 := ok_Book_kept (P := l.prog) (w := w) (base := base) F14 T 
  have m_kept : MCal l.prog w K mg base 1 "kept" (IsBook ⟨SlackError, NoTie, Twice, NoName, Tie, Free, AtLeast, AtMost, Just, Between, Book, (.str "abcdefghijklmnopqrstuvwxyz" ct_SMALL_LETTERS), (.int 8 ct_LONGEST_NAME)⟩) ["self"] (sp_Book_kept K ⟨SlackError, NoTie, Twice, NoName, Tie, Free, AtLeast, AtMost, Just, Between, Book, (.str "abcdefghijklmnopqrstuvwxyz" ct_SMALL_LETTERS), (.int 8 ct_LONGEST_NAME)⟩) := ⟨f14, _, K14, fun C hC => ⟨(T.book C hC).cls, (by cases hC; exact ⟨me_kept_Book, mm_kept, k14⟩)⟩, k14, b14⟩
  have K15 := ok_Book_ties (P := l.prog) (w := w) (base := base) F15 T m_kept m_plain
  have m_ties : MCal l.prog w K mg base 2 "ties" (IsBook ⟨SlackError, NoTie, Twice, NoName, Tie, Free, AtLeast, AtMost, Just, Between, Book, (.str "abcdefghijklmnopqrstuvwxyz" ct_SMALL_LETTERS), (.int 8 ct_LONGEST_NAME)⟩) ["self"] (sp_Book_ties K ⟨SlackError, NoTie, Twice, NoName, Tie, Free, AtLeast, AtMost, Just, Between, Book, (.str "abcdefghijklmnopqrstuvwxyz" ct_SMALL_LETTERS), (.int 8 ct_LONGEST_NAME)⟩) := ⟨f15, _, K15, fun C hC => ⟨(T.book C hC).cls, (by cases hC; exact ⟨me_ties_Book, mm_ties, k15⟩)⟩, k15, b15⟩
  have K16 := ok_Book_faces (P := l.prog) (w := w) (base := base) F16 T m_kept c_faces_of
  have m_faces : MCal l.prog w K mg base 2 "faces" (IsBook ⟨SlackError, NoTie, Twice, NoName, Tie, Free, AtLeast, AtMost, Just, Between, Book, (.str "abcdefghijklmnopqrstuvwxyz" ct_SMALL_LETTERS), (.int 8 ct_LONGEST_NAME)⟩) ["self"] (sp_Book_faces K ⟨SlackError, NoTie, Twice, NoName, Tie, Free, AtLeast, AtMost, Just, Between, Book, (.str "abcdefghijklmnopqrstuvwxyz" ct_SMALL_LETTERS), (.int 8 ct_LONGEST_NAME)⟩) := ⟨f16, _, K16, fun C hC => ⟨(T.book C hC).cls, (by cases hC; exact ⟨me_faces_Book, mm_faces, k16⟩)⟩, k16, b16⟩
  have K17 := ok_Book_put (P := l.prog) (w := w) (base := base) F17 T c_tie_of
  have m_put : MCal l.prog w K mg base 7 "put" (IsBook ⟨SlackError, NoTie, Twice, NoName, Tie, Free, AtLeast, AtMost, Just, Between, Book, (.str "abcdefghijklmnopqrstuvwxyz" ct_SMALL_LETTERS), (.int 8 ct_LONGEST_NAME)⟩) ["self", "tie"] (sp_Book_put K ⟨SlackError, NoTie, Twice, NoName, Tie, Free, AtLeast, AtMost, Just, Between, Book, (.str "abcdefghijklmnopqrstuvwxyz" ct_SMALL_LETTERS), (.int 8 ct_LONGEST_NAME)⟩) := ⟨f17, _, K17, fun C hC => ⟨(T.book C hC).cls, (by cases hC; exact ⟨me_put_Book, mm_put, k17⟩)⟩, k17, b17⟩
  have K18 := ok_Book_drop (P := l.prog) (w := w) (base := base) F18 T 
  have m_drop : MCal l.prog w K mg base 1 "drop" (IsBook ⟨SlackError, NoTie, Twice, NoName, Tie, Free, AtLeast, AtMost, Just, Between, Book, (.str "abcdefghijklmnopqrstuvwxyz" ct_SMALL_LETTERS), (.int 8 ct_LONGEST_NAME)⟩) ["self", "name"] (sp_Book_drop K ⟨SlackError, NoTie, Twice, NoName, Tie, Free, AtLeast, AtMost, Just, Between, Book, (.str "abcdefghijklmnopqrstuvwxyz" ct_SMALL_LETTERS), (.int 8 ct_LONGEST_NAME)⟩) := ⟨f18, _, K18, fun C hC => ⟨(T.book C hC).cls, (by cases hC; exact ⟨me_drop_Book, mm_drop, k18⟩)⟩, k18, b18⟩
  have K19 := ok_Bookuu_inituu (P := l.prog) (w := w) (base := base) F19 T c_tie_of
  have k_Book : KCal l.prog w K mg base 7 "Book" Book ["self", "ties"] (sp_Bookuu_inituu K ⟨SlackError, NoTie, Twice, NoName, Tie, Free, AtLeast, AtMost, Just, Between, Book, (.str "abcdefghijklmnopqrstuvwxyz" ct_SMALL_LETTERS), (.int 8 ct_LONGEST_NAME)⟩) := ⟨f19, _, K19, PySem.W.mg_of X G g_Book, ⟨mk_Book, mi_Book, mf_Book, mp_Book⟩, b19⟩
  have K20 := ok_law_name (P := l.prog) (w := w) (base := base) F20 T 
  have c_law_name : Cal l.prog w K mg base 1 "_law_name" ["_law_cell"] [] (sp_law_name K) := ⟨f20, _, [], K20, PySem.W.mg_of X G a20, k20, b20, .nil⟩
  have K21 := ok_law_tie (P := l.prog) (w := w) (base := base) F21 T 
  have c_law_tie : Cal l.prog w K mg base 1 "_law_tie" ["_law_cell", "_law_name_here"] [] (sp_law_tie K) := ⟨f21, _, [], K21, PySem.W.mg_of X G a21, k21, b21, .nil⟩
  have K22 := ok_law_bad (P := l.prog) (w := w) (base := base) F22 T 
  have c_law_bad : Cal l.prog w K mg base 1 "_law_bad" ["_law_tie_here", "_law_cell"] [] (sp_law_bad K) := ⟨f22, _, [], K22, PySem.W.mg_of X G a22, k22, b22, .nil⟩
  have K23 := ok_law_refused (P := l.prog) (w := w) (base := base) F23 T m_put m_drop k_Book
  have c_law_refused : Cal l.prog w K mg base 9 "_law_refused" ["_law_book", "_law_way", "_law_thing"] [] (sp_law_refused K ⟨SlackError, NoTie, Twice, NoName, Tie, Free, AtLeast, AtMost, Just, Between, Book, (.str "abcdefghijklmnopqrstuvwxyz" ct_SMALL_LETTERS), (.int 8 ct_LONGEST_NAME)⟩) := ⟨f23, _, [], K23, PySem.W.mg_of X G a23, k23, b23, .nil⟩
  have K24 := ok_law_faces (P := l.prog) (w := w) (base := base) F24 T 
  have c_law_faces : Cal l.prog w K mg base 1 "_law_faces" ["_law_rows"] [] (sp_law_faces K) := ⟨f24, _, [], K24, PySem.W.mg_of X G a24, k24, b24, .nil⟩
  have K25 := ok_law_seen (P := l.prog) (w := w) (base := base) F25 T m_ties m_faces c_law_faces
  have c_law_seen : Cal l.prog w K mg base 3 "_law_seen" ["_law_book", "_law_rows"] [] (sp_law_seen K ⟨SlackError, NoTie, Twice, NoName, Tie, Free, AtLeast, AtMost, Just, Between, Book, (.str "abcdefghijklmnopqrstuvwxyz" ct_SMALL_LETTERS), (.int 8 ct_LONGEST_NAME)⟩) := ⟨f25, _, [], K25, PySem.W.mg_of X G a25, k25, b25, .nil⟩
  have K26 := ok_law_step (P := l.prog) (w := w) (base := base) F26 T c_law_name c_law_tie c_law_refused c_law_bad m_drop m_put
  have c_law_step : Cal l.prog w K mg base 10 "_law_step" ["_law_book", "_law_rows", "_law_cell"] [] (sp_law_step K ⟨SlackError, NoTie, Twice, NoName, Tie, Free, AtLeast, AtMost, Just, Between, Book, (.str "abcdefghijklmnopqrstuvwxyz" ct_SMALL_LETTERS), (.int 8 ct_LONGEST_NAME)⟩) := ⟨f26, _, [], K26, PySem.W.mg_of X G a26, k26, b26, .nil⟩
  have K27 := ok_law_lists (P := l.prog) (w := w) (base := base) F27 T c_law_refused c_law_bad
  have c_law_lists : Cal l.prog w K mg base 10 "_law_lists" ["_law_rows", "_law_cell"] [] (sp_law_lists K ⟨SlackError, NoTie, Twice, NoName, Tie, Free, AtLeast, AtMost, Just, Between, Book, (.str "abcdefghijklmnopqrstuvwxyz" ct_SMALL_LETTERS), (.int 8 ct_LONGEST_NAME)⟩) := ⟨f27, _, [], K27, PySem.W.mg_of X G a27, k27, b27, .nil⟩
  exact ok_law F28 T c_law_tie c_law_name k_Book c_law_step c_law_seen c_law_lists
theorem walk {l : PySem.W.OpenLaw} {q : Program} {loose : List Str} {XP : (Str → Option Value) → Heap → Prop} {YP : World → Heap → Prop} {d : DefRec} {K : Params → PySem.W.Frag} (hn : l.most = some 63) (hdf : d.params.defaults = [])
    (hY : ∀ (w : World) (h : Heap), YP w h → (K w.params).In h)
    (F : ∀ (w : World) (mg : Str → Option Value) (fa : Addr) (h : Heap), (K w.params).In h → h.Ns mainGlobals mg → mg d.name = some (.ref fa) →
      ∃ fd : FuncData, (∀ (s : Shared) (u : Value), BindsTo s fd ⟨[u], []⟩ [("_law_script", u)]) ∧ ∀ base : Heap, (K w.params).In base → base.Ns mainGlobals mg → FnOk l.prog w (K w.params) mg base (CX1 l.prog w) 11 fa fd ["_law_script"] (sp_law (K w.params))) :
    PySem.W.WalkO q loose XP YP l.row.toRowW d [] (fun f vs => PySem.call f vs) :=
  L2.walk_of (n := 63) (k := 11) (x := "_law_script") (CX := fun w => CX1 l.prog w) (sp := fun w => sp_law (K w.params)) hn (by decide) hdf ⟨rfl, by decide, by decide⟩ hY F (fun _ _ a ns hl _ hS => ⟨a, ns, rfl, hS, hl, fun _ => rfl⟩) fun _ _ _ _ _ z => by
    obtain ⟨_, _, _, _, _, _, _, _, _, _, _, z⟩ := z
    exact z
end Prg
open PySem PySem.W PyProof.Rows
def PySem.W.Fast.tw6321581928274235761 : Nat := 0
def PySem.W.Fast.tw15184847609102460483 : Nat := 0
def PySem.W.Fast.tw15632277962722920994 : Nat := 0
def PySem.W.Fast.tw523506188271077406 : Nat := 0
def PySem.W.Fast.tw7391272329991943913 : Nat := 0
def PySem.W.Fast.tw13783103201858565736 : Nat := 0
def PySem.W.Fast.tw16467349765192594587 : Nat := 0
def PySem.W.Fast.tw1914838028840568570 : Nat := 0
def PySem.W.Fast.tw6621722377134771290 : Nat := 0
def PySem.W.Fast.tw2105025877787057985 : Nat := 0
def PySem.W.Fast.tw14155073496186319233 : Nat := 0
def PySem.W.Fast.tw11156424622002225554 : Nat := 0
def PySem.W.Fast.tw14712059557596786802 : Nat := 0
def PySem.W.Fast.tw10970522907936554205 : Nat := 0
def PySem.W.Fast.tw5003636898485321176 : Nat := 0
def PySem.W.Fast.tw10996113323477132459 : Nat := 0
def PySem.W.Fast.tw12237959826304925355 : Nat := 0
def PySem.W.Fast.tw15721616207762988326 : Nat := 0
set_option maxRecDepth 100000 in
set_option maxHeartbeats 0 in
theorem PySem.Challenge.cw_slackchain_k31_books_changed_holds : PySem.Challenge.rw_slackchain_k31_books_changed.Holds := by
  w_on; o_law; k_head; (case hw => w_witness2)
  k_fill
  refine Prg.walk (l := PySem.Challenge.rw_slackchain_k31_books_changed) rfl rfl (fun w h Y => PySem.W.kIn_of Y) ?F
  case F =>
    intro w mg fa h KX G hmg
    refine' Prg.all_mk KX G hmg ?g_SlackError ?g_NoTie ?g_Twice ?g_NoName ?g_Tie ?g_Free ?g_AtLeast ?g_AtMost ?g_Just ?g_Between ?g_Book ?a1 ?l1 ?c1 ?k1 ?a2 ?l2 ?c2 ?k2 ?a3 ?l3 ?c3 ?k3 ?a4 ?l4 ?c4 ?k4 ?a5 ?l5 ?c5 ?k5 ?a6 ?l6 ?c6 ?k6 ?a7 ?l7 ?c7 ?k7 ?a8 ?l8 ?c8 ?k8 ?a9 ?l9 ?c9 ?k9 ?a10 ?l10 ?c10 ?k10 ?a11 ?l11 ?c11 ?k11 ?a12 ?l12 ?c12 ?k12 ?a13 ?l13 ?c13 ?k13 ?a14 ?l14 ?c14 ?k14 ?a15 ?l15 ?c15 ?k15 ?a16 ?l16 ?c16 ?k16 ?a17 ?l17 ?c17 ?k17 ?a18 ?l18 ?c18 ?k18 ?a19 ?l19 ?c19 ?k19 ?a20 ?l20 ?c20 ?k20 ?a21 ?l21 ?c21 ?k21 ?a22 ?l22 ?c22 ?k22 ?a23 ?l23 ?c23 ?k23 ?a24 ?l24 ?c24 ?k24 ?a25 ?l25 ?c25 ?k25 ?a26 ?l26 ?c26 ?k26 ?a27 ?l27 ?c27 ?k27 ?a28 ?l28 ?c28 ?k28 ?z_abs ?z_isinstance ?z_len ?z_all ?z_int ?z_bool ?z_tuple ?z_str ?z_range ?z_list ?z_sorted ?z_set ?z_ValueError ?g_SMALL_LETTERS ?g_LONGEST_NAME ?x_NoTie ?x_Twice ?x_NoName ?mk_Free ?mi_Free ?mf_Free ?mp_Free ?me_plain_Free ?mk_AtLeast ?mi_AtLeast ?mf_AtLeast ?mp_AtLeast ?me_plain_AtLeast ?mk_AtMost ?mi_AtMost ?mf_AtMost ?mp_AtMost ?me_plain_AtMost ?mk_Just ?mi_Just ?mf_Just ?mp_Just ?me_plain_Just ?mk_Between ?mi_Between ?mf_Between ?mp_Between ?me_plain_Between ?mm_plain ?mk_Book ?mi_Book ?mf_Book ?mp_Book ?me_kept_Book ?mm_kept ?me_ties_Book ?mm_ties ?me_faces_Book ?mm_faces ?me_put_Book ?mm_put ?me_drop_Book ?mm_drop ?cl1_Free ?cl2_Free ?cl3_Free ?cl4_Free ?na1_Free ?na2_Free ?na3_Free ?na4_Free ?na5_Free ?cl1_AtLeast ?cl2_AtLeast ?cl3_AtLeast ?cl4_AtLeast ?na1_AtLeast ?na2_AtLeast ?na3_AtLeast ?na4_AtLeast ?na5_AtLeast ?cl1_AtMost ?cl2_AtMost ?cl3_AtMost ?cl4_AtMost ?na1_AtMost ?na2_AtMost ?na3_AtMost ?na4_AtMost ?na5_AtMost ?cl1_Just ?cl2_Just ?cl3_Just ?cl4_Just ?na1_Just ?na2_Just ?na3_Just ?na4_Just ?na5_Just ?cl1_Between ?cl2_Between ?cl3_Between ?cl4_Between ?na1_Between ?na2_Between ?na3_Between ?na4_Between ?na5_Between ?bk1 ?bk2 ?bk3 ?bk4 ?bkn ?y1 ?y2 ?y3 ?y4A ?xc1A ?xc2A ?xc3A ?xc4A ?xc7A ?xc8A ?kAA ?kAB ?kAC ?kVA ?y4B ?xc1B ?xc2B ?xc3B ?xc4B ?xc7B ?xc8B ?kBA ?kBB ?kBC ?kVB ?y4C ?xc1C ?xc2C ?xc3C ?xc4C ?xc7C ?xc8C ?kCA ?kCB ?kCC ?kVC ?xc5 ?xc6
    (case g_SlackError => k_is)
    (case g_NoTie => k_is)
    (case g_Twice => k_is)
    (case g_NoName => k_is)
    (case g_Tie => k_is)
    (case g_Free => k_is)
    (case g_AtLeast => k_is)
    (case g_AtMost => k_is)
    (case g_Just => k_is)
    (case g_Between => k_is)
    (case g_Book => k_is)
    (case a1 => k_is)
    (case l1 => k_is)
    (case c1 => k_is)
    (case k1 => k_is)
    (case a2 => k_is)
    (case l2 => k_is)
    (case c2 => k_is)
    (case k2 => k_is)
    (case a3 => k_is)
    (case l3 => k_is)
    (case c3 => k_is)
    (case k3 => k_is)
    (case a4 => k_is)
    (case l4 => k_is)
    (case c4 => k_is)
    (case k4 => k_is)
    (case a5 => k_is)
    (case l5 => k_is)
    (case c5 => k_is)
    (case k5 => k_is)
    (case a6 => k_is)
    (case l6 => k_is)
    (case c6 => k_is)
    (case k6 => k_is)
    (case a7 => k_is)
    (case l7 => k_is)
    (case c7 => k_is)
    (case k7 => k_is)
    (case a8 => k_is)
    (case l8 => k_is)
    (case c8 => k_is)
    (case k8 => k_is)
    (case a9 => k_is)
    (case l9 => k_is)
    (case c9 => k_is)
    (case k9 => k_is)
    (case a10 => k_is)
    (case l10 => k_is)
    (case c10 => k_is)
    (case k10 => k_is)
    (case a11 => k_is)
    (case l11 => k_is)
    (case c11 => k_is)
    (case k11 => k_is)
    (case a12 => k_is)
    (case l12 => k_is)
    (case c12 => k_is)
    (case k12 => k_is)
    (case a13 => k_is)
    (case l13 => k_is)
    (case c13 => k_is)
    (case k13 => k_is)
    (case a14 => k_is)
    (case l14 => k_is)
    (case c14 => k_is)
    (case k14 => k_is)
    (case a15 => k_is)
    (case l15 => k_is)
    (case c15 => k_is)
    (case k15 => k_is)
    (case a16 => k_is)
    (case l16 => k_is)
    (case c16 => k_is)
    (case k16 => k_is)
    (case a17 => k_is)
    (case l17 => k_is)
    (case c17 => k_is)
    (case k17 => k_is)
    (case a18 => k_is)
    (case l18 => k_is)
    (case c18 => k_is)
    (case k18 => k_is)
    (case a19 => k_is)
    (case l19 => k_is)
    (case c19 => k_is)
    (case k19 => k_is)
    (case a20 => k_is)
    (case l20 => k_is)
    (case c20 => k_is)
    (case k20 => k_is)
    (case a21 => k_is)
    (case l21 => k_is)
    (case c21 => k_is)
    (case k21 => k_is)
    (case a22 => k_is)
    (case l22 => k_is)
    (case c22 => k_is)
    (case k22 => k_is)
    (case a23 => k_is)
    (case l23 => k_is)
    (case c23 => k_is)
    (case k23 => k_is)
    (case a24 => k_is)
    (case l24 => k_is)
    (case c24 => k_is)
    (case k24 => k_is)
    (case a25 => k_is)
    (case l25 => k_is)
    (case c25 => k_is)
    (case k25 => k_is)
    (case a26 => k_is)
    (case l26 => k_is)
    (case c26 => k_is)
    (case k26 => k_is)
    (case a27 => k_is)
    (case l27 => k_is)
    (case c27 => k_is)
    (case k27 => k_is)
    (case a28 => k_is)
    (case l28 => k_is)
    (case c28 => k_is)
    (case k28 => k_is)
    (case z_abs => k_is)
    (case z_isinstance => k_is)
    (case z_len => k_is)
    (case z_all => k_is)
    (case z_int => k_is)
    (case z_bool => k_is)
    (case z_tuple => k_is)
    (case z_str => k_is)
    (case z_range => k_is)
    (case z_list => k_is)
    (case z_sorted => k_is)
    (case z_set => k_is)
    (case z_ValueError => k_is)
    (case g_SMALL_LETTERS => k_is)
    (case g_LONGEST_NAME => k_is)
    (case x_NoTie => k_exc)
    (case x_Twice => k_exc)
    (case x_NoName => k_exc)
    (case mk_Free => k_is)
    (case mi_Free => k_is)
    (case mf_Free => k_is)
    (case mp_Free => k_is)
    (case me_plain_Free => k_is)
    (case mk_AtLeast => k_is)
    (case mi_AtLeast => k_is)
    (case mf_AtLeast => k_is)
    (case mp_AtLeast => k_is)
    (case me_plain_AtLeast => k_is)
    (case mk_AtMost => k_is)
    (case mi_AtMost => k_is)
    (case mf_AtMost => k_is)
    (case mp_AtMost => k_is)
    (case me_plain_AtMost => k_is)
    (case mk_Just => k_is)
    (case mi_Just => k_is)
    (case mf_Just => k_is)
    (case mp_Just => k_is)
    (case me_plain_Just => k_is)
    (case mk_Between => k_is)
    (case mi_Between => k_is)
    (case mf_Between => k_is)
    (case mp_Between => k_is)
    (case me_plain_Between => k_is)
    (case mm_plain => k_is)
    (case mk_Book => k_is)
    (case mi_Book => k_is)
    (case mf_Book => k_is)
    (case mp_Book => k_is)
    (case me_kept_Book => k_is)
    (case mm_kept => k_is)
    (case me_ties_Book => k_is)
    (case mm_ties => k_is)
    (case me_faces_Book => k_is)
    (case mm_faces => k_is)
    (case me_put_Book => k_is)
    (case mm_put => k_is)
    (case me_drop_Book => k_is)
    (case mm_drop => k_is)
    (case cl1_Free => k_is)
    (case cl2_Free => k_is)
    (case cl3_Free => k_is)
    (case cl4_Free => k_is)
    (case na1_Free => k_is)
    (case na2_Free => k_is)
    (case na3_Free => k_is)
    (case na4_Free => k_is)
    (case na5_Free => k_is)
    (case cl1_AtLeast => k_is)
    (case cl2_AtLeast => k_is)
    (case cl3_AtLeast => k_is)
    (case cl4_AtLeast => k_is)
    (case na1_AtLeast => k_is)
    (case na2_AtLeast => k_is)
    (case na3_AtLeast => k_is)
    (case na4_AtLeast => k_is)
    (case na5_AtLeast => k_is)
    (case cl1_AtMost => k_is)
    (case cl2_AtMost => k_is)
    (case cl3_AtMost => k_is)
    (case cl4_AtMost => k_is)
    (case na1_AtMost => k_is)
    (case na2_AtMost => k_is)
    (case na3_AtMost => k_is)
    (case na4_AtMost => k_is)
    (case na5_AtMost => k_is)
    (case cl1_Just => k_is)
    (case cl2_Just => k_is)
    (case cl3_Just => k_is)
    (case cl4_Just => k_is)
    (case na1_Just => k_is)
    (case na2_Just => k_is)
    (case na3_Just => k_is)
    (case na4_Just => k_is)
    (case na5_Just => k_is)
    (case cl1_Between => k_is)
    (case cl2_Between => k_is)
    (case cl3_Between => k_is)
    (case cl4_Between => k_is)
    (case na1_Between => k_is)
    (case na2_Between => k_is)
    (case na3_Between => k_is)
    (case na4_Between => k_is)
    (case na5_Between => k_is)
    (case bk1 => k_is)
    (case bk2 => k_is)
    (case bk3 => k_is)
    (case bk4 => k_is)
    (case bkn => k_is)
    (case y1 => k_is)
    (case y2 => k_is)
    (case y3 => k_is)
    (case y4A => k_is)
    (case xc1A => k_is)
    (case xc2A => k_is)
    (case xc3A => k_is)
    (case xc4A => k_is)
    (case xc7A => k_is)
    (case xc8A => k_is)
    (case kAA => kit_is)
    (case kAB => kit_is)
    (case kAC => kit_is)
    (case kVA => kit_is)
    (case y4B => k_is)
    (case xc1B => k_is)
    (case xc2B => k_is)
    (case xc3B => k_is)
    (case xc4B => k_is)
    (case xc7B => k_is)
    (case xc8B => k_is)
    (case kBA => kit_is)
    (case kBB => kit_is)
    (case kBC => kit_is)
    (case kVB => kit_is)
    (case y4C => k_is)
    (case xc1C => k_is)
    (case xc2C => k_is)
    (case xc3C => k_is)
    (case xc4C => k_is)
    (case xc7C => k_is)
    (case xc8C => k_is)
    (case kCA => kit_is)
    (case kCB => kit_is)
    (case kCC => kit_is)
    (case kVC => kit_is)
    (case xc5 => k_is)
    (case xc6 => k_is)
