import PyProof.Rows.All
import Wide.All
import OpenK.AllK
import Wide.FinOn
import Lean
import PyProof.EqAt
import PyProof.EqKinds
import PyProof.TupleCall
import PyProof.ZipIter
import PyProof.Rows.SetFrom
import PyProof.Rows.SortStr
import KE.KDictList
import PyProof.AttrMissHeap
import KE.KDictOf
import KE.KDictLaws
import KE.KRevIter
import PyProof.CollectIter
import PyProof.FactsAll.range_2
import PyProof.FactsAll.range_iterator_1
import PyProof.WalksEnum
import PyProof.EnumMake
import PyProof.Rows.Range3
import PySem.Challenge.RW_slackchain_k42_ways_of_gaps
set_option Elab.async false
set_option linter.all false
set_option maxRecDepth 100000
namespace L2
open PySem PySem.Spec PyProof.Rows
abbrev Key := Sum Bool Str
def isBoolOf : Bool → Value → Bool
 | b, .bool c => b == c
 | _, _ => false
theorem isBoolOf_shape {b : Bool} {v : Value} (h : isBoolOf b v = true) : v = .bool b := by
 cases v <;> simp_all [isBoolOf]
def keyIs : Key → Value → Bool
 | .inl k, v => isBoolOf k v
 | .inr x, v => Value.isStrOf x v
def keyH (w : World) : Key → Int
 | .inl k => hashInt (if k then 1 else 0)
 | .inr x => hashStr w x
theorem keyIs_shape : ∀ {k : Key} {v : Value}, keyIs k v = true → (∃ i, k = Sum.inl i ∧ v = Value.bool i) ∨ (∃ x t, k = Sum.inr x ∧ v = Value.str x t)
 | .inl i, v, h => .inl ⟨i, rfl, isBoolOf_shape h⟩
 | .inr x, v, h => by
  obtain ⟨t, e⟩ := Value.isStrOf_shape (x := x) (v := v) h
  exact .inr ⟨x, t, rfl, e⟩
theorem keyIs_bool (i : Bool) : keyIs (.inl i) (.bool i) = true := by simp [keyIs, isBoolOf]
theorem keyIs_str (x : Str) (t : Tok) : keyIs (.inr x) (.str x t) = true := by simp [keyIs, Value.isStrOf]
theorem key_ll (a b : Bool) : decide ((Sum.inl a : Key) = Sum.inl b) = (a == b) := by cases a <;> cases b <;> rfl
theorem key_rr (a b : Str) : decide ((Sum.inr a : Key) = Sum.inr b) = decide (a = b) := by
 by_cases e : a = b
 ·subst e; simp
 ·have h : ¬ (Sum.inr a : Key) = Sum.inr b := fun q => e (Sum.inr.inj q)
  rw [decide_eq_false h, decide_eq_false e]
theorem key_lr (a : Bool) (b : Str) : decide ((Sum.inl a : Key) = Sum.inr b) = false := decide_eq_false (fun q => nomatch q)
theorem key_rl (a : Str) (b : Bool) : decide ((Sum.inr a : Key) = Sum.inl b) = false := decide_eq_false (fun q => nomatch q)
theorem pyHash_bool {prog : Program} {w : World} {A : Around} {E : Value → Shared → Prop} {s : Shared} {b : Bool} {Q : Int → Shared → Prop} (h : Q (hashInt (if b then 1 else 0)) { s with toks := s.toks + 1 }) :
  wpAny (model prog w) A (pyHash (.bool b)) Q E s := by
 have hr := rawHash_range (if b then 1 else 0)
 have hT : s.TypeIs (.bool b) "bool" := rfl
 unfold pyHash
 have hv : [Value.bool b].any Value.onHeap = false := rfl
 refine wpAny_bind ?_
 rw [cRoomFor, if_neg (by rw [hv]; exact Bool.false_ne_true)]; refine wpAny_pure ?_
 refine wpAny_bind (wpAny_specialOf hT F.slot_bool_hash.lookup ?_)
 show wpAny _ _ (if (some (Value.builtin "int.__hash__") == some Value.none) = true then _ else _) Q E s
 rw [if_neg (by rw [beq_builtin_none]; exact Bool.false_ne_true)]
 refine wpAny_bind (wpAny_specialOf hT F.slot_bool_hash.lookup ?_)
 show wpAny _ _ (callSpecialIfBoundUnlessNone? (.bool b) "__hash__" _ >>= _) Q E s
 refine wpAny_bind (wpAny_callSpecialIfBoundUnlessNone?_slot hT F.slot_bool_hash
  (wpAny_call_entry F.slot_bool_hash hT entry_int_hash
   (show wpAny _ _ (do ret (← mkInt (rawHash (if b then 1 else 0)))) _ _ s from wpAny_ret_mkInt ?_) (args_int_hash _)))
 show wpAny _ _ (if (decide (-(2 : Int) ^ 63 ≤ rawHash (if b then 1 else 0)) && decide (rawHash (if b then 1 else 0) < 2 ^ 63)) = true then _ else _) Q E _
 rw [if_pos (by rw [decide_eq_true hr.1, decide_eq_true hr.2]; rfl)]
 exact wpAny_pure h
def mixKind (prog : Program) (w : World) : PySem.KeyKind prog w Key where
 is := keyIs
 hash := keyH w
 inj := fun v a b ha hb => by
  rcases keyIs_shape ha with ⟨i, rfl, rfl⟩ | ⟨x, t, rfl, rfl⟩
  ·rcases keyIs_shape hb with ⟨j, rfl, e⟩ | ⟨y, u, rfl, e⟩
   ·injection e with e1; rw [e1]
   ·exact nomatch e
  ·rcases keyIs_shape hb with ⟨j, rfl, e⟩ | ⟨y, u, rfl, e⟩
   ·exact nomatch e
   ·injection e with e1 _; rw [e1]
 byValue := fun k v h => by
  rcases keyIs_shape h with ⟨i, rfl, rfl⟩ | ⟨x, t, rfl, rfl⟩ <;> rfl
 pyHash := fun hv h => by
  rcases keyIs_shape hv with ⟨i, rfl, rfl⟩ | ⟨x, t, rfl, rfl⟩
  ·exact pyHash_bool h
  ·exact wpAny_pyHash_str h
 eqBool := fun hu hv h => by
  rcases keyIs_shape hu with ⟨i, rfl, rfl⟩ | ⟨x, t, rfl, rfl⟩
  ·rcases keyIs_shape hv with ⟨j, rfl, rfl⟩ | ⟨y, u, rfl, rfl⟩
   ·rw [key_ll] at h; exact SeqAt.EqAt.bool_bool i j _ _ _ _ h
   ·rw [key_lr] at h; exact SeqAt.EqAt.bool_str i y u _ _ _ _ h
  ·rcases keyIs_shape hv with ⟨j, rfl, rfl⟩ | ⟨y, u, rfl, rfl⟩
   ·rw [key_rl] at h; exact SeqAt.EqAt.str_bool x t j _ _ _ _ h
   ·rw [key_rr] at h; exact wpAny_eqBool_str h
 «strs» := fun k x t v h => by
  rcases keyIs_shape h with ⟨i, rfl, e⟩ | ⟨y, u, rfl, e⟩
  ·exact nomatch e
  ·injection e with e1 _
   subst e1
   cases v <;> rfl
theorem mixKind_bool (prog : Program) (w : World) (i : Bool) : (mixKind prog w).is (.inl i) (.bool i) = true := keyIs_bool i
theorem mixKind_str (prog : Program) (w : World) (x : Str) (t : Tok) : (mixKind prog w).is (.inr x) (.str x t) = true := keyIs_str x t
end L2
namespace L2
open PySem PySem.Spec PyProof.Rows
inductive V where
 | non | bl (b : Bool) | int (i : Int) | str (x : Str) | byt (b : Array UInt8) | flt (b : UInt64) | ref (a : Addr) | ty (n : String)
 deriving DecidableEq
def RelV : V → Value → Prop
 | .non, u => u = Value.none
 | .bl b, u => u = Value.bool b
 | .int i, u => ∃ t, u = Value.int i t
 | .str x, u => ∃ t, u = Value.str x t
 | .byt b, u => ∃ t, u = Value.bytes b t
 | .flt b, u => ∃ t, u = Value.float b t
 | .ref a, u => u = Value.ref a
 | .ty n, u => u = Value.type n
abbrev Vals : List V → List Value → Prop := Paired RelV
theorem Vals.length {xs : List V} {us : List Value} (r : Vals xs us) : xs.length = us.length := Paired.length r
theorem Vals.get : ∀ {xs : List V} {us : List Value} {i : Nat} {x : V}, Vals xs us → xs[i]? = some x → ∃ u, us[i]? = some u ∧ RelV x u
 | _, _, _, _, .nil, e => by simp at e
 | _, _, 0, _, .cons r _, e => by simp at e; subst e; exact ⟨_, rfl, r⟩
 | _, _, i + 1, x, .cons _ t, e => by
  obtain ⟨u, h1, h2⟩ := Vals.get (i := i) (x := x) t (by simpa using e)
  exact ⟨u, by simpa using h1, h2⟩
theorem Vals.append : ∀ {xs ys : List V} {us ws : List Value}, Vals xs us → Vals ys ws → Vals (xs ++ ys) (us ++ ws)
 | _, _, _, _, .nil, s => s
 | _, _, _, _, .cons r t, s => .cons r (Vals.append t s)
theorem Vals.take : ∀ {xs : List V} {us : List Value} (n : Nat), Vals xs us → Vals (xs.take n) (us.take n)
 | _, _, 0, _ => .nil
 | _, _, _ + 1, .nil => .nil
 | _, _, n + 1, .cons r t => .cons r (Vals.take n t)
theorem Vals.drop : ∀ {xs : List V} {us : List Value} (n : Nat), Vals xs us → Vals (xs.drop n) (us.drop n)
 | _, _, 0, r => r
 | _, _, _ + 1, .nil => .nil
 | _, _, n + 1, .cons _ t => Vals.drop n t
def RelO : Option V → Option Value → Prop
 | some v, some u => RelV v u
 | none, none => True
 | _, _ => False
def KV {κ : Type} : List (κ × V) → List (κ × Value) → Prop := Paired fun (p : κ × V) (q : κ × Value) => p.1 = q.1 ∧ RelV p.2 q.2
def kV : Key → V
 | .inl i => .bl i
 | .inr x => .str x
inductive HO where
 | lst (xs : List V)
 | tup (xs : List V)
 | dK (kvs : List (Key × V)) | dT (kvs : List (List Key × V))
 | set (S : Int → Bool) (n : Nat)
 | ins (C dx : Addr) (fs : List (Str × V))
 | own (x : Addr)
 | xd (fs : List (Str × V))
 | met (f x : Addr)
 | rng (lo hi : Int)
 | frz (o : Obj) (u : HO)
 | tbl (ps : Array Value)
 | ext (φ : Heap → Prop)
abbrev Hp := Addr → Option HO
def upd (H : Hp) (a : Addr) (o : HO) : Hp := fun b => if b = a then some o else H b
theorem upd_same {H : Hp} {a : Addr} {o : HO} : upd H a o a = some o := by unfold upd; rw [if_pos rfl]
theorem upd_ne {H : Hp} {a b : Addr} {o : HO} (h : b ≠ a) : upd H a o b = H b := by unfold upd; rw [if_neg h]
theorem ne_of {H : Hp} {a b : Addr} {o u : HO} (h : H a = some o) (h' : H b = some u) (d : o ≠ u) : a ≠ b := by
 intro e; subst e; rw [h] at h'; exact d (Option.some.inj h')
theorem ne_of_none {H : Hp} {a b : Addr} {o : HO} (h : H a = some o) (h' : H b = none) : a ≠ b := by
 intro e; subst e; rw [h] at h'; cases h'
section
variable (P : Program) (w : World)
def ObjOk (H : Hp) (h : Heap) (a : Addr) : HO → Prop
 | .lst xs => xs.length ≤ sizeLine ∧ ∃ (its : List Value) (n : Nat), Vals xs its ∧ h.get? a = some { cls := .type "list", data := .seq its.toArray n }
 | .tup xs => xs.length ≤ sizeLine ∧ ∃ its : List Value, Vals xs its ∧ IsTup h a its.toArray
 | .dK kvs => kvs.length ≤ sizeLine ∧ (a == sysModules) = false ∧ ∃ vs, KV kvs vs ∧ h.DictOf (mixKind P w) a vs
 | .dT kvs => kvs.length ≤ sizeLine ∧ (a == sysModules) = false ∧ ∃ xs : List (List Key × Addr × Value),
   Paired (fun (p : List Key × V) (q : List Key × Addr × Value) => p.1 = q.1 ∧ H q.2.1 = some (.tup (p.1.map kV)) ∧ RelV p.2 q.2.2) kvs xs ∧
   ∃ o es ep, h.get? a = some o ∧ o.ExactDict ∧ o.data = .dict es ep ∧ es.toList = xs.map (entryOfKey (tupleKind (mixKind P w))) ∧ (xs.map (·.1)).Nodup
 | .set S n => h.SetOf (intKind P w) a S n
 | .ins C dx fs => H dx = some (.own a) ∧ fs.length ≤ 1000 ∧ dx ≠ a ∧ h.get? a = some (PySem.W.instObj C dx) ∧
   ∃ mA, h.Ns1 dx mA ∧ (∀ f, RelO (fs.lookup f) (mA f)) ∧ PySem.Within mA (fs.map (·.1))
 | .own _ => ∃ o, h.get? a = some o
 | .xd fs => ∃ mA, h.Ns1 a mA ∧ ∀ f, RelO (fs.lookup f) (mA f)
 | .rng lo hi => ∃ t u v, h.get? a = some { cls := .type "range", data := .fields #[.int lo t, .int hi u, .int 1 v] }
 | .frz o u => h.get? a = some o ∧ ObjOk H h a u
 | .tbl ps => h.get? a = some { cls := .none, data := .fields ps }
 | .met f x => h.get? a = some (PySem.W.methodObj (.ref f) (.ref x))
 | .ext φ => φ h ∧ (∃ o, h.get? a = some o) ∧ ∀ h1 h2 : Heap, φ h1 → (∀ o, h1.get? a = some o → h2.get? a = some o) → φ h2
def HOk (H : Hp) (h : Heap) : Prop := ∀ a o, H a = some o → ObjOk P w H h a o
end
section
variable {P : Program} {w : World} {H H' : Hp} {h h' : Heap} {a : Addr} {o : HO}
theorem ObjOk.lt (x : ObjOk P w H h a o) : a < h.objs.size := by
 cases o with
 | lst xs => obtain ⟨_, _, _, _, e⟩ := x; exact Heap.lt_size e
 | tup xs => obtain ⟨_, _, _, p⟩ := x; exact p.lt
 | dK kvs => obtain ⟨_, _, _, _, o, _, _, e, _⟩ := x; exact Heap.lt_size e
 | dT kvs => obtain ⟨_, _, _, _, o, _, _, e, _⟩ := x; exact Heap.lt_size e
 | set S n => obtain ⟨o, _, _, _, e, _⟩ := x; exact Heap.lt_size e
 | ins C dx fs => obtain ⟨_, _, _, e, _⟩ := x; exact Heap.lt_size e
 | own y => obtain ⟨_, e⟩ := x; exact Heap.lt_size e
 | xd fs => obtain ⟨_, ⟨_, _, _, e, _⟩, _⟩ := x; exact Heap.lt_size e
 | rng lo hi => obtain ⟨_, _, _, e⟩ := x; exact Heap.lt_size e
 | frz ob u => obtain ⟨e, _⟩ := x; exact Heap.lt_size e
 | tbl ps => exact Heap.lt_size (show h.get? a = some _ from x)
 | met f y => exact Heap.lt_size (show h.get? a = some _ from x)
 | ext φ => obtain ⟨_, ⟨_, e⟩, _⟩ := x; exact Heap.lt_size e
theorem Paired.mapP {α β : Type} {F G : α → β → Prop} : ∀ {l₁ : List α} {l₂ : List β}, Paired F l₁ l₂ → (∀ a b, F a b → G a b) → Paired G l₁ l₂
 | _, _, .nil, _ => .nil
 | _, _, .cons r t, f => .cons (f _ _ r) (Paired.mapP t f)
theorem ObjOk.stay (x : ObjOk P w H h a o) (k : ∀ b u, (b = a ∨ H b = some (.own a)) → h.get? b = some u → h'.get? b = some u)
  (ho : ∀ b, H b = some (.own a) → H' b = some (.own a)) (ht : ∀ b xs, H b = some (.tup xs) → H' b = some (.tup xs)) : ObjOk P w H' h' a o := by
 induction o with
 | lst xs => obtain ⟨z, its, n, r, e⟩ := x; exact ⟨z, its, n, r, k _ _ (.inl rfl) e⟩
 | tup xs => obtain ⟨z, its, r, ob, e, c⟩ := x; exact ⟨z, its, r, ob, k _ _ (.inl rfl) e, c⟩
 | dK kvs => obtain ⟨z, y, vs, r, ob, es, ep, e, c⟩ := x; exact ⟨z, y, vs, r, ob, es, ep, k _ _ (.inl rfl) e, c⟩
 | dT kvs =>
  obtain ⟨z, y, xs, r, ob, es, ep, e, c⟩ := x
  exact ⟨z, y, xs, Paired.mapP r fun p q z => ⟨z.1, ht _ _ z.2.1, z.2.2⟩, ob, es, ep, k _ _ (.inl rfl) e, c⟩
 | set S n => obtain ⟨ob, es, ep, t, e, c⟩ := x; exact ⟨ob, es, ep, t, k _ _ (.inl rfl) e, c⟩
 | ins C dx fs =>
  obtain ⟨d, z, ne, e, mA, ⟨od, es, ep, e2, c⟩, r⟩ := x
  exact ⟨ho _ d, z, ne, k _ _ (.inl rfl) e, mA, ⟨od, es, ep, k _ _ (.inr d) e2, c⟩, r⟩
 | own y => obtain ⟨ob, e⟩ := x; exact ⟨ob, k _ _ (.inl rfl) e⟩
 | xd fs => obtain ⟨mA, ⟨od, es, ep, e, c⟩, r⟩ := x; exact ⟨mA, ⟨od, es, ep, k _ _ (.inl rfl) e, c⟩, r⟩
 | rng lo hi => obtain ⟨t, u, v, e⟩ := x; exact ⟨t, u, v, k _ _ (.inl rfl) e⟩
 | frz ob u ih => obtain ⟨e, q⟩ := x; exact ⟨k _ _ (.inl rfl) e, ih q⟩
 | tbl ps =>
  have e : h.get? a = some { cls := .none, data := .fields ps } := x
  show h'.get? a = some { cls := .none, data := .fields ps }
  exact k a _ (.inl rfl) e
 | met f y =>
  have e : h.get? a = some (PySem.W.methodObj (.ref f) (.ref y)) := x
  show h'.get? a = some (PySem.W.methodObj (.ref f) (.ref y))
  exact k a _ (.inl rfl) e
 | ext φ => obtain ⟨p, ⟨o, e⟩, st⟩ := x; exact ⟨st _ _ p fun o q => k _ _ (.inl rfl) q, ⟨o, k _ _ (.inl rfl) e⟩, st⟩
theorem HOk.lt (x : HOk P w H h) (e : H a = some o) : a < h.objs.size := (x a o e).lt
theorem HOk.fresh (x : HOk P w H h) (e : h.objs.size ≤ a) : H a = none := by
 cases q : H a with
 | none => rfl
 | some u => exact absurd (Nat.lt_of_lt_of_le (x.lt q) e) (Nat.lt_irrefl _)
theorem HOk.kept (x : HOk P w H h) (k : ∀ b u, h.get? b = some u → h'.get? b = some u) : HOk P w H h' := fun a o e =>
 (x a o e).stay (fun b u _ q => k b u q) (fun _ q => q) fun _ _ q => q
theorem HOk.laid (x : HOk P w H h) (k : ∀ b u, h.get? b = some u → h'.get? b = some u) (hp : h.objs.size ≤ a) (new : ObjOk P w (upd H a o) h' a o) : HOk P w (upd H a o) h' := fun b u e => by
 have hn := x.fresh hp
 by_cases hb : b = a
 ·subst hb; rw [upd_same] at e; cases e; exact new
 ·rw [upd_ne hb] at e
  exact (x b u e).stay (fun c v _ q => k c v q) (fun c q => by rw [upd_ne (ne_of_none q hn)]; exact q) fun c xs q => by rw [upd_ne (ne_of_none q hn)]; exact q
end
def Rd (H : Hp) (a : Addr) (u : HO) : Prop := H a = some u ∨ ∃ o, H a = some (.frz o u)
theorem Rd.ok {P : Program} {w : World} {H : Hp} {h : Heap} {a : Addr} {u : HO} (r : Rd H a u) (x : HOk P w H h) : ObjOk P w H h a u := by
 rcases r with r | ⟨o, r⟩
 ·exact x a u r
 ·obtain ⟨_, q⟩ := x a _ r
  exact q
def Mut : Option HO → Prop
 | some (.lst _) => True
 | some (.dK _) => True
 | some (.dT _) => True
 | some (.set _ _) => True
 | some (.ins _ _ _) => True
 | some (.ext _) => True
 | _ => False
section
variable {P : Program} {w : World} {H : Hp} {h h' : Heap} {x e : Addr} {o' : HO}
theorem HOk.write (ok : HOk P w H h) (mu : Mut (H x)) (he : e = x ∨ H e = some (.own x)) (k : ∀ b u, b ≠ e → h.get? b = some u → h'.get? b = some u) (heo : ∃ u, h'.get? e = some u)
  (new : ObjOk P w (upd H x o') h' x o') : HOk P w (upd H x o') h' := fun b u q => by
 have nown : ∀ c y, H c = some (.own y) → c ≠ x := fun c y r z => by subst z; rw [r] at mu; exact mu
 have ntup : ∀ c xs, H c = some (.tup xs) → c ≠ x := fun c xs r z => by subst z; rw [r] at mu; exact mu
 by_cases hb : b = x
 ·subst hb; rw [upd_same] at q; cases q; exact new
 ·rw [upd_ne hb] at q
  by_cases hbe : b = e
  ·have q' : H b = some (.own x) := by
    rcases he with z | z
    ·exact absurd (hbe.trans z) hb
    ·rw [hbe]; exact z
   rw [q] at q'; cases q'
   obtain ⟨v, hv⟩ := heo
   exact ⟨v, by rw [hbe]; exact hv⟩
  ·refine (ok b u q).stay (fun c v hc r => k c v ?_ r) (fun c r => by rw [upd_ne (nown c b r)]; exact r) fun c xs r => by rw [upd_ne (ntup c xs r)]; exact r
   rcases hc with rfl | hc
   ·exact hbe
   ·rintro rfl
    rcases he with z | z
    ·exact nown c b hc z
    ·rw [hc] at z; cases z; exact hb rfl
end
structure Un (fs ex : List Addr) (H H' : Hp) (h h' : Heap) : Prop where
 keep : ∀ b o, h.get? b = some o → H b = none → b ∉ fs → b ∉ ex → h'.get? b = some o
 slot : ∀ b o, h.get? b = some o → H b = none → b ∈ fs → b ∉ ex → ∃ sl, h'.get? b = some { o with slots := sl }
 free : ∀ b o, h.get? b = some o → H b = none → b ∉ ex → H' b = none
 there : ∀ b o, h.get? b = some o → b ∉ ex → ∃ o', h'.get? b = some o'
 tups : ∀ b xs, H b = some (.tup xs) → H' b = some (.tup xs)
 frzs : ∀ b o u, H b = some (.frz o u) → H' b = some (.frz o u)
 tbls : ∀ b ps, H b = some (.tbl ps) → ∃ more, H' b = some (.tbl (ps ++ more))
section
variable {fs fs' ex ex' : List Addr} {H H1 H2 : Hp} {h h1 h2 h' : Heap} {a x e : Addr} {o : HO}
theorem Un.any (u : Un fs ex H H1 h h1) {b : Addr} {ob : Obj} (q : h.get? b = some ob) (n : H b = none) (hx : b ∉ ex) : ∃ sl, h1.get? b = some { ob with slots := sl } := by
 by_cases hb : b ∈ fs
 ·exact u.slot b ob q n hb hx
 ·exact ⟨ob.slots, u.keep b ob q n hb hx⟩
theorem Un.trans (a : Un fs ex H H1 h h1) (b : Un fs ex H1 H2 h1 h2) : Un fs ex H H2 h h2 where
 keep := fun c ob q n hc hx => b.keep c ob (a.keep c ob q n hc hx) (a.free c ob q n hx) hc hx
 slot := fun c ob q n hc hx => by
  obtain ⟨sl, e1⟩ := a.slot c ob q n hc hx
  obtain ⟨sl', e2⟩ := b.slot c _ e1 (a.free c ob q n hx) hc hx
  exact ⟨sl', e2⟩
 free := fun c ob q n hx => by
  obtain ⟨o', e1⟩ := a.there c ob q hx
  exact b.free c o' e1 (a.free c ob q n hx) hx
 there := fun c ob q hx => by
  obtain ⟨o', e1⟩ := a.there c ob q hx
  exact b.there c o' e1 hx
 tups := fun c xs q => b.tups c xs (a.tups c xs q)
 frzs := fun c ob xs q => b.frzs c ob xs (a.frzs c ob xs q)
 tbls := fun c ps q => by
  obtain ⟨m1, e1⟩ := a.tbls c ps q
  obtain ⟨m2, e2⟩ := b.tbls c _ e1
  exact ⟨m1 ++ m2, by rw [e2, Array.append_assoc]⟩
theorem Un.kept (k : ∀ b u, h.get? b = some u → h'.get? b = some u) : Un fs ex H H h h' :=
 ⟨fun b ob q _ _ _ => k b ob q, fun b ob q _ _ _ => ⟨ob.slots, k b ob q⟩, fun _ _ _ n _ => n, fun b ob q _ => ⟨ob, k b ob q⟩, fun _ _ q => q, fun _ _ _ q => q, fun _ ps q => ⟨#[], by rw [q]; simp⟩⟩
theorem Un.refl : Un fs ex H H h h := Un.kept fun _ _ q => q
theorem Un.laid (k : ∀ b u, h.get? b = some u → h'.get? b = some u) (hp : h.objs.size ≤ a) (hn : H a = none) : Un fs ex H (upd H a o) h h' where
 keep := fun b u q _ _ _ => k b u q
 slot := fun b u q _ _ _ => ⟨u.slots, k b u q⟩
 free := fun b u q n _ => by rw [upd_ne (Nat.ne_of_lt (Nat.lt_of_lt_of_le (Heap.lt_size q) hp))]; exact n
 there := fun b u q _ => ⟨u, k b u q⟩
 tups := fun b xs q => by rw [upd_ne (ne_of_none q hn)]; exact q
 frzs := fun b u xs q => by rw [upd_ne (ne_of_none q hn)]; exact q
 tbls := fun b ps q => ⟨#[], by rw [upd_ne (ne_of_none q hn), q]; simp⟩
theorem Un.write (mu : Mut (H x)) (he : e = x ∨ H e = some (.own x)) (k : ∀ b u, b ≠ e → h.get? b = some u → h'.get? b = some u) (heo : ∃ u, h'.get? e = some u) : Un fs ex H (upd H x o) h h' := by
 have hx : ∀ b, H b = none → b ≠ x := fun b n z => by subst z; rw [n] at mu; exact mu
 have hb : ∀ b, H b = none → b ≠ e := fun b n z => by
  subst z
  rcases he with r | r
  ·exact hx b n r
  ·rw [n] at r; cases r
 have hm : ∀ b u, H b = some u → ¬ Mut (some u) → b ≠ x := fun b u q nm z => by subst z; rw [q] at mu; exact nm mu
 refine ⟨fun b u q n _ _ => k b u (hb b n) q, fun b u q n _ _ => ⟨u.slots, k b u (hb b n) q⟩, fun b u q n _ => by rw [upd_ne (hx b n)]; exact n, fun b u q _ => ?_,
  fun b xs q => by rw [upd_ne (hm b _ q fun z => z)]; exact q, fun b u xs q => by rw [upd_ne (hm b _ q fun z => z)]; exact q, fun b ps q => ⟨#[], by rw [upd_ne (hm b _ q fun z => z), q]; simp⟩⟩
 by_cases hbe : b = e
 ·subst hbe; exact heo
 ·exact ⟨u, k b u hbe q⟩
end
def trk (h : Heap) (H : Hp) : List Addr := (List.range h.objs.size).filter fun a => (H a).isSome
def hidT (h : Heap) (H : Hp) : Heap := PySem.W.hideAll h (trk h H)
theorem hidT_size (h : Heap) (H : Hp) : (hidT h H).objs.size = h.objs.size := PySem.W.hideAll_size _ _
theorem hidT_get {h : Heap} {H : Hp} {b : Addr} {o : Obj} (e : h.get? b = some o) (n : H b = none) : (hidT h H).get? b = some o :=
 PySem.W.hideAll_get _ e fun hm => by
  have q : (H b).isSome = true := (List.mem_filter.mp hm).2
  rw [n] at q; simp at q
theorem of_hidT {h : Heap} {H : Hp} {b : Addr} {o : Obj} (e : (hidT h H).get? b = some o) : h.get? b = some o ∧ H b = none := by
 have e' : h.get? b = some o := PySem.W.of_hideAll (trk h H) e
 refine ⟨e', ?_⟩
 cases q : H b with
 | none => rfl
 | some x =>
  have hm : b ∈ trk h H := List.mem_filter.mpr ⟨List.mem_range.mpr (Heap.lt_size e'), by simp [q]⟩
  have z : (hidT h H).get? b = none := PySem.W.hideAll_none (trk h H) hm
  rw [z] at e; cases e
def allNews (g h : Heap) (L : Addr) : List (Addr × Obj) := (List.range h.objs.size).filterMap fun a => if a = L ∨ (g.get? a).isSome = true then none else (h.get? a).map fun o => (a, o)
def rest (g h : Heap) (L d : Addr) : List (Addr × Obj) := (allNews g h L).filter fun p => decide (p.1 ≠ d)
end L2
namespace L2
open PySem PySem.Spec PyProof.Rows
structure Mod (K : PySem.W.Frag) (mg : Str → Option Value) (base : Heap) : Prop where
 kin : K.In base
 glob : base.Ns mainGlobals mg
 blt : ∃ mb, base.Ns builtinsNs mb ∧ ∀ x : Str, x ≠ "__name__" → mb x = bootBuiltins x
 nolimit : base.NoLimit
structure Cx where
 prog : Program
 w : World
 K : PySem.W.Frag
 mg : Str → Option Value
 base : Heap
 A : Around
 N : List Str
 s₀ : Shared
 H₀ : Hp
 env : Env
 outer : List Env
 stack : List Env
 ex : List Addr
 fn : Str → Bool
 calm : Bool
 pn : List (Addr × Obj)
 xe : Value → Shared → Prop
def frs (l : List Env) : List Addr := l.filterMap (·.frame)
abbrev Cx.fs (X : Cx) : List Addr := frs X.outer
def Vis (sc : Scope) (x : Str) : Prop := sc.names.lookup x = some .local ∨ sc.names.lookup x = some .cell ∨ sc.names.lookup x = some .free
def Loc (sc : Scope) (x : Str) : Prop := sc.names.lookup x = some .local ∨ sc.names.lookup x = some .cell
def Look (env : Env) (h : Heap) (m : Str → Option Value) (x : Str) (u : Value) : Prop :=
 (env.kindOf x = some .local ∧ m x = some u) ∨ ((env.kindOf x = some .cell ∨ env.kindOf x = some .free) ∧ ∃ c, env.cells.lookup x = some c ∧ h.IsCell c (some u))
structure Cx.Ok (X : Cx) : Prop where
 mod : Mod X.K X.mg X.base
 kind : X.env.scope.kind = .function
 glob : X.env.globals = mainGlobals
 blt : X.env.builtins = builtinsNs
 above : X.s₀.heap.objs.size ≤ X.env.locals
 inj : ∀ x y c, X.env.cells.lookup x = some c → X.env.cells.lookup y = some c → x = y
 has : ∀ x, (X.env.kindOf x = some .cell ∨ X.env.kindOf x = some .free) → ∃ c, X.env.cells.lookup x = some c
 cab : ∀ x c, X.fn x = true → X.env.cells.lookup x = some c → X.s₀.heap.objs.size ≤ c
 hd : X.calm = true → X.A.handled = none
 frames : X.A.frames = some X.stack
 stk : X.stack = X.outer ∨ (X.stack = X.env :: X.outer ∧ X.env.frame = some X.env.locals)
 exf : ∀ b ∈ X.ex, b ≠ X.env.locals ∧ ∀ x c, X.env.cells.lookup x = some c → c ≠ b
 bs : ∀ b o, X.base.get? b = some o → X.s₀.heap.get? b = some o ∧ X.H₀ b = none
 bsz : X.base.objs.size ≤ X.s₀.heap.objs.size
 noex : ∀ b o, X.base.get? b = some o → b ∉ X.ex
 exfs : ∀ b ∈ X.ex, b ∉ X.fs
 funs : X.s₀.heap.FunFrames X.base X.outer
 frf : ∀ b ∈ X.fs, X.H₀ b = none
structure Inv (X : Cx) (pins : List (Addr × Obj)) (σ : List (Option V)) (H : Hp) (s : Shared) : Prop where
 ok : X.Ok
 os : s.os = X.s₀.os
 bare : AllBare s.gens
 base : Un X.fs X.ex X.H₀ H X.s₀.heap s.heap
 loc : ∃ m, s.heap.Ns X.env.locals m ∧ ∀ (i : Nat) (x : Str) (v : V), X.N[i]? = some x → σ[i]? = some (some v) → Vis X.env.scope x → ∃ u, RelV v u ∧ Look X.env s.heap m x u
 cell : ∀ x c, X.env.cells.lookup x = some c → ∃ v, s.heap.IsCell c v
 free : H X.env.locals = none
 freeC : ∀ x c, X.env.cells.lookup x = some c → H c = none
 pin : ∀ p ∈ X.pn ++ pins, s.heap.get? p.1 = some p.2 ∧ H p.1 = none ∧ p.1 ≠ X.env.locals ∧ p.1 ∉ X.fs ∧ ∀ v, p.2.data ≠ .cell v
 hok : HOk X.prog X.w H s.heap
 len : σ.length = X.N.length
section
variable {X : Cx} {pins : List (Addr × Obj)} {σ : List (Option V)} {H H' : Hp} {s : Shared} {h' : Heap}
theorem Cx.Ok.nofr (ok : X.Ok) {b : Addr} {o : Obj} (e : X.base.get? b = some o) : b ∉ X.fs := fun hb => by
 have := (ok.funs.mem hb).1
 rw [e] at this; cases this
theorem Inv.bs (I : Inv X pins σ H s) : ∀ b o, X.base.get? b = some o → s.heap.get? b = some o ∧ H b = none := fun b o e =>
 ⟨I.base.keep b o (I.ok.bs b o e).1 (I.ok.bs b o e).2 (I.ok.nofr e) (I.ok.noex b o e), I.base.free b o (I.ok.bs b o e).1 (I.ok.bs b o e).2 (I.ok.noex b o e)⟩
theorem Inv.bk (I : Inv X pins σ H s) : ∀ b o, X.base.get? b = some o → s.heap.get? b = some o := fun b o e => (I.bs b o e).1
theorem Inv.mod (I : Inv X pins σ H s) : Mod X.K X.mg X.base := I.ok.mod
theorem Inv.kIn (I : Inv X pins σ H s) : X.K.In s.heap := I.ok.mod.kin.keeps I.bk
theorem Inv.fr (I : Inv X pins σ H s) : ∃ m, Fr X.base X.env.locals s.heap m :=
 let ⟨m, hn, _⟩ := I.loc
 ⟨m, hn, I.bk, Nat.le_trans I.ok.bsz I.ok.above⟩
theorem Inv.lt (I : Inv X pins σ H s) : X.env.locals < s.heap.objs.size := let ⟨_, hn, _⟩ := I.loc; hn.lt
theorem Inv.sz (I : Inv X pins σ H s) : X.s₀.heap.objs.size ≤ s.heap.objs.size := Nat.le_trans I.ok.above (Nat.le_of_lt I.lt)
theorem Inv.nofs (I : Inv X pins σ H s) {a : Addr} (h : s.heap.objs.size ≤ a) : a ∉ X.fs := fun hb => by
 obtain ⟨_, o, ho, _⟩ := I.ok.funs.mem hb
 exact absurd (Nat.lt_of_lt_of_le (Heap.lt_size ho) (Nat.le_trans I.sz h)) (Nat.lt_irrefl _)
theorem Inv.cne (I : Inv X pins σ H s) : ∀ x c, X.env.cells.lookup x = some c → c ≠ X.env.locals := fun x c e z => by
 obtain ⟨v, o, ho, hd⟩ := I.cell x c e
 obtain ⟨m, ⟨o', es, ep, ho', hd', _⟩, _⟩ := I.loc
 rw [z, ho'] at ho; cases ho; rw [hd'] at hd; cases hd
theorem Inv.funs (I : Inv X pins σ H s) : s.heap.FunFrames X.base X.outer := by
 have all : ∀ (l : List Env), (∀ b ∈ frs l, b ∈ X.fs) → X.s₀.heap.FunFrames X.base l → s.heap.FunFrames X.base l := by
  intro l
  induction l with
  | nil => intro _ _; trivial
  | cons env r ih =>
   intro hs hl
   obtain ⟨hk, ⟨L, o, hf, hn, ho, hd⟩, hr⟩ := hl
   have hL : L ∈ X.fs := hs L (by unfold frs; rw [List.filterMap_cons, hf]; exact List.mem_cons_self)
   obtain ⟨sl, e⟩ := I.base.slot L o ho (I.ok.frf L hL) hL fun z => I.ok.exfs L z hL
   exact ⟨hk, ⟨L, _, hf, hn, e, hd⟩, ih (fun b hb => hs b (by unfold frs; rw [List.filterMap_cons, hf]; exact List.mem_cons_of_mem _ hb)) hr⟩
 exact all X.outer (fun _ hb => hb) I.ok.funs
theorem Inv.stack (I : Inv X pins σ H s) : s.heap.FunFrames X.base X.stack := by
 rcases I.ok.stk with e | ⟨e, hf⟩
 ·rw [e]; exact I.funs
 ·rw [e]
  obtain ⟨m, hn, _⟩ := I.loc
  refine .cons (by rw [I.ok.kind]; decide) hf hn ?_ I.funs
  exact Heap.get?_none_of_le (Nat.le_trans I.ok.bsz I.ok.above)
theorem Inv.stkSub (I : Inv X pins σ H s) : ∀ b ∈ frs X.stack, b ∈ X.env.locals :: X.fs := fun b hb => by
 rcases I.ok.stk with e | ⟨e, hf⟩
 ·rw [e] at hb; exact List.mem_cons_of_mem _ hb
 ·rw [e] at hb
  unfold frs at hb
  rw [List.filterMap_cons, hf] at hb
  exact hb
theorem Inv.stkFree (I : Inv X pins σ H s) : ∀ b ∈ frs X.stack, H b = none := fun b hb => by
 rcases List.mem_cons.mp (I.stkSub b hb) with e | hb
 ·rw [e]; exact I.free
 ·obtain ⟨_, o, ho, _⟩ := I.ok.funs.mem hb
  exact I.base.free b o ho (I.ok.frf b hb) fun z => I.ok.exfs b z hb
theorem Inv.step {g' : Array GenState} {t' : Nat} {d' : Drawn} {ch : List Addr} (I : Inv X pins σ H s)
  (hch : ∀ b ∈ ch, (b ∈ X.ex ∨ X.s₀.heap.objs.size ≤ b) ∧ b ≠ X.env.locals ∧ (∀ x c, X.env.cells.lookup x = some c → c ≠ b) ∧ ∀ p ∈ X.pn ++ pins, p.1 ≠ b)
  (keep : ∀ b o, b ≠ X.env.locals → b ∉ X.fs → b ∉ ch → s.heap.get? b = some o → H b = none → h'.get? b = some o)
  (slot : ∀ b o, b ≠ X.env.locals → b ∈ X.fs → b ∉ ch → s.heap.get? b = some o → H b = none → ∃ sl, h'.get? b = some { o with slots := sl }) (free : ∀ b o, b ∉ ch → s.heap.get? b = some o → H b = none → H' b = none)
  (there : ∀ b o, b ∉ ch → s.heap.get? b = some o → ∃ o', h'.get? b = some o')
  (tups : ∀ b xs, H b = some (.tup xs) → H' b = some (.tup xs)) (frzs : ∀ b o u, H b = some (.frz o u) → H' b = some (.frz o u)) (tbls : ∀ b ps, H b = some (.tbl ps) → ∃ more, H' b = some (.tbl (ps ++ more)))
  (ns : ∀ m, s.heap.Ns X.env.locals m → h'.Ns X.env.locals m) (hok : HOk X.prog X.w H' h') (hg : AllBare g') :
  Inv X pins σ H' { s with heap := h', gens := g', drawn := d', toks := t' } := by
 have neL : ∀ b o, X.s₀.heap.get? b = some o → b ≠ X.env.locals := fun b o e => Nat.ne_of_lt (Nat.lt_of_lt_of_le (Heap.lt_size e) I.ok.above)
 have neC : ∀ b o, X.s₀.heap.get? b = some o → b ∉ X.ex → b ∉ ch := fun b o e hx hb => by
  rcases (hch b hb).1 with z | z
  ·exact hx z
  ·exact absurd (Nat.lt_of_lt_of_le (Heap.lt_size e) z) (Nat.lt_irrefl _)
 have cellK : ∀ x c, X.env.cells.lookup x = some c → ∀ v, s.heap.IsCell c v → h'.IsCell c v := fun x c e v ⟨o, ho, hd⟩ => by
  have nch : c ∉ ch := fun z => (hch c z).2.2.1 x c e rfl
  by_cases hc : c ∈ X.fs
  ·obtain ⟨sl, q⟩ := slot c o (I.cne x c e) hc nch ho (I.freeC x c e)
   exact ⟨_, q, hd⟩
  ·exact ⟨o, keep c o (I.cne x c e) hc nch ho (I.freeC x c e), hd⟩
 refine ⟨I.ok, I.os, hg, ⟨fun b o e n hb hx => ?_, fun b o e n hb hx => ?_, fun b o e n hx => ?_, fun b o e hx => ?_, fun b xs e => tups b xs (I.base.tups b xs e), fun b o xs e => frzs b o xs (I.base.frzs b o xs e), fun b ps e => ?_⟩, ?_, fun x c e => ?_, ?_, fun x c e => ?_, fun p hp => ?_, hok, I.len⟩
 ·exact keep b o (neL b o e) hb (neC b o e hx) (I.base.keep b o e n hb hx) (I.base.free b o e n hx)
 ·obtain ⟨sl, e1⟩ := I.base.slot b o e n hb hx
  obtain ⟨sl', e2⟩ := slot b _ (neL b o e) hb (neC b o e hx) e1 (I.base.free b o e n hx)
  exact ⟨sl', e2⟩
 ·obtain ⟨o', e1⟩ := I.base.there b o e hx
  exact free b o' (neC b o e hx) e1 (I.base.free b o e n hx)
 ·obtain ⟨o', e1⟩ := I.base.there b o e hx
  exact there b o' (neC b o e hx) e1
 ·obtain ⟨m1, e1⟩ := I.base.tbls b ps e
  obtain ⟨m2, e2⟩ := tbls b _ e1
  exact ⟨m1 ++ m2, by rw [e2, Array.append_assoc]⟩
 ·obtain ⟨m, hn, hl⟩ := I.loc
  refine ⟨m, ns m hn, fun i x v e1 e2 e3 => ?_⟩
  obtain ⟨u, r, l⟩ := hl i x v e1 e2 e3
  refine ⟨u, r, ?_⟩
  rcases l with l | ⟨k, c, e, z⟩
  ·exact .inl l
  ·exact .inr ⟨k, c, e, cellK x c e _ z⟩
 ·obtain ⟨v, z⟩ := I.cell x c e
  exact ⟨v, cellK x c e v z⟩
 ·obtain ⟨m, ⟨o, _, _, ho, _⟩, _⟩ := I.loc
  exact free _ o (fun z => (hch _ z).2.1 rfl) ho I.free
 ·obtain ⟨v, o, ho, hd⟩ := I.cell x c e
  exact free c o (fun z => (hch c z).2.2.1 x c e rfl) ho (I.freeC x c e)
 ·obtain ⟨e, n, ne, nf, d⟩ := I.pin p hp
  have nch : p.1 ∉ ch := fun z => (hch p.1 z).2.2.2 p hp rfl
  exact ⟨keep p.1 p.2 ne nf nch e n, free p.1 p.2 nch e n, ne, nf, d⟩
theorem Inv.un {t' : Nat} (I : Inv X pins σ H s) (u : Un X.fs [] H H' s.heap h') (hok : HOk X.prog X.w H' h') : Inv X pins σ H' { s with heap := h', toks := t' } := by
 obtain ⟨m, ⟨o, es, ep, ho, r⟩, _⟩ := id I.loc
 obtain ⟨sl, hL⟩ := u.any ho I.free (by simp)
 exact I.step (g' := s.gens) (d' := s.drawn) (ch := []) (fun _ z => nomatch z) (fun b o _ hb _ e n => u.keep b o e n hb (by simp)) (fun b o _ hb _ e n => u.slot b o e n hb (by simp)) (fun b o _ e n => u.free b o e n (by simp)) (fun b o _ e => u.there b o e (by simp)) u.tups u.frzs u.tbls (fun m' hm => by
  obtain ⟨o', es', ep', ho', r'⟩ := hm
  rw [ho] at ho'; cases ho'
  exact ⟨_, es', ep', hL, r'⟩) hok I.bare
theorem Inv.call {g' : Array GenState} {t' : Nat} {d' : Drawn} {ch : List Addr} (I : Inv X pins σ H s) (u : Un (frs X.stack) ch H H' s.heap h') (hok : HOk X.prog X.w H' h') (hg : AllBare g')
  (hch : ∀ b ∈ ch, (b ∈ X.ex ∨ X.s₀.heap.objs.size ≤ b) ∧ b ≠ X.env.locals ∧ (∀ x c, X.env.cells.lookup x = some c → c ≠ b) ∧ ∀ p ∈ X.pn ++ pins, p.1 ≠ b) :
  Inv X pins σ H' { s with heap := h', gens := g', drawn := d', toks := t' } := by
 obtain ⟨m, ⟨o, es, ep, ho, r⟩, _⟩ := id I.loc
 obtain ⟨sl, hL⟩ := u.any ho I.free fun z => (hch _ z).2.1 rfl
 exact I.step (ch := ch) hch (fun b o hL hb hc e n => u.keep b o e n (fun z => (List.mem_cons.mp (I.stkSub b z)).elim hL hb) hc) (fun b o _ _ hc e n => u.any e n hc) (fun b o hc e n => u.free b o e n hc) (fun b o hc e => u.there b o e hc) u.tups u.frzs u.tbls (fun m' hm => by
  obtain ⟨o', es', ep', ho', r'⟩ := hm
  rw [ho] at ho'; cases ho'
  exact ⟨_, es', ep', hL, r'⟩) hok hg
theorem Inv.turned {t' : Nat} {it : Addr} (I : Inv X pins σ H s) (k : ∀ b o, b ≠ it → s.heap.get? b = some o → h'.get? b = some o) (hn : H it = none) (hL : it ≠ X.env.locals)
  (h1 : it ∈ X.ex ∨ X.s₀.heap.objs.size ≤ it) (h2 : ∀ x c, X.env.cells.lookup x = some c → c ≠ it) (h3 : ∀ p ∈ X.pn ++ pins, p.1 ≠ it) : Inv X pins σ H { s with heap := h', toks := t' } := by
 have nit : ∀ b u, H b = some u → b ≠ it := fun b u e z => by rw [z, hn] at e; cases e
 refine I.step (g' := s.gens) (d' := s.drawn) (ch := [it]) (fun b hb => ?_) (fun b o _ _ hc e _ => k b o (fun z => hc (by simp [z])) e) (fun b o _ _ hc e _ => ⟨o.slots, k b o (fun z => hc (by simp [z])) e⟩) (fun _ _ _ _ n => n)
  (fun b o hc e => ⟨o, k b o (fun z => hc (by simp [z])) e⟩) (fun _ _ e => e) (fun _ _ _ e => e) (fun b ps e => ⟨#[], by rw [e]; simp⟩) (fun m hm => ?_) (fun b u e => ?_) I.bare
 ·have e : b = it := by simpa using hb
  subst e
  exact ⟨h1, hL, h2, h3⟩
 ·obtain ⟨o, es, ep, ho, r⟩ := hm
  exact ⟨o, es, ep, k _ o (Ne.symm hL) ho, r⟩
 ·refine (I.hok b u e).stay (fun c v hc q => k c v ?_ q) (fun _ q => q) fun _ _ q => q
  rcases hc with z | z
  ·rw [z]; exact nit b u e
  ·exact nit c _ z
theorem Inv.tok (I : Inv X pins σ H s) (t : Nat) : Inv X pins σ H { s with toks := t } := I.un (h' := s.heap) (t' := t) Un.refl I.hok
theorem Inv.kept {t' : Nat} (I : Inv X pins σ H s) (k : ∀ b u, s.heap.get? b = some u → h'.get? b = some u) : Inv X pins σ H { s with heap := h', toks := t' } := I.un (Un.kept k) (I.hok.kept k)
theorem Inv.laid {a : Addr} {o : HO} {t' : Nat} (I : Inv X pins σ H s) (k : ∀ b u, s.heap.get? b = some u → h'.get? b = some u) (hp : s.heap.objs.size ≤ a) (new : ObjOk X.prog X.w (upd H a o) h' a o) :
  Inv X pins σ (upd H a o) { s with heap := h', toks := t' } := I.un (Un.laid k hp (I.hok.fresh hp)) (I.hok.laid k hp new)
theorem Inv.write {x e : Addr} {o : HO} {t' : Nat} (I : Inv X pins σ H s) (mu : Mut (H x)) (he : e = x ∨ H e = some (.own x)) (k : ∀ b u, b ≠ e → s.heap.get? b = some u → h'.get? b = some u) (heo : ∃ u, h'.get? e = some u)
  (new : ObjOk X.prog X.w (upd H x o) h' x o) : Inv X pins σ (upd H x o) { s with heap := h', toks := t' } := I.un (Un.write mu he k heo) (I.hok.write mu he k heo new)
theorem Inv.pins_of {pins' : List (Addr × Obj)} (I : Inv X pins σ H s) (h : ∀ p ∈ pins', s.heap.get? p.1 = some p.2 ∧ H p.1 = none ∧ p.1 ≠ X.env.locals ∧ p.1 ∉ X.fs ∧ ∀ v, p.2.data ≠ .cell v) : Inv X pins' σ H s :=
 ⟨I.ok, I.os, I.bare, I.base, I.loc, I.cell, I.free, I.freeC, fun p hp => (List.mem_append.mp hp).elim (fun z => I.pin p (List.mem_append_left _ z)) (h p), I.hok, I.len⟩
theorem nodup_ix {N : List Str} (hN : N.Nodup) {i j : Nat} {x : Str} (a : N[i]? = some x) (b : N[j]? = some x) : i = j := by
 obtain ⟨h1, e1⟩ := List.getElem?_eq_some_iff.mp a
 obtain ⟨h2, e2⟩ := List.getElem?_eq_some_iff.mp b
 exact (List.getElem_inj hN).mp (e1.trans e2.symm)
theorem store_ok2 {M : Model} {A : Around} {E : Value → Shared → Prop} {i : Nat} {x : Str} {v : V} {u : Value} {Q : Unit → Shared → Prop} (I : Inv X pins σ H s) (hN : X.N.Nodup) (hi : X.N[i]? = some x) (hx : Loc X.env.scope x) (r : RelV v u)
  (h : ∀ s', Inv X pins (σ.set i (some v)) H s' → (∃ a, Heap.SameBut a s.heap s'.heap ∧ (a = X.env.locals ∨ X.env.cells.lookup x = some a)) → Q () s') (hf : X.fn x = true ∨ X.env.scope.names.lookup x = some .local := by first | exact .inl rfl | exact .inr rfl | assumption) : wpAny M A (storeName X.env x u) Q E s := by
 obtain ⟨m, hn, hl⟩ := id I.loc
 have hcls : (X.env.scope.kind == .class || (X.env.scope.kind == .module && X.env.locals != X.env.globals)) = false := by rw [I.ok.kind]; rfl
 have hiσ : i < σ.length := by rw [I.len]; exact (List.getElem?_eq_some_iff.mp hi).1
 have cne := I.cne
 have tracked : ∀ {a : Addr} {h' : Heap}, (∃ o, s.heap.get? a = some o ∧ H a = none) → Heap.SameBut a s.heap h' → HOk X.prog X.w H h' := fun {a h'} ha hs b ob e => by
  obtain ⟨_, _, hfree⟩ := ha
  refine (I.hok b ob e).stay (fun c w' hc q => (hs.2 c ?_).trans q) (fun _ q => q) fun _ _ q => q
  rintro rfl
  rcases hc with rfl | hc
  ·rw [hfree] at e; cases e
  ·rw [hfree] at hc; cases hc
 rcases hx with hk | hk
 ·refine wpAny_storeName_local hk hn (fun h' hn' hs => ?_) hcls
  obtain ⟨oL, _, _, hoL, _⟩ := id hn
  refine h _ ⟨I.ok, I.os, I.bare, ⟨fun b o e n hb hx => ?_, fun b o e n hb hx => ?_, I.base.free, fun b o e hx => ?_, I.base.tups, I.base.frzs, I.base.tbls⟩, ⟨_, hn', fun j y v' e1 e2 e3 => ?_⟩, fun y c e => ?_, I.free, I.freeC, fun p hp => ?_, tracked ⟨oL, hoL, I.free⟩ hs, by simpa using I.len⟩ ⟨_, hs, .inl rfl⟩
  ·exact (hs.2 b (Nat.ne_of_lt (Nat.lt_of_lt_of_le (Heap.lt_size e) I.ok.above))).trans (I.base.keep b o e n hb hx)
  ·obtain ⟨sl, e1⟩ := I.base.slot b o e n hb hx
   exact ⟨sl, (hs.2 b (Nat.ne_of_lt (Nat.lt_of_lt_of_le (Heap.lt_size e) I.ok.above))).trans e1⟩
  ·obtain ⟨o', e1⟩ := I.base.there b o e hx
   exact ⟨o', (hs.2 b (Nat.ne_of_lt (Nat.lt_of_lt_of_le (Heap.lt_size e) I.ok.above))).trans e1⟩
  ·by_cases hj : j = i
   ·subst hj
    rw [hi] at e1; cases e1
    rw [List.getElem?_set_self hiσ] at e2
    cases e2
    exact ⟨u, r, .inl ⟨hk, by simp⟩⟩
   ·rw [List.getElem?_set_ne (Ne.symm hj)] at e2
    obtain ⟨u', r', q⟩ := hl j y v' e1 e2 e3
    refine ⟨u', r', ?_⟩
    rcases q with ⟨k, e⟩ | ⟨k, c, e, z⟩
    ·refine .inl ⟨k, ?_⟩
     have : y ≠ x := fun e => hj (nodup_ix hN e1 (e ▸ hi))
     simp [this, e]
    ·exact .inr ⟨k, c, e, z.sameBut hs (cne y c e)⟩
  ·obtain ⟨w', z⟩ := I.cell y c e
   exact ⟨w', z.sameBut hs (cne y c e)⟩
  ·obtain ⟨e, n, ne, nf, d⟩ := I.pin p hp
   exact ⟨(hs.2 p.1 ne).trans e, n, ne, nf, d⟩
 ·have hfn : X.fn x = true := by
   rcases hf with z | z
   ·exact z
   ·rw [z] at hk; cases hk
  obtain ⟨c, hc⟩ := I.ok.has x (.inl hk)
  obtain ⟨w', z⟩ := I.cell x c hc
  refine wpAny_storeName_cell I.ok.kind hk hc z (fun h' hc' hs => ?_)
  obtain ⟨oc, hoc, hocd⟩ := id z
  refine h { s with heap := h' } ⟨I.ok, I.os, I.bare, ⟨fun b o e n hb hx => ?_, fun b o e n hb hx => ?_, I.base.free, fun b o e hx => ?_, I.base.tups, I.base.frzs, I.base.tbls⟩, ⟨m, hn.sameBut hs (Ne.symm (cne x c hc)), fun j y v' e1 e2 e3 => ?_⟩, fun y c' e => ?_, I.free, I.freeC, fun p hp => ?_, tracked ⟨oc, hoc, I.freeC x c hc⟩ hs, by simpa using I.len⟩ ⟨c, hs, .inr hc⟩
  ·exact (hs.2 b (Nat.ne_of_lt (Nat.lt_of_lt_of_le (Heap.lt_size e) (I.ok.cab x c hfn hc)))).trans (I.base.keep b o e n hb hx)
  ·obtain ⟨sl, e1⟩ := I.base.slot b o e n hb hx
   exact ⟨sl, (hs.2 b (Nat.ne_of_lt (Nat.lt_of_lt_of_le (Heap.lt_size e) (I.ok.cab x c hfn hc)))).trans e1⟩
  ·obtain ⟨o', e1⟩ := I.base.there b o e hx
   exact ⟨o', (hs.2 b (Nat.ne_of_lt (Nat.lt_of_lt_of_le (Heap.lt_size e) (I.ok.cab x c hfn hc)))).trans e1⟩
  ·by_cases hj : j = i
   ·subst hj
    rw [hi] at e1; cases e1
    rw [List.getElem?_set_self hiσ] at e2
    cases e2
    exact ⟨u, r, .inr ⟨.inl hk, c, hc, hc'⟩⟩
   ·rw [List.getElem?_set_ne (Ne.symm hj)] at e2
    obtain ⟨u', r', q⟩ := hl j y v' e1 e2 e3
    refine ⟨u', r', ?_⟩
    rcases q with q | ⟨k, c', e, z'⟩
    ·exact .inl q
    ·refine .inr ⟨k, c', e, z'.sameBut hs ?_⟩
     rintro rfl
     exact hj (nodup_ix hN e1 (I.ok.inj _ _ _ e hc ▸ hi))
  ·by_cases hcc : c' = c
   ·subst hcc; exact ⟨_, hc'⟩
   ·obtain ⟨w2, z2⟩ := I.cell y c' e
    exact ⟨w2, z2.sameBut hs hcc⟩
  ·obtain ⟨e, n, ne, nf, d⟩ := I.pin p hp
   refine ⟨(hs.2 p.1 ?_).trans e, n, ne, nf, d⟩
   intro q
   rw [q, hoc] at e
   have q' : oc = p.2 := Option.some.inj e
   exact d w' (by rw [← q']; exact hocd)
theorem store_ok {M : Model} {A : Around} {E : Value → Shared → Prop} {i : Nat} {x : Str} {v : V} {u : Value} {Q : Unit → Shared → Prop} (I : Inv X pins σ H s) (hN : X.N.Nodup) (hi : X.N[i]? = some x) (hx : Loc X.env.scope x) (r : RelV v u)
  (h : ∀ s', Inv X pins (σ.set i (some v)) H s' → Q () s') (hf : X.fn x = true ∨ X.env.scope.names.lookup x = some .local := by first | exact .inl rfl | exact .inr rfl | assumption) : wpAny M A (storeName X.env x u) Q E s :=
 store_ok2 I hN hi hx r (fun s' I' _ => h s' I') hf
theorem Inv.call' {s' : Shared} {ch : List Addr} (I : Inv X pins σ H s) (ho : s'.os = s.os) (u : Un (frs X.stack) ch H H' s.heap s'.heap) (hok : HOk X.prog X.w H' s'.heap) (hg : AllBare s'.gens)
  (hch : ∀ b ∈ ch, (b ∈ X.ex ∨ X.s₀.heap.objs.size ≤ b) ∧ b ≠ X.env.locals ∧ (∀ x c, X.env.cells.lookup x = some c → c ≠ b) ∧ ∀ p ∈ X.pn ++ pins, p.1 ≠ b) : Inv X pins σ H' s' := by
 obtain ⟨h', g', d', t', o'⟩ := s'
 have e : o' = s.os := ho
 subst e
 exact I.call (g' := g') (t' := t') (d' := d') u hok hg hch
end
abbrev XK := Value → Option Addr → Hp → Prop
abbrev St := List (Option V)
abbrev VK := V → Hp → Prop
abbrev TE := St → Hp → VK → Prop
abbrev TT := St → Hp → (Bool → Hp → Prop) → Prop
abbrev TA := St → Hp → (List V → Hp → Prop) → Prop
structure Ends where
 nx : St → Hp → Prop
 rt : VK
 bk : St → Hp → Prop := fun _ _ => False
 ct : St → Hp → Prop := fun _ _ => False
abbrev TS := Ends → St → Hp → Prop
def EP (X : Cx) (pins : List (Addr × Obj)) (σ : St) (Q : VK) (u : Value) (s' : Shared) : Prop := ∃ v H', Inv X pins σ H' s' ∧ RelV v u ∧ Q v H'
def TP (X : Cx) (pins : List (Addr × Obj)) (σ : St) (Q : Bool → Hp → Prop) (b : Bool) (s' : Shared) : Prop := ∃ H', Inv X pins σ H' s' ∧ Q b H'
def AP (X : Cx) (pins : List (Addr × Obj)) (σ : St) (Q : List V → Hp → Prop) (us : List Value) (s' : Shared) : Prop := ∃ vs H', Inv X pins σ H' s' ∧ Vals vs us ∧ Q vs H'
def SP (X : Cx) (pins : List (Addr × Obj)) (D : Ends) (f : Flow) (s' : Shared) : Prop :=
 match f with
 | .next => ∃ σ' H', Inv X pins σ' H' s' ∧ D.nx σ' H'
 | .brk => ∃ σ' H', Inv X pins σ' H' s' ∧ D.bk σ' H'
 | .cont => ∃ σ' H', Inv X pins σ' H' s' ∧ D.ct σ' H'
 | .ret u => ∃ v σ' H', Inv X pins σ' H' s' ∧ RelV v u ∧ D.rt v H'
def PE (X : Cx) (e : Expr) (t : TE) : Prop :=
 ∀ (pins : List (Addr × Obj)) (s : Shared) (σ : St) (H : Hp) (Q : VK), Inv X pins σ H s → t σ H Q → wpAny (model X.prog X.w) X.A (eval e X.env) (EP X pins σ Q) X.xe s
def PT (X : Cx) (e : Expr) (t : TT) : Prop :=
 ∀ (pins : List (Addr × Obj)) (s : Shared) (σ : St) (H : Hp) (Q : Bool → Hp → Prop), Inv X pins σ H s → t σ H Q → wpAny (model X.prog X.w) X.A (isTrue e X.env (eval e X.env)) (TP X pins σ Q) X.xe s
def PW (X : Cx) (e : Expr) (t : TT) : Prop :=
 ∀ (whole : Sem Value) (pins : List (Addr × Obj)) (s : Shared) (σ : St) (H : Hp) (Q : Bool → Hp → Prop), Inv X pins σ H s → t σ H Q → wpAny (model X.prog X.w) X.A (isTrue e X.env whole) (TP X pins σ Q) X.xe s
theorem PW.pt {X : Cx} {e : Expr} {t : TT} (h : PW X e t) : PT X e t := h _
def PA (X : Cx) (es : List Expr) (t : TA) : Prop :=
 ∀ (pos : Pos) (pins : List (Addr × Obj)) (s : Shared) (σ : St) (H : Hp) (Q : List V → Hp → Prop), Inv X pins σ H s → t σ H Q → wpAny (model X.prog X.w) X.A (spliced (backTo pos (starEach es X.env))) (AP X pins σ Q) X.xe s
def PS (X : Cx) (st : Stmt) (t : TS) : Prop :=
 ∀ (pins : List (Addr × Obj)) (s : Shared) (σ : St) (H : Hp) (D : Ends), Inv X pins σ H s → t D σ H → wpAny (model X.prog X.w) X.A (exec st X.env) (SP X pins D) X.xe s
def PSs (X : Cx) (st : List Stmt) (t : TS) : Prop :=
 ∀ (pins : List (Addr × Obj)) (s : Shared) (σ : St) (H : Hp) (D : Ends), Inv X pins σ H s → t D σ H → wpAny (model X.prog X.w) X.A (execs st X.env) (SP X pins D) X.xe s
theorem thn {α : Type} {t : Sem α} {Q Q' : α → Shared → Prop} {M : Model} {A : Around} {E : Value → Shared → Prop} {s : Shared} (h : wpAny M A t Q E s) (hQ : ∀ a s, Q a s → Q' a s) : wpAny M A t Q' E s := wpAny_mono h hQ fun _ _ x => x
end L2
namespace L2
open PySem PySem.Spec PyProof.Rows
section
variable {X : Cx}
def tVar (i : Nat) : TE := fun σ H Q => ∃ v, σ[i]? = some (some v) ∧ Q v H
def tC (v : V) : TE := fun _ H Q => Q v H
theorem pe_var {i : Nat} {x : Str} {pos : Pos} (hN : X.N[i]? = some x) (hv : Vis X.env.scope x) (hd : (x == ("__debug__" : Str)) = false := by decide) (hcd : (x == ("__classdict__" : Str)) = false := by decide) : PE X (.Name x pos) (tVar i) := by
 intro pins s σ H Q I h
 obtain ⟨v, e, h⟩ := h
 obtain ⟨m, hn, hl⟩ := I.loc
 obtain ⟨u, r, l⟩ := hl i x v hN e hv
 have fin : EP X pins σ Q u s := ⟨v, H, I, r, h⟩
 rcases l with ⟨hk, hm⟩ | ⟨hk, c, hc, hcell⟩
 ·exact wpAny_Name (wpAny_loadName_local I.ok.kind hk hn hm fin) hd
 ·rcases hk with hk | hk
  ·exact wpAny_Name (wpAny_loadName_cell I.ok.kind hk hc hcell fin) hd
  ·exact wpAny_Name (wpAny_loadName_free I.ok.kind hk hc hcell fin hcd) hd
theorem pe_int {i j pos} : PE X (.Constant (.int i) j pos) (tC (.int i)) := fun _ _ _ H _ I h => wpAny_Constant_int ⟨.int i, H, I.tok _, ⟨_, rfl⟩, h⟩
theorem pe_bl {b j pos} : PE X (.Constant (.bool b) j pos) (tC (.bl b)) := fun _ _ _ H _ I h => Constant_bool ⟨.bl b, H, I, rfl, h⟩
theorem pe_non {j pos} : PE X (.Constant .none j pos) (tC .non) := fun _ _ _ H _ I h => Constant_none ⟨.non, H, I, rfl, h⟩
theorem pe_str {x j pos} : PE X (.Constant (.str x) j pos) (tC (.str x)) := fun _ _ _ H _ I h => Calls.Constant_str ⟨.str x, H, I.tok _, ⟨_, rfl⟩, h⟩
def Gl (X : Cx) (x : Str) : Prop := X.env.kindOf x = some .globalImplicit
theorem ld_glob {E : Value → Shared → Prop} {pins : List (Addr × Obj)} {s : Shared} {σ : St} {H : Hp} {x : Str} {u : Value} {pos : Pos} {Q : Value → Shared → Prop} (I : Inv X pins σ H s) (hg : Gl X x) (hm : X.mg x = some u) (h : Q u s)
  (hd : (x == ("__debug__" : Str)) = false := by decide) : wpAny (model X.prog X.w) X.A (eval (.Name x pos) X.env) Q E s :=
 Calls.Name_function_global I.ok.kind hg (Calls.loadGlobal_global (by rw [I.ok.glob]; exact I.mod.glob.keeps I.bk) hm h) hd
theorem ld_blt {E : Value → Shared → Prop} {pins : List (Addr × Obj)} {s : Shared} {σ : St} {H : Hp} {x : Str} {u : Value} {pos : Pos} {Q : Value → Shared → Prop} (I : Inv X pins σ H s) (hg : Gl X x) (hm : X.mg x = none) (hv : bootBuiltins x = some u) (h : Q u s)
  (hn : x ≠ "__name__" := by decide) (hd : (x == ("__debug__" : Str)) = false := by decide) : wpAny (model X.prog X.w) X.A (eval (.Name x pos) X.env) Q E s := by
 obtain ⟨mb, h1, h2⟩ := I.mod.blt
 exact Calls.Name_function_global I.ok.kind hg (Calls.loadGlobal_builtin (by rw [I.ok.glob]; exact I.mod.glob.keeps I.bk) hm (by rw [I.ok.blt]; exact h1.keeps I.bk) ((h2 x hn).trans hv) h) hd
theorem pe_glob {x : Str} {v : V} {u : Value} {pos : Pos} (hg : Gl X x) (hm : X.mg x = some u) (r : RelV v u) (hd : (x == ("__debug__" : Str)) = false := by decide) : PE X (.Name x pos) (tC v) :=
 fun _ _ _ H _ I h => ld_glob I hg hm ⟨v, H, I, r, h⟩ hd
theorem pe_bltn {x : Str} {v : V} {u : Value} {pos : Pos} (hg : Gl X x) (hm : X.mg x = none) (hv : bootBuiltins x = some u) (r : RelV v u) (hn : x ≠ "__name__" := by decide) (hd : (x == ("__debug__" : Str)) = false := by decide) : PE X (.Name x pos) (tC v) :=
 fun _ _ _ H _ I h => ld_blt I hg hm hv ⟨v, H, I, r, h⟩ hn hd
variable {a b : Expr} {ta tb : TE} {pos : Pos}
def PC (X : Cx) (op : CmpOp) (a b : Expr) (t : TE) : Prop :=
 ∀ (pins : List (Addr × Obj)) (s : Shared) (σ : St) (H : Hp) (Q : VK), Inv X pins σ H s → t σ H Q →
  wpAny (model X.prog X.w) X.A (eval a X.env) (fun v s₁ => wpAny (model X.prog X.w) X.A (eval b X.env) (fun u s₂ => wpAny (model X.prog X.w) X.A (compareOp op v u) (EP X pins σ Q) X.xe s₂) X.xe s₁) X.xe s
theorem nobehind (b : Expr) {op : CmpOp} (h : op ≠ .In) (h2 : op ≠ .NotIn) : behindInMarks op b = false := by
 have e1 : (op == CmpOp.In) = false := by cases op <;> first | rfl | exact absurd rfl h
 have e2 : (op == CmpOp.NotIn) = false := by cases op <;> first | rfl | exact absurd rfl h2
 cases b <;> simp [behindInMarks, e1, e2]
def tB (t : TE) : TT := fun σ H Q => t σ H fun x H1 => ∃ c, x = .bl c ∧ Q c H1
theorem pt_cmp {op : CmpOp} {t : TE} (h : PC X op a b t) (h1 : behindInMarks op b = false := by first | exact nobehind _ (by decide) (by decide) | rfl) : PT X (.Compare a [op] [b] pos) (tB t) := by
 intro pins s σ H Q I hw
 refine wpAny_isTrue_Compare1 (thn (h pins s σ H _ I hw) fun v s1 h1 => thn h1 fun u s2 h2 => thn h2 fun c s3 ⟨x, H1, I1, r1, q1⟩ => ?_) h1
 obtain ⟨d, rfl, q⟩ := q1
 cases r1
 exact wpAny_truthy_bool ⟨H1, I1, q⟩
theorem pt_val {e : Expr} {t : TE} (h : PE X e t) (he : ∀ whole, isTrue e X.env whole = (do let v ← whole; standAt e.pos; holding [v] (truthy v)) := by intro _; rfl) : PT X e (tB t) := by
 intro pins s σ H Q I hw
 refine isTrue_plain (thn (h pins s σ H _ I hw) fun v s1 ⟨x, H1, I1, r1, q1⟩ => ?_) (he _)
 obtain ⟨d, rfl, q⟩ := q1
 cases r1
 exact wpAny_truthy_bool ⟨H1, I1, q⟩
variable {tA tB' : TT} {rest : List Expr}
def tAnd (t u : TT) : TT := fun σ H Q => t σ H fun c H1 => if c = true then u σ H1 Q else Q false H1
def tOr (t u : TT) : TT := fun σ H Q => t σ H fun c H1 => if c = true then Q true H1 else u σ H1 Q
def tNot (t : TT) : TT := fun σ H Q => t σ H fun c H1 => Q (!c) H1
theorem pw_and1 (ha : PT X a tA) : PW X (.BoolOp .And [a] pos) tA := by
 intro wh pins s σ H Q I h
 refine isTrue_and (thn (ha pins s σ H Q I h) fun c s1 e => ?_)
 cases c with
 | true => exact isTrue_and_nil e
 | false => exact e
theorem pw_or1 (ha : PT X a tA) : PW X (.BoolOp .Or [a] pos) tA := by
 intro wh pins s σ H Q I h
 refine isTrue_or (thn (ha pins s σ H Q I h) fun c s1 e => ?_)
 cases c with
 | false => exact isTrue_or_nil e
 | true => exact e
theorem pw_and (ha : PT X a tA) (hb : PW X (.BoolOp .And (b :: rest) pos) tB') : PW X (.BoolOp .And (a :: b :: rest) pos) (tAnd tA tB') := by
 intro wh pins s σ H Q I h
 refine isTrue_and (thn (ha pins s σ H _ I h) fun c s1 ⟨H1, I1, q1⟩ => ?_)
 cases c with
 | true => exact hb wh pins s1 σ H1 Q I1 q1
 | false => exact ⟨H1, I1, q1⟩
theorem pw_or (ha : PT X a tA) (hb : PW X (.BoolOp .Or (b :: rest) pos) tB') : PW X (.BoolOp .Or (a :: b :: rest) pos) (tOr tA tB') := by
 intro wh pins s σ H Q I h
 refine isTrue_or (thn (ha pins s σ H _ I h) fun c s1 ⟨H1, I1, q1⟩ => ?_)
 cases c with
 | true => exact ⟨H1, I1, q1⟩
 | false => exact hb wh pins s1 σ H1 Q I1 q1
theorem pt_not (ha : PT X a tA) : PT X (.UnaryOp .Not a pos) (tNot tA) := by
 intro pins s σ H Q I h
 exact isTrue_not (ha pins s σ H (fun c H1 => Q (!c) H1) I h)
def tAndV (ta tb : TE) : TE := fun σ H Q => ta σ H fun x H1 => ∃ c, x = .bl c ∧ if c = true then tb σ H1 Q else Q (.bl false) H1
def tOrV (ta tb : TE) : TE := fun σ H Q => ta σ H fun x H1 => ∃ c, x = .bl c ∧ if c = true then Q (.bl true) H1 else tb σ H1 Q
def tNotV (ta : TE) : TE := fun σ H Q => ta σ H fun x H1 => ∃ c, x = .bl c ∧ Q (.bl (!c)) H1
theorem pe_one {op} {t : TE} (h : PE X a t) : PE X (.BoolOp op [a] pos) t := fun pins s σ H Q I hw => BoolOp_one (h pins s σ H Q I hw)
theorem pe_and (ha : PE X a ta) (hb : PE X (.BoolOp .And (b :: rest) pos) tb) : PE X (.BoolOp .And (a :: b :: rest) pos) (tAndV ta tb) := by
 intro pins s σ H Q I h
 refine BoolOp_and (thn (ha pins s σ H _ I h) fun v s1 ⟨x, H1, I1, r1, q1⟩ => ?_)
 obtain ⟨c, rfl, q1⟩ := q1
 cases r1
 refine wpAny_truthy_bool ?_
 cases c with
 | true => exact hb pins s1 σ H1 Q I1 q1
 | false => exact ⟨.bl false, H1, I1, rfl, q1⟩
theorem pe_or (ha : PE X a ta) (hb : PE X (.BoolOp .Or (b :: rest) pos) tb) : PE X (.BoolOp .Or (a :: b :: rest) pos) (tOrV ta tb) := by
 intro pins s σ H Q I h
 refine BoolOp_or (thn (ha pins s σ H _ I h) fun v s1 ⟨x, H1, I1, r1, q1⟩ => ?_)
 obtain ⟨c, rfl, q1⟩ := q1
 cases r1
 refine wpAny_truthy_bool ?_
 cases c with
 | false => exact hb pins s1 σ H1 Q I1 q1
 | true => exact ⟨.bl true, H1, I1, rfl, q1⟩
theorem pe_not (ha : PE X a ta) : PE X (.UnaryOp .Not a pos) (tNotV ta) := by
 intro pins s σ H Q I h
 refine UnaryOp_ (thn (ha pins s σ H _ I h) fun v s1 ⟨x, H1, I1, r1, q1⟩ => ?_)
 obtain ⟨c, rfl, q1⟩ := q1
 cases r1
 exact not_of (wpAny_truthy_bool ⟨.bl (!c), H1, I1, rfl, q1⟩)
def tIf (t : TT) (ta tb : TE) : TE := fun σ H Q => t σ H fun c H1 => if c = true then ta σ H1 Q else tb σ H1 Q
theorem pe_ifExp {c : Expr} (hc : PT X c tA) (ha : PE X a ta) (hb : PE X b tb) : PE X (.IfExp c a b pos) (tIf tA ta tb) := by
 intro pins s σ H Q I h
 refine wpAny_IfExp (thn (hc pins s σ H _ I h) fun d s1 ⟨H1, I1, q1⟩ => ?_)
 cases d with
 | true => exact ha pins s1 σ H1 Q I1 q1
 | false => exact hb pins s1 σ H1 Q I1 q1
end
end L2
namespace L2
open PySem PySem.Spec PyProof.Rows
def SqL (K : PySem.W.Frag) (H : Hp) (a : Addr) (xs : List V) : Prop :=
 Rd H a (.lst xs) ∨
  ∃ (o : Obj) (its : Array Value) (n : Nat), K.lookup a = some o ∧ o.cls = .type "list" ∧ o.dict = none ∧ o.data = .seq its n ∧ its.size ≤ sizeLine ∧ Vals xs its.toList
def SqT (K : PySem.W.Frag) (H : Hp) (a : Addr) (xs : List V) : Prop :=
 Rd H a (.tup xs) ∨
  ∃ (o : Obj) (its : Array Value) (n : Nat), K.lookup a = some o ∧ o.cls = .type "tuple" ∧ o.data = .seq its n ∧ its.size ≤ sizeLine ∧ Vals xs its.toList
def absV : Value → Option V
 | .none => some .non
 | .bool b => some (.bl b)
 | .int i _ => some (.int i)
 | .str x _ => some (.str x)
 | .bytes b _ => some (.byt b)
 | .float b _ => some (.flt b)
 | .ref a => some (.ref a)
 | .type n => some (.ty n)
 | _ => none
theorem RelV.abs {x : V} {u : Value} (r : RelV x u) : absV u = some x := by
 cases x with
 | non => cases r; rfl
 | bl _ => cases r; rfl
 | int _ => obtain ⟨t, rfl⟩ := r; rfl
 | str _ => obtain ⟨t, rfl⟩ := r; rfl
 | byt _ => obtain ⟨t, rfl⟩ := r; rfl
 | flt _ => obtain ⟨t, rfl⟩ := r; rfl
 | ref _ => cases r; rfl
 | ty _ => cases r; rfl
theorem RelV.inj {x y : V} {u : Value} (r : RelV x u) (q : RelV y u) : x = y := Option.some.inj (r.abs.symm.trans q.abs)
theorem Vals.inj : ∀ {xs ys : List V} {us : List Value}, Vals xs us → Vals ys us → xs = ys
 | _, _, _, .nil, .nil => rfl
 | _, _, _, .cons r t, .cons r' t' => by rw [r.inj r', Vals.inj t t']
section
variable {X : Cx} {pins : List (Addr × Obj)} {σ : St} {H : Hp} {s : Shared} {a : Addr} {xs ys : List V}
theorem SqL.of {K : PySem.W.Frag} (h : H a = some (.lst xs)) : SqL K H a xs := .inl (.inl h)
theorem SqT.of {K : PySem.W.Frag} (h : H a = some (.tup xs)) : SqT K H a xs := .inl (.inl h)
theorem Inv.list (I : Inv X pins σ H s) (h : SqL X.K H a xs) : ∃ its : List Value, Vals xs its ∧ PlainL s.heap a its.toArray ∧ xs.length ≤ sizeLine := by
 rcases h with h | ⟨o, its, n, hk, hc, hd, hs, hz, r⟩
 ·obtain ⟨z, its, n, r, e⟩ := h.ok I.hok
  exact ⟨its, r, ⟨_, n, e, rfl, rfl, rfl⟩, z⟩
 ·refine ⟨its.toList, r, ⟨o, n, I.kIn a o hk, hc, hd, by simpa using hs⟩, ?_⟩
  have e := r.length
  simp only [Array.length_toList] at e
  omega
theorem Inv.tuple (I : Inv X pins σ H s) (h : SqT X.K H a xs) : ∃ its : List Value, Vals xs its ∧ IsTup s.heap a its.toArray ∧ xs.length ≤ sizeLine := by
 rcases h with h | ⟨o, its, n, hk, hc, hs, hz, r⟩
 ·obtain ⟨z, its, r, p⟩ := h.ok I.hok
  exact ⟨its, r, p, z⟩
 ·refine ⟨its.toList, r, ⟨o, I.kIn a o hk, hc, n, by simpa using hs⟩, ?_⟩
  have e := r.length
  simp only [Array.length_toList] at e
  omega
theorem Inv.list_inj (I : Inv X pins σ H s) (h : SqL X.K H a xs) (h' : SqL X.K H a ys) : xs = ys := by
 obtain ⟨its, r, ⟨o, n, e, _, _, d⟩, _⟩ := I.list h
 obtain ⟨its', r', ⟨o', n', e', _, _, d'⟩, _⟩ := I.list h'
 rw [e] at e'; cases e'
 rw [d] at d'
 injection d' with d1 _
 have : its = its' := by simpa using congrArg Array.toList d1
 subst this
 exact r.inj r'
theorem Inv.tuple_inj (I : Inv X pins σ H s) (h : SqT X.K H a xs) (h' : SqT X.K H a ys) : xs = ys := by
 obtain ⟨its, r, ⟨o, e, _, n, d⟩, _⟩ := I.tuple h
 obtain ⟨its', r', ⟨o', e', _, n', d'⟩, _⟩ := I.tuple h'
 rw [e] at e'; cases e'
 rw [d] at d'
 injection d' with d1 _
 have : its = its' := by simpa using congrArg Array.toList d1
 subst this
 exact r.inj r'
end
abbrev Cx.wish (X : Cx) (E : Value → Shared → Prop) : Cx := { X with xe := E }
abbrev Cx.nox (X : Cx) : Cx := X.wish fun _ _ => False
theorem Cx.Ok.wish {X : Cx} (ok : X.Ok) (E : Value → Shared → Prop) : (X.wish E).Ok :=
 ⟨ok.mod, ok.kind, ok.glob, ok.blt, ok.above, ok.inj, ok.has, ok.cab, ok.hd, ok.frames, ok.stk, ok.exf, ok.bs, ok.bsz, ok.noex, ok.exfs, ok.funs, ok.frf⟩
theorem Cx.Ok.unwish {X : Cx} {E : Value → Shared → Prop} (ok : (X.wish E).Ok) : X.Ok :=
 ⟨ok.mod, ok.kind, ok.glob, ok.blt, ok.above, ok.inj, ok.has, ok.cab, ok.hd, ok.frames, ok.stk, ok.exf, ok.bs, ok.bsz, ok.noex, ok.exfs, ok.funs, ok.frf⟩
section
variable {X : Cx} {pins : List (Addr × Obj)} {σ : St} {H : Hp} {s : Shared} {E : Value → Shared → Prop}
theorem Inv.wish (I : Inv X pins σ H s) (E : Value → Shared → Prop) : Inv (X.wish E) pins σ H s := ⟨I.ok.wish E, I.os, I.bare, I.base, I.loc, I.cell, I.free, I.freeC, I.pin, I.hok, I.len⟩
theorem Inv.unwish (I : Inv (X.wish E) pins σ H s) : Inv X pins σ H s := ⟨I.ok.unwish, I.os, I.bare, I.base, I.loc, I.cell, I.free, I.freeC, I.pin, I.hok, I.len⟩
theorem SP.unwish {D : Ends} {f : Flow} {s' : Shared} (h : SP (X.wish E) pins D f s') : SP X pins D f s' := by
 cases f with
 | next => obtain ⟨σ', H', I, q⟩ := h; exact ⟨σ', H', I.unwish, q⟩
 | brk => obtain ⟨σ', H', I, q⟩ := h; exact ⟨σ', H', I.unwish, q⟩
 | cont => obtain ⟨σ', H', I, q⟩ := h; exact ⟨σ', H', I.unwish, q⟩
 | ret u => obtain ⟨v, σ', H', I, r, q⟩ := h; exact ⟨v, σ', H', I.unwish, r, q⟩
theorem PSs.nox {st : List Stmt} {t : TS} (h : PSs X.nox st t) : PSs X st t := fun pins s σ H D I hw =>
 wpAny_mono (h pins s σ H D (I.wish _) hw) (fun _ _ q => q.unwish) fun _ _ z => False.elim z
end
section
variable {X : Cx} {st : Stmt} {rest : List Stmt} {t u : TS} {e : Expr} {te : TE} {pos : Pos}
def tNext : TS := fun D σ H => D.nx σ H
def tSeq (t u : TS) : TS := fun D σ H => t { D with nx := u D } σ H
theorem pss_nil : PSs X [] tNext := fun _ _ σ H _ I h => wpAny_execs_nil ⟨σ, H, I, h⟩
theorem pss_cons (h1 : PS X st t) (h2 : PSs X rest u) : PSs X (st :: rest) (tSeq t u) := by
 intro pins s σ H D I h
 refine wpAny_execs_cons (thn (h1 pins s σ H { D with nx := u D } I h) fun f s1 q => ?_)
 cases f with
 | next =>
  obtain ⟨σ', H', I', q⟩ := q
  exact h2 pins s1 σ' H' D I' q
 | ret v => exact q
 | brk => exact q
 | cont => exact q
theorem pss_one (h1 : PS X st t) : PSs X [st] t := by
 intro pins s σ H D I h
 refine wpAny_execs_cons (thn (h1 pins s σ H D I h) fun f s1 q => ?_)
 cases f with
 | next => exact wpAny_execs_nil q
 | ret v => exact q
 | brk => exact q
 | cont => exact q
theorem Inv.quiet {pins : List (Addr × Obj)} {σ : St} {H : Hp} {s : Shared} (I : Inv X pins σ H s) : interactive X.env = false := by simp [interactive, I.ok.kind]
def tDrop (te : TE) : TS := fun D σ H => te σ H fun _ H1 => D.nx σ H1
theorem ps_expr (he : PE X e te) (hs : swapsWith e none pos.line X.env = pure false := by rfl) : PS X (.Expr e pos) (tDrop te) := by
 intro pins s σ H D I h
 exact wpAny_Expr_any (thn (he pins s σ H _ I h) fun v s1 ⟨x, H1, I1, r1, q1⟩ => ⟨σ, H1, I1, q1⟩) I.quiet hs
def tRet (te : TE) : TS := fun D σ H => te σ H D.rt
theorem ps_ret (he : PE X e te) : PS X (.Return (some e) pos) (tRet te) := by
 intro pins s σ H D I h
 exact wpAny_Return_some (thn (he pins s σ H _ I h) fun v s1 ⟨x, H1, I1, r1, q1⟩ => ⟨x, σ, H1, I1, r1, q1⟩)
def tRetN : TS := fun D _ H => D.rt .non H
def tIfS (c : TT) (t u : TS) : TS := fun D σ H => c σ H fun b H1 => if b = true then t D σ H1 else u D σ H1
theorem ps_if {c : Expr} {a b : List Stmt} {tc : TT} (hc : PT X c tc) (ha : PSs X a t) (hb : PSs X b u) : PS X (.If c a b pos) (tIfS tc t u) := by
 intro pins s σ H D I h
 refine wpAny_If (thn (hc pins s σ H _ I h) fun d s1 ⟨H1, I1, q1⟩ => ?_)
 cases d with
 | true => exact ha pins s1 σ H1 D I1 q1
 | false => exact hb pins s1 σ H1 D I1 q1
end
abbrev TG := V → St → Hp → (St → Hp → Prop) → Prop
abbrev TGs := List V → St → Hp → (St → Hp → Prop) → Prop
def PG (X : Cx) (target : Expr) (t : TG) : Prop :=
 ∀ (pins : List (Addr × Obj)) (s : Shared) (σ : St) (H : Hp) (v : V) (u : Value) (Q : St → Hp → Prop), Inv X pins σ H s → RelV v u → t v σ H Q →
  wpAny (model X.prog X.w) X.A (assign target X.env u) (fun _ s' => ∃ σ' H', Inv X pins σ' H' s' ∧ Q σ' H') X.xe s
def PGs (X : Cx) (ts : List Expr) (t : TGs) : Prop :=
 ∀ (pins : List (Addr × Obj)) (s : Shared) (σ : St) (H : Hp) (vs : List V) (us : List Value) (Q : St → Hp → Prop), Inv X pins σ H s → Vals vs us → t vs σ H Q →
  wpAny (model X.prog X.w) X.A (assignInOrder ((assignEach ts X.env).map (·.2)) us) (fun _ s' => ∃ σ' H', Inv X pins σ' H' s' ∧ Q σ' H') X.xe s
section
variable {X : Cx} {pos : Pos}
def gName (i : Nat) : TG := fun v σ H Q => Q (σ.set i (some v)) H
theorem pg_name {i : Nat} {x : Str} (hN : X.N.Nodup) (hi : X.N[i]? = some x) (hx : Loc X.env.scope x) (hf : X.fn x = true ∨ X.env.scope.names.lookup x = some .local := by first | exact .inl rfl | exact .inr rfl | assumption) : PG X (.Name x pos) (gName i) := by
 intro pins s σ H v u Q I r h
 exact wpAny_assign_Name (store_ok I hN hi hx r (fun s' I' => ⟨_, H, I', h⟩) hf)
def gNil : TGs := fun vs σ H Q => vs = [] ∧ Q σ H
def gCons (t : TG) (u : TGs) : TGs := fun vs σ H Q => ∃ v r, vs = v :: r ∧ t v σ H fun σ' H' => u r σ' H' Q
theorem pgs_nil : PGs X [] gNil := by
 intro pins s σ H vs us Q I r h
 obtain ⟨e, h⟩ := h
 subst e
 cases r
 exact assignInOrder_nil ⟨σ, H, I, h⟩
theorem pgs_cons {e : Expr} {es : List Expr} {t : TG} {u : TGs} (h1 : PG X e t) (h2 : PGs X es u)
  (hs : (assignEach (e :: es) X.env).map (·.2) = assign e X.env :: (assignEach es X.env).map (·.2) := by rfl) : PGs X (e :: es) (gCons t u) := by
 intro pins s σ H vs us Q I r h
 obtain ⟨v, vr, e1, h⟩ := h
 subst e1
 cases r with
 | cons r rr =>
  rw [hs]
  refine assignInOrder_cons (thn (h1 pins s σ H _ _ _ I r h) fun _ s1 ⟨σ1, H1, I1, q1⟩ => ?_)
  exact h2 pins s1 σ1 H1 _ _ Q I1 rr q1
def gTup (K : PySem.W.Frag) (n : Nat) (t : TGs) : TG := fun v σ H Q => ∃ a xs, v = .ref a ∧ SqT K H a xs ∧ xs.length = n ∧ t xs σ H Q
theorem pg_tup {es : List Expr} {k : Nat} {t : TGs} {n : Nat} (hc : X.calm = true) (h : PGs X es t)
  (hn : (assignEach es X.env).length = n := by rfl) (hst : (assignEach es X.env).findIdx? (·.1) = none := by rfl) : PG X (.Tuple es k pos) (gTup X.K n t) := by
 intro pins s σ H v u Q I r hw
 obtain ⟨a, xs, e1, hq, hl, hw⟩ := hw
 subst e1
 cases r
 obtain ⟨its, rv, ht, hz⟩ := I.tuple hq
 refine assign_Tuple_tuple (I.ok.hd hc) ht (by simp [hn, ← hl, rv.length]) hst fun h' hx => ?_
 have I1 : Inv X pins σ H { s with heap := h' } := I.kept (t' := s.toks) fun b o e => hx b o (Nat.ne_of_lt (Heap.lt_size e)) e
 exact h pins _ σ H xs _ Q I1 (by simpa using rv) hw
def tAsg (te : TE) (g : TG) : TS := fun D σ H => te σ H fun x H1 => g x σ H1 D.nx
theorem ps_asg {tg e : Expr} {te : TE} {g : TG} (he : PE X e te) (hg : PG X tg g) (hs : swapsWithSole [tg] e pos.line X.env = pure false := by rfl) (hw : swappedStores [tg] e X.env = pure none := by rfl)
  (h1 : (assignEach [tg] X.env).map (·.2) = [assign tg X.env] := by rfl) : PS X (.Assign [tg] e pos) (tAsg te g) := by
 intro pins s σ H D I h
 refine wpAny_Assign_stores (thn (he pins s σ H _ I h) fun v s1 ⟨x, H1, I1, r1, q1⟩ => ?_) hs hw
 rw [h1]
 exact thn (hg pins s1 σ H1 x v _ I1 r1 q1) fun _ s2 q => q
theorem ps_set {i : Nat} {x : Str} {e : Expr} {te : TE} {pos' : Pos} (hN : X.N.Nodup) (hi : X.N[i]? = some x) (hx : Loc X.env.scope x) (he : PE X e te) (hs : swapsWith e (some (.Name x pos')) pos.line X.env = pure false := by rfl) (hf : X.fn x = true ∨ X.env.scope.names.lookup x = some .local := by first | exact .inl rfl | exact .inr rfl | assumption) :
  PS X (.Assign [.Name x pos'] e pos) (tAsg te (gName i)) := by
 intro pins s σ H D I h
 refine wpAny_Assign_Name (thn (he pins s σ H _ I h) fun v s1 ⟨y, H1, I1, r1, q1⟩ => ?_) hs
 exact store_ok I1 hN hi hx r1 (fun s2 I2 => ⟨_, H1, I2, q1⟩) hf
end
section
variable {X : Cx} {pos : Pos}
def tWhile (c : TT) (tb : TS) : TS := fun D σ H => ∃ W : Nat → St → Hp → Prop, (∃ m, W m σ H) ∧ ∀ m σ H, W m σ H →
 c σ H fun b H1 => if b = true then ∃ N : St → Hp → Prop, (∀ σ' H', N σ' H' → ∃ m', m' < m ∧ W m' σ' H') ∧ tb { D with nx := N, ct := N, bk := D.nx } σ H1 else D.nx σ H1
theorem ps_while {c : Expr} {body : List Stmt} {tc : TT} {tb : TS} (hp : PassesOwn (model X.prog X.w) X.A X.env X.xe) (hc : PT X c tc) (hb : PSs X body tb) : PS X (.While c body [] pos) (tWhile tc tb) := by
 intro pins s σ H D I h
 obtain ⟨W, ⟨m0, w0⟩, turn⟩ := h
 refine wpAny_While (codeAny_whileLoop (fun n s' => ∃ σ' H', Inv X pins σ' H' s' ∧ W n σ' H') ?_ m0 ⟨σ, H, I, w0⟩)
 rintro n s1 ⟨σ1, H1, I1, w1⟩
 refine wpAny_passesOwn hp (thn (hc pins s1 σ1 H1 _ I1 (turn n σ1 H1 w1)) fun b s2 ⟨H2, I2, q2⟩ => ?_)
 cases b with
 | true =>
  obtain ⟨N, hN, q2⟩ := q2
  rw [if_pos rfl]
  refine wpAny_passesOwn hp (thn (hb pins s2 σ1 H2 _ I2 q2) fun f s3 q3 => ?_)
  cases f with
  | next =>
   obtain ⟨σ3, H3, I3, n3⟩ := q3
   obtain ⟨m', hm, w3⟩ := hN σ3 H3 n3
   exact ⟨m', hm, σ3, H3, I3, w3⟩
  | cont =>
   obtain ⟨σ3, H3, I3, n3⟩ := q3
   obtain ⟨m', hm, w3⟩ := hN σ3 H3 n3
   exact ⟨m', hm, σ3, H3, I3, w3⟩
  | brk => exact q3
  | ret v => exact q3
 | false =>
  rw [if_neg Bool.false_ne_true]
  exact wpAny_execs_nil ⟨σ1, H2, I2, q2⟩
end
structure It where
 go : Nat → Hp → Prop
 yld : Nat → Hp → V → Hp → Prop
 stop : Nat → Hp → Prop
def FpOk (X : Cx) (pins : List (Addr × Obj)) (H : Hp) (b : Addr) : Prop :=
 H b = none ∧ b ≠ X.env.locals ∧ b ∉ X.fs ∧ (b ∈ X.ex ∨ X.s₀.heap.objs.size ≤ b) ∧ (∀ x c, X.env.cells.lookup x = some c → c ≠ b) ∧ ∀ p ∈ X.pn ++ pins, p.1 ≠ b
theorem Inv.fpOk {X : Cx} {pins : List (Addr × Obj)} {σ : St} {H H' : Hp} {s : Shared} {b : Addr} (I : Inv X pins σ H s) (hb : s.heap.objs.size ≤ b) (hn : H' b = none) : FpOk X pins H' b := by
 refine ⟨hn, Nat.ne_of_gt (Nat.lt_of_lt_of_le I.lt hb), I.nofs hb, .inr (Nat.le_trans I.sz hb), fun x c e z => ?_, fun p hp z => ?_⟩
 ·obtain ⟨v, q⟩ := I.cell x c e
  exact absurd (Nat.lt_of_lt_of_le q.lt (by rw [z]; exact hb)) (Nat.lt_irrefl _)
 ·exact absurd (Nat.lt_of_lt_of_le (Heap.lt_size (I.pin p hp).1) (by rw [z]; exact hb)) (Nat.lt_irrefl _)
structure Turn (P : Program) (w : World) (K : PySem.W.Frag) (tg : Expr) (J : It) (fp : List Addr) (it : Addr) (tn : Nat → Heap → Prop) : Prop where
 mem : it ∈ fp
 obj : ∀ i h, tn i h → ∀ b ∈ fp, ∃ o, h.get? b = some o ∧ ∀ v, o.data ≠ .cell v
 keep : ∀ i h h', tn i h → (∀ b ∈ fp, ∀ o, h.get? b = some o → h'.get? b = some o) → tn i h'
 item : ∀ (X : Cx), X.prog = P → X.w = w → X.K = K → X.calm = true → ∀ (i : Nat) (pins : List (Addr × Obj)) (s : Shared) (σ : St) (H : Hp) (E : Value → Shared → Prop), Inv X pins σ H s → (∀ b ∈ fp, FpOk X pins H b) → tn i s.heap → J.go i H →
  wpAny (model P w) X.A (pyNext (.ref it)) (fun r s1 => ∃ u, r = some u ∧
   wpAny (model P w) X.A (letOwnedTupleGo tg (.ref it) u) (fun _ s2 => ∃ x H', Inv X pins σ H' s2 ∧ RelV x u ∧ J.yld i H x H' ∧ tn (i + 1) s2.heap ∧ ∀ b ∈ fp, H' b = none) E s1) E s
 done : ∀ (X : Cx), X.prog = P → X.w = w → X.K = K → X.calm = true → ∀ (i : Nat) (pins : List (Addr × Obj)) (s : Shared) (σ : St) (H : Hp) (E : Value → Shared → Prop), Inv X pins σ H s → (∀ b ∈ fp, FpOk X pins H b) → tn i s.heap → J.stop i H →
  wpAny (model P w) X.A (pyNext (.ref it)) (fun r s1 => r = none ∧ Inv X pins σ H s1) E s
 self : ∀ (A : Around) (i : Nat) (s : Shared) (Q : Value → Shared → Prop) (E : Value → Shared → Prop), tn i s.heap → Q (.ref it) s → wpAny (model P w) A (pyIter (.ref it)) Q E s
abbrev TI := St → Hp → (It → Hp → Prop) → Prop
def PIE (X : Cx) (pins : List (Addr × Obj)) (σ : St) (tg : Expr) (R : It → Hp → Prop) (itv : Value) (s2 : Shared) : Prop :=
 ∃ (it : Addr) (fp : List Addr) (tn : Nat → Heap → Prop) (J : It) (H' : Hp), itv = .ref it ∧ Inv X pins σ H' s2 ∧ Turn X.prog X.w X.K tg J fp it tn ∧ tn 0 s2.heap ∧ (∀ b ∈ fp, FpOk X pins H' b) ∧ R J H'
def PI (X : Cx) (tg iter : Expr) (wi : TI) : Prop :=
 ∀ (pins : List (Addr × Obj)) (s : Shared) (σ : St) (H : Hp) (R : It → Hp → Prop), Inv X pins σ H s → wi σ H R →
  wpAny (model X.prog X.w) X.A (eval iter X.env) (fun v s1 => wpAny (model X.prog X.w) X.A (pyIter v) (PIE X pins σ tg R) X.xe s1) X.xe s
theorem go_of {M : Model} {A : Around} {E : Value → Shared → Prop} {s : Shared} {tg : Expr} {it : Addr} {u : Value} {o : Obj} {n : String} {vs : Array Value} {Q : Unit → Shared → Prop} (ho : s.heap.get? it = some o) (hc : o.cls = .type n) (hd : o.data = .fields vs)
    (hn : ["enumerate", "zip", "dict_itemiterator", "dict_reverseitemiterator", "odict_iterator", "itertools.zip_longest", "itertools.pairwise"].contains n = false) (hQ : Q () s) : wpAny M A (letOwnedTupleGo tg (.ref it) u) Q E s := by
  unfold letOwnedTupleGo
  cases tg <;> first
    | exact wpAny_pure hQ
    | (cases u <;> first
        | exact wpAny_pure hQ
        | (refine wpAny_bind (wpAny_load ho ?_)
           rw [hc, hd]
           show wpAny M A (if (["enumerate", "zip", "dict_itemiterator", "dict_reverseitemiterator", "odict_iterator", "itertools.zip_longest", "itertools.pairwise"].contains n && vs[0]? == some (rawInt _)) = true then _ else _) Q E s
           rw [if_neg (by intro h; rw [hn, Bool.false_and] at h; cases h)]
           exact wpAny_pure hQ))
def Itl (K : PySem.W.Frag) (a : Addr) : It :=
 ⟨fun i H => ∃ xs x, SqL K H a xs ∧ xs[i]? = some x, fun i H x H' => H' = H ∧ ∀ xs, SqL K H a xs → xs[i]? = some x, fun i H => ∃ xs, SqL K H a xs ∧ xs.length ≤ i⟩
def Itt (K : PySem.W.Frag) (a : Addr) : It :=
 ⟨fun i H => ∃ xs x, SqT K H a xs ∧ xs[i]? = some x, fun i H x H' => H' = H ∧ ∀ xs, SqT K H a xs → xs[i]? = some x, fun i H => ∃ xs, SqT K H a xs ∧ xs.length ≤ i⟩
def Itr (lo : Int) (n : Nat) : It := ⟨fun i _ => i < n, fun i H x H' => H' = H ∧ x = .int (lo + i), fun i _ => n ≤ i⟩
theorem turn_list {P : Program} {w : World} {K : PySem.W.Frag} {tg : Expr} (a it : Addr) : Turn P w K tg (Itl K a) [it] it (fun i h => h.IsListIter it a i) where
 mem := by simp
 obj := fun i h st b hb => by
  have e : b = it := by simpa using hb
  subst e
  obtain ⟨o, e, c, d⟩ := st
  exact ⟨o, e, fun v z => by rw [d] at z; cases z⟩
 keep := fun i h h' st k => st.at fun o e => k it (by simp) o e
 item := by
  intro X hP hw hK hc i pins s σ H E I hf st hg
  subst hP hw hK
  obtain ⟨xs, x, hq, hx⟩ := hg
  obtain ⟨its, rv, p, hz⟩ := I.list hq
  obtain ⟨u, hu, ru⟩ := rv.get hx
  obtain ⟨f0, f1, f2, f3, f4, f5⟩ := hf it (by simp)
  refine wpAny_pyNext_list_item st p.isList (x := u) (by simpa using hu) fun h' st' sb => ?_
  have I1 : Inv X pins σ H { s with heap := h' } := I.turned (t' := s.toks) (fun b o hb e => (sb.2 b hb).trans e) f0 f1 f3 f4 f5
  obtain ⟨o, e, c, d⟩ := id st'
  exact ⟨u, rfl, go_of (s := { s with heap := h' }) e c d (by decide) ⟨x, H, I1, ru, ⟨rfl, fun ys hy => by rw [I.list_inj hy hq]; exact hx⟩, st', fun b hb => (hf b hb).1⟩⟩
 done := by
  intro X hP hw hK hc i pins s σ H E I hf st hg
  subst hP hw hK
  obtain ⟨xs, hq, hx⟩ := hg
  obtain ⟨its, rv, p, hz⟩ := I.list hq
  obtain ⟨f0, f1, f2, f3, f4, f5⟩ := hf it (by simp)
  have hl := rv.length
  exact wpAny_pyNext_list_end (I.ok.hd hc) st p.isList (by simp; omega) fun h' eb => ⟨rfl, I.turned (t' := s.toks) (fun b o hb e => eb b o hb e) f0 f1 f3 f4 f5⟩
 self := fun _ _ _ _ _ st h => wpAny_pyIter_listiter st h
theorem turn_tuple {P : Program} {w : World} {K : PySem.W.Frag} {tg : Expr} (a it : Addr) : Turn P w K tg (Itt K a) [it] it (fun i h => h.IsTupleIter it a i) where
 mem := by simp
 obj := fun i h st b hb => by
  have e : b = it := by simpa using hb
  subst e
  obtain ⟨o, e, c, d⟩ := st
  exact ⟨o, e, fun v z => by rw [d] at z; cases z⟩
 keep := fun i h h' st k => st.at fun o e => k it (by simp) o e
 item := by
  intro X hP hw hK hc i pins s σ H E I hf st hg
  subst hP hw hK
  obtain ⟨xs, x, hq, hx⟩ := hg
  obtain ⟨its, rv, p, hz⟩ := I.tuple hq
  obtain ⟨u, hu, ru⟩ := rv.get hx
  obtain ⟨f0, f1, f2, f3, f4, f5⟩ := hf it (by simp)
  refine wpAny_pyNext_tuple_item st (show s.heap.IsTuple a its.toArray from p) (x := u) (by simpa using hu) fun h' st' sb => ?_
  have I1 : Inv X pins σ H { s with heap := h' } := I.turned (t' := s.toks) (fun b o hb e => (sb.2 b hb).trans e) f0 f1 f3 f4 f5
  obtain ⟨o, e, c, d⟩ := id st'
  exact ⟨u, rfl, go_of (s := { s with heap := h' }) e c d (by decide) ⟨x, H, I1, ru, ⟨rfl, fun ys hy => by rw [I.tuple_inj hy hq]; exact hx⟩, st', fun b hb => (hf b hb).1⟩⟩
 done := by
  intro X hP hw hK hc i pins s σ H E I hf st hg
  subst hP hw hK
  obtain ⟨xs, hq, hx⟩ := hg
  obtain ⟨its, rv, p, hz⟩ := I.tuple hq
  obtain ⟨f0, f1, f2, f3, f4, f5⟩ := hf it (by simp)
  have hl := rv.length
  exact wpAny_pyNext_tuple_end (I.ok.hd hc) st (show s.heap.IsTuple a its.toArray from p) (by simp; omega) fun h' eb => ⟨rfl, I.turned (t' := s.toks) (fun b o hb e => eb b o hb e) f0 f1 f3 f4 f5⟩
 self := fun _ _ _ _ _ st h => wpAny_pyIter_tupleiter st h
theorem turn_range {P : Program} {w : World} {K : PySem.W.Frag} {tg : Expr} (it : Addr) (lo : Int) (n : Nat) : Turn P w K tg (Itr lo n) [it] it (fun i h => IsRangeIter h it (lo + (i : Nat) * 1) ((n : Int) - (i : Nat)) 1) where
 mem := by simp
 obj := fun i h st b hb => by
  have e : b = it := by simpa using hb
  subst e
  exact ⟨_, st, fun v z => by
   have z' : Data.fields _ = Data.cell v := z
   cases z'⟩
 keep := fun i h h' st k => k it (by simp) _ st
 item := by
  intro X hP hw hK hc i pins s σ H E I hf st hg
  subst hP hw hK
  obtain ⟨f0, f1, f2, f3, f4, f5⟩ := hf it (by simp)
  have W := Walks.range (prog := X.prog) (w := X.w) (I.ok.hd hc) it lo 1 n
  refine W.item i s _ _ hg st fun v h' tk hv st' kk => ?_
  obtain ⟨t, rfl⟩ := hv
  have I1 : Inv X pins σ H { s with heap := h', toks := tk } := I.turned (fun b o hb e => kk b o (by simpa using hb) e) f0 f1 f3 f4 f5
  refine ⟨_, rfl, go_of (s := { s with heap := h', toks := tk }) (n := "range_iterator") st' rfl rfl (by decide) ⟨.int (lo + i), H, I1, ⟨t, ?_⟩, ⟨rfl, rfl⟩, st', fun b hb => (hf b hb).1⟩⟩
  rw [Int.mul_one]
 done := by
  intro X hP hw hK hc i pins s σ H E I hf st hg
  subst hP hw hK
  obtain ⟨f0, f1, f2, f3, f4, f5⟩ := hf it (by simp)
  exact wpAny_pyNext_range_end (I.ok.hd hc) st (by have : n ≤ i := hg; omega) fun h' eb => ⟨rfl, I.turned (t' := s.toks) (fun b o hb e => eb b o hb e) f0 f1 f3 f4 f5⟩
 self := fun _ _ _ _ _ st h => wpAny_pyIter_rangeiter st h
end L2
namespace L2
open PySem PySem.Spec PyProof.Rows
section
variable {X : Cx} {tg : Expr}
theorem range_it {pins : List (Addr × Obj)} {σ : St} {H : Hp} {s : Shared} {R : It → Hp → Prop} {E : Value → Shared → Prop} {lo hi : Int} {t u v : Tok} {tk : Nat} (I : Inv X pins σ H s) (h1 : -(2 ^ 62) ≤ lo) (h2 : lo < 2 ^ 62) (h3 : -(2 ^ 62) ≤ hi) (h4 : hi < 2 ^ 62)
  (q : R (Itr lo (hi - lo).toNat) H) : wpAny (model X.prog X.w) X.A (pyIter (.ref s.heap.objs.size)) (PIE X pins σ tg R) E { s with heap := s.heap.push { cls := .type "range", data := .fields #[.int lo t, .int hi u, .int 1 v] }, toks := tk } := by
 refine wpAny_pyIter_range (IsRange.new ..) (small_one h1 h2 h3 h4) ?_
 have I1 : Inv X pins σ H { s with heap := s.heap.push { cls := .type "range", data := .fields #[.int lo t, .int hi u, .int 1 v] }, toks := tk } := I.kept fun b o e => Heap.get?_push_of_some _ e
 refine ⟨(s.heap.push { cls := .type "range", data := .fields #[.int lo t, .int hi u, .int 1 v] }).objs.size, [(s.heap.push { cls := .type "range", data := .fields #[.int lo t, .int hi u, .int 1 v] }).objs.size], _, _, H, rfl,
  I1.kept (t' := tk) fun b o e => Heap.get?_push_of_some _ e, turn_range _ lo (hi - lo).toNat, ?_, fun b hb => ?_, q⟩
 ·have e1 : lo + ((0 : Nat) : Int) * 1 = lo := by simp
  have e2 : (((hi - lo).toNat : Nat) : Int) - ((0 : Nat) : Int) = Builtin.Range.rangeSize lo hi 1 := by rw [rangeSize_one]; split <;> omega
  show IsRangeIter _ _ (lo + ((0 : Nat) : Int) * 1) ((((hi - lo).toNat : Nat) : Int) - ((0 : Nat) : Int)) 1
  rw [e1, e2]
  exact Heap.get?_push_size _ rfl
 ·have e : b = (s.heap.push { cls := .type "range", data := .fields #[.int lo t, .int hi u, .int 1 v] }).objs.size := by simpa using hb
  subst e
  exact I1.fpOk (Nat.le_refl _) (I1.hok.fresh (Nat.le_refl _))
def iRng1 (ta : TA) : TI := fun σ H R => ta σ H fun vs H1 => ∃ j : Int, vs = [.int j] ∧ -(2 ^ 62) ≤ j ∧ j < 2 ^ 62 ∧ R (Itr 0 j.toNat) H1
def iRng2 (ta : TA) : TI := fun σ H R => ta σ H fun vs H1 => ∃ i j : Int, vs = [.int i, .int j] ∧ (-(2 ^ 62) ≤ i ∧ i < 2 ^ 62 ∧ -(2 ^ 62) ≤ j ∧ j < 2 ^ 62) ∧ R (Itr i (j - i).toNat) H1
theorem pi_range1 {a : Expr} {ta : TA} {p pos : Pos} (hg : Gl X "range") (hm : X.mg "range" = none) (ha : PA X [a] ta) (hs : starEach [a] X.env = [(false, eval a X.env)] := by rfl) : PI X tg (.Call (.Name "range" p) [a] [] pos) (iRng1 ta) := by
 intro pins s σ H R I h
 refine Call_ (ld_blt I hg hm boot_range (PyProof.Rows.callWith_type1 (thn (ha pos pins s σ H _ I h) fun us s1 ⟨vs, H1, I1, r1, q1⟩ => ?_) hs rfl))
 obtain ⟨j, e, q1, q2, q⟩ := q1
 subst e
 cases r1 with
 | cons r rr =>
  cases rr
  obtain ⟨t, rfl⟩ := r
  exact call_range_1 (range_it I1 (by omega) (by omega) q1 q2 (by simpa using q))
def tFor (wi : TI) (g : TG) (tb : TS) : TS := fun D σ H => wi σ H fun J H1 => ∃ W : Nat → Nat → St → Hp → Prop, (∃ m, W 0 m σ H1) ∧ ∀ i m σ H, W i m σ H →
 (J.stop i H ∧ D.nx σ H) ∨ (J.go i H ∧ ∃ N : St → Hp → Prop, (∀ σ' H', N σ' H' → ∃ m', m' < m ∧ W (i + 1) m' σ' H') ∧ ∀ x H', J.yld i H x H' → g x σ H' fun σ2 H2 => tb { D with nx := N, ct := N, bk := D.nx } σ2 H2)
def pinsAt (fp : List Addr) (h : Heap) : List (Addr × Obj) := fp.filterMap fun b => (h.get? b).map fun o => (b, o)
theorem mem_pinsAt {fp : List Addr} {h : Heap} {b : Addr} {o : Obj} (hb : b ∈ fp) (e : h.get? b = some o) : (b, o) ∈ pinsAt fp h := List.mem_filterMap.mpr ⟨b, hb, by rw [e]; rfl⟩
theorem of_pinsAt {fp : List Addr} {h : Heap} {p : Addr × Obj} (hp : p ∈ pinsAt fp h) : p.1 ∈ fp ∧ h.get? p.1 = some p.2 := by
 obtain ⟨b, hb, e⟩ := List.mem_filterMap.mp hp
 cases q : h.get? b with
 | none => rw [q] at e; cases e
 | some o =>
  rw [q] at e
  have e' : (b, o) = p := Option.some.inj e
  subst e'
  exact ⟨hb, q⟩
theorem Inv.pinned {pins : List (Addr × Obj)} {σ : St} {H : Hp} {s : Shared} {fp : List Addr} (I : Inv X pins σ H s) (hf : ∀ b ∈ fp, FpOk X pins H b) (ho : ∀ b ∈ fp, ∃ o, s.heap.get? b = some o ∧ ∀ v, o.data ≠ .cell v) : Inv X (pins ++ pinsAt fp s.heap) σ H s :=
 I.pins_of fun p hp => (List.mem_append.mp hp).elim (fun z => I.pin p (List.mem_append_right _ z)) fun z => by
  obtain ⟨hb, e⟩ := of_pinsAt z
  obtain ⟨f0, f1, f2, _⟩ := hf p.1 hb
  obtain ⟨o, e', d⟩ := ho p.1 hb
  rw [e] at e'; cases e'
  exact ⟨e, f0, f1, f2, d⟩
theorem Inv.unpinned {pins pl : List (Addr × Obj)} {σ : St} {H : Hp} {s : Shared} (I : Inv X (pins ++ pl) σ H s) : Inv X pins σ H s := I.pins_of fun p hp => I.pin p (List.mem_append_right _ (List.mem_append_left _ hp))
theorem ps_for {iter : Expr} {body : List Stmt} {wi : TI} {g : TG} {tb : TS} {pos : Pos} (hp : PassesOwn (model X.prog X.w) X.A X.env X.xe) (hc : X.calm = true) (hi : PI X tg iter wi) (hg : PG X tg g) (hb : PSs X body tb)
  (hs : ∀ x, foldedSetIterable iter X.env x = pure x := by intro _; rfl) : PS X (.For tg iter body [] pos) (tFor wi g tb) := by
 intro pins s σ H D I h
 refine wpAny_For (thn (hi pins s σ H _ I h) fun v s1 h1 => thn h1 fun itv s2 h2 => ?_) hs
 obtain ⟨it, fp, tn, J, H2, e, I2, T, st2, f2, W, ⟨m0, w0⟩, turn⟩ := h2
 subst e
 have stat : ∀ {H' : Hp}, (∀ b ∈ fp, H' b = none) → ∀ b ∈ fp, FpOk X pins H' b := fun hn b hb => ⟨hn b hb, (f2 b hb).2⟩
 refine codeAny_forLoop_any (fun n s' => ∃ i σ' H', Inv X pins σ' H' s' ∧ tn i s'.heap ∧ (∀ b ∈ fp, H' b = none) ∧ W i n σ' H') ?_ m0 ⟨0, σ, H2, I2, st2, fun b hb => (f2 b hb).1, w0⟩
 rintro n s3 ⟨i, σ3, H3, I3, st3, fr3, w3⟩
 rcases turn i n σ3 H3 w3 with ⟨stop, qn⟩ | ⟨go, N, hN, step⟩
 ·refine wpAny_passesOwn hp (thn (T.done X rfl rfl rfl hc i pins s3 σ3 H3 X.xe I3 (stat fr3) st3 stop) fun r s4 ⟨hr, I4⟩ => ?_)
  subst hr
  exact wpAny_execs_nil ⟨σ3, H3, I4, qn⟩
 ·refine wpAny_passesOwn hp (thn (T.item X rfl rfl rfl hc i pins s3 σ3 H3 X.xe I3 (stat fr3) st3 go) fun r s4 ⟨u, hr, h4⟩ => ?_)
  subst hr
  refine wpAny_passesOwn hp (thn h4 fun _ s5 ⟨x, H5, I5, r5, y5, st5, fr5⟩ => ?_)
  have I5' := I5.pinned (stat fr5) (T.obj _ _ st5)
  refine wpAny_passesOwn hp (thn (hg _ s5 σ3 H5 x u _ I5' r5 (step x H5 y5)) fun _ s6 ⟨σ6, H6, I6, q6⟩ => ?_)
  refine wpAny_passesOwn hp (thn (hb _ s6 σ6 H6 _ I6 q6) fun f s7 q7 => ?_)
  have again : ∀ {σ7 : St} {H7 : Hp}, Inv X (pins ++ pinsAt fp s5.heap) σ7 H7 s7 → N σ7 H7 → ∃ m, m < n ∧ ∃ i σ' H', Inv X pins σ' H' s7 ∧ tn i s7.heap ∧ (∀ b ∈ fp, H' b = none) ∧ W i m σ' H' := fun {σ7 H7} I7 n7 => by
   obtain ⟨m', hm, w7⟩ := hN σ7 H7 n7
   refine ⟨m', hm, i + 1, σ7, H7, I7.unpinned, T.keep _ _ _ st5 fun b hb o e => (I7.pin (b, o) (List.mem_append_right _ (List.mem_append_right _ (mem_pinsAt hb e)))).1, fun b hb => ?_, w7⟩
   obtain ⟨o, e, d⟩ := T.obj _ _ st5 b hb
   exact (I7.pin (b, o) (List.mem_append_right _ (List.mem_append_right _ (mem_pinsAt hb e)))).2.1
  cases f with
  | next => obtain ⟨σ7, H7, I7, n7⟩ := q7; exact again I7 n7
  | cont => obtain ⟨σ7, H7, I7, n7⟩ := q7; exact again I7 n7
  | brk => obtain ⟨σ7, H7, I7, q7⟩ := q7; exact ⟨σ7, H7, I7.unpinned, q7⟩
  | ret v => obtain ⟨x7, σ7, H7, I7, r7, q7⟩ := q7; exact ⟨x7, σ7, H7, I7.unpinned, r7, q7⟩
end
theorem for_list {K : PySem.W.Frag} {a : Addr} {xs : List V} {g : TG} {tb : TS} {D : Ends} {σ : St} {H : Hp} (Pv : Nat → St → Hp → Prop) (h0 : Pv 0 σ H) (hl : ∀ i σ H, i ≤ xs.length → Pv i σ H → SqL K H a xs)
  (hs : ∀ i x σ H, xs[i]? = some x → Pv i σ H → g x σ H fun σ2 H2 => tb { D with nx := Pv (i + 1), ct := Pv (i + 1), bk := D.nx } σ2 H2) (hd : ∀ σ H, Pv xs.length σ H → D.nx σ H) :
  ∃ W : Nat → Nat → St → Hp → Prop, (∃ m, W 0 m σ H) ∧ ∀ i m σ H, W i m σ H →
   ((Itl K a).stop i H ∧ D.nx σ H) ∨ ((Itl K a).go i H ∧ ∃ N : St → Hp → Prop, (∀ σ' H', N σ' H' → ∃ m', m' < m ∧ W (i + 1) m' σ' H') ∧ ∀ x H', (Itl K a).yld i H x H' → g x σ H' fun σ2 H2 => tb { D with nx := N, ct := N, bk := D.nx } σ2 H2) := by
 refine ⟨fun i m σ H => m = xs.length - i ∧ i ≤ xs.length ∧ Pv i σ H, ⟨xs.length, by simp, Nat.zero_le _, h0⟩, ?_⟩
 rintro i m σ H ⟨rfl, hi, p⟩
 have q := hl i σ H hi p
 by_cases hlt : i < xs.length
 ·refine .inr ⟨⟨xs, xs[i], q, by simp [hlt]⟩, Pv (i + 1), fun σ' H' p' => ⟨xs.length - (i + 1), by omega, rfl, hlt, p'⟩, fun x H' y => ?_⟩
  obtain ⟨e, y⟩ := y
  subst e
  exact hs i x σ _ (y xs q) p
 ·have e : i = xs.length := by omega
  subst e
  exact .inl ⟨⟨xs, q, Nat.le_refl _⟩, hd σ H p⟩
theorem for_tup {K : PySem.W.Frag} {a : Addr} {xs : List V} {g : TG} {tb : TS} {D : Ends} {σ : St} {H : Hp} (Pv : Nat → St → Hp → Prop) (h0 : Pv 0 σ H) (hl : ∀ i σ H, i ≤ xs.length → Pv i σ H → SqT K H a xs)
  (hs : ∀ i x σ H, xs[i]? = some x → Pv i σ H → g x σ H fun σ2 H2 => tb { D with nx := Pv (i + 1), ct := Pv (i + 1), bk := D.nx } σ2 H2) (hd : ∀ σ H, Pv xs.length σ H → D.nx σ H) :
  ∃ W : Nat → Nat → St → Hp → Prop, (∃ m, W 0 m σ H) ∧ ∀ i m σ H, W i m σ H →
   ((Itt K a).stop i H ∧ D.nx σ H) ∨ ((Itt K a).go i H ∧ ∃ N : St → Hp → Prop, (∀ σ' H', N σ' H' → ∃ m', m' < m ∧ W (i + 1) m' σ' H') ∧ ∀ x H', (Itt K a).yld i H x H' → g x σ H' fun σ2 H2 => tb { D with nx := N, ct := N, bk := D.nx } σ2 H2) := by
 refine ⟨fun i m σ H => m = xs.length - i ∧ i ≤ xs.length ∧ Pv i σ H, ⟨xs.length, by simp, Nat.zero_le _, h0⟩, ?_⟩
 rintro i m σ H ⟨rfl, hi, p⟩
 have q := hl i σ H hi p
 by_cases hlt : i < xs.length
 ·refine .inr ⟨⟨xs, xs[i], q, by simp [hlt]⟩, Pv (i + 1), fun σ' H' p' => ⟨xs.length - (i + 1), by omega, rfl, hlt, p'⟩, fun x H' y => ?_⟩
  obtain ⟨e, y⟩ := y
  subst e
  exact hs i x σ _ (y xs q) p
 ·have e : i = xs.length := by omega
  subst e
  exact .inl ⟨⟨xs, q, Nat.le_refl _⟩, hd σ H p⟩
theorem for_range {lo : Int} {n : Nat} {g : TG} {tb : TS} {D : Ends} {σ : St} {H : Hp} (Pv : Nat → St → Hp → Prop) (h0 : Pv 0 σ H)
  (hs : ∀ i σ H, i < n → Pv i σ H → g (.int (lo + i)) σ H fun σ2 H2 => tb { D with nx := Pv (i + 1), ct := Pv (i + 1), bk := D.nx } σ2 H2) (hd : ∀ σ H, Pv n σ H → D.nx σ H) :
  ∃ W : Nat → Nat → St → Hp → Prop, (∃ m, W 0 m σ H) ∧ ∀ i m σ H, W i m σ H →
   ((Itr lo n).stop i H ∧ D.nx σ H) ∨ ((Itr lo n).go i H ∧ ∃ N : St → Hp → Prop, (∀ σ' H', N σ' H' → ∃ m', m' < m ∧ W (i + 1) m' σ' H') ∧ ∀ x H', (Itr lo n).yld i H x H' → g x σ H' fun σ2 H2 => tb { D with nx := N, ct := N, bk := D.nx } σ2 H2) := by
 refine ⟨fun i m σ H => m = n - i ∧ i ≤ n ∧ Pv i σ H, ⟨n, by simp, Nat.zero_le _, h0⟩, ?_⟩
 rintro i m σ H ⟨rfl, hi, p⟩
 by_cases hlt : i < n
 ·refine .inr ⟨hlt, Pv (i + 1), fun σ' H' p' => ⟨n - (i + 1), by omega, rfl, hlt, p'⟩, fun x H' y => ?_⟩
  obtain ⟨e, y⟩ := y
  subst e y
  exact hs i σ _ hlt p
 ·have e : i = n := by omega
  subst e
  exact .inl ⟨Nat.le_refl _, hd σ H p⟩
end L2
namespace L2
open PySem PySem.Spec PyProof.Rows
abbrev R2 := V → V → Hp → VK → Prop
def OpR (X : Cx) (f : Value → Value → Sem Value) (r : R2) : Prop :=
 ∀ (pins : List (Addr × Obj)) (s : Shared) (σ : St) (H : Hp) (x y : V) (v u : Value) (Q : VK), Inv X pins σ H s → RelV x v → RelV y u → r x y H Q →
  wpAny (model X.prog X.w) X.A (f v u) (EP X pins σ Q) X.xe s
def UnR (X : Cx) (f : Value → Sem Value) (r : V → Hp → VK → Prop) : Prop :=
 ∀ (pins : List (Addr × Obj)) (s : Shared) (σ : St) (H : Hp) (x : V) (v : Value) (Q : VK), Inv X pins σ H s → RelV x v → r x H Q →
  wpAny (model X.prog X.w) X.A (f v) (EP X pins σ Q) X.xe s
def CallR (X : Cx) (f : Value) (r : List V → Hp → VK → Prop) : Prop :=
 ∀ (pins : List (Addr × Obj)) (s : Shared) (σ : St) (H : Hp) (xs : List V) (us : List Value) (Q : VK), Inv X pins σ H s → Vals xs us → r xs H Q →
  wpAny (model X.prog X.w) X.A (call f us) (EP X pins σ Q) X.xe s
def tOp (r : R2) (ta tb : TE) : TE := fun σ H Q => ta σ H fun x H1 => tb σ H1 fun y H2 => r x y H2 Q
def tUn (r : V → Hp → VK → Prop) (ta : TE) : TE := fun σ H Q => ta σ H fun x H1 => r x H1 Q
def rI (C : Int → Int → Prop) (g : Int → Int → V) : R2 := fun x y H Q => ∃ i j, x = .int i ∧ y = .int j ∧ C i j ∧ Q (g i j) H
def rI0 (g : Int → Int → V) : R2 := fun x y H Q => ∃ i j, x = .int i ∧ y = .int j ∧ Q (g i j) H
def rU (g : Int → V) : V → Hp → VK → Prop := fun x H Q => ∃ i, x = .int i ∧ Q (g i) H
section
variable {X : Cx} {a b c : Expr} {ta tb tc : TE} {pos : Pos}
theorem binT (ha : PE X a ta) (hb : PE X b tb) {pins : List (Addr × Obj)} {s : Shared} {σ : St} {H : Hp} {R : V → V → Hp → Prop} (I : Inv X pins σ H s)
  (h : ta σ H fun x H1 => tb σ H1 fun y H2 => R x y H2) {Q : Value → Shared → Prop} {f : Value → Value → Sem Value}
  (hf : ∀ v u s2 x y H2, Inv X pins σ H2 s2 → RelV x v → RelV y u → R x y H2 → wpAny (model X.prog X.w) X.A (f v u) Q X.xe s2) :
  wpAny (model X.prog X.w) X.A (eval a X.env) (fun v s₁ => wpAny (model X.prog X.w) X.A (eval b X.env) (fun u s₂ => wpAny (model X.prog X.w) X.A (f v u) Q X.xe s₂) X.xe s₁) X.xe s := by
 refine thn (ha pins s σ H _ I h) fun v s1 ⟨x, H1, I1, r1, q1⟩ => ?_
 refine thn (hb pins s1 σ H1 _ I1 q1) fun u s2 ⟨y, H2, I2, r2, q2⟩ => ?_
 exact hf v u s2 x y H2 I2 r1 r2 q2
theorem pe_op {op : Operator} {r : R2} (ho : OpR X (binaryOp op) r) (ha : PE X a ta) (hb : PE X b tb) : PE X (.BinOp a op b pos) (tOp r ta tb) := by
 intro pins s σ H Q I h
 exact wpAny_BinOp (binT ha hb I h fun v u s2 x y H2 I2 rx ry q => ho pins s2 σ H2 x y v u Q I2 rx ry q)
theorem pe_un {op : UnaryOp} {r : V → Hp → VK → Prop} (ho : UnR X (unaryOp op) r) (ha : PE X a ta) : PE X (.UnaryOp op a pos) (tUn r ta) := by
 intro pins s σ H Q I h
 exact UnaryOp_ (thn (ha pins s σ H _ I h) fun v s1 ⟨x, H1, I1, r1, q1⟩ => ho pins s1 σ H1 x v Q I1 r1 q1)
theorem opI {f : Value → Value → Sem Value} {C : Int → Int → Prop} {g : Int → Int → Int}
  (rule : ∀ (i j : Int) (t u : Tok) (s : Shared) (Q : Value → Shared → Prop) (E : Value → Shared → Prop), C i j → Q (.int (g i j) s.toks) { s with toks := s.toks + 1 } → wpAny (model X.prog X.w) X.A (f (.int i t) (.int j u)) Q E s) :
  OpR X f (rI C fun i j => .int (g i j)) := by
 intro pins s σ H x y v u Q I rx ry h
 obtain ⟨i, j, rfl, rfl, hc, q⟩ := h
 obtain ⟨t, rfl⟩ := rx
 obtain ⟨t', rfl⟩ := ry
 exact rule i j t t' s _ _ hc ⟨.int (g i j), H, I.tok _, ⟨_, rfl⟩, q⟩
theorem opI0 {f : Value → Value → Sem Value} {g : Int → Int → Int}
  (rule : ∀ (i j : Int) (t u : Tok) (s : Shared) (Q : Value → Shared → Prop) (E : Value → Shared → Prop), Q (.int (g i j) s.toks) { s with toks := s.toks + 1 } → wpAny (model X.prog X.w) X.A (f (.int i t) (.int j u)) Q E s) :
  OpR X f (rI0 fun i j => .int (g i j)) := by
 intro pins s σ H x y v u Q I rx ry h
 obtain ⟨i, j, rfl, rfl, q⟩ := h
 obtain ⟨t, rfl⟩ := rx
 obtain ⟨t', rfl⟩ := ry
 exact rule i j t t' s _ _ ⟨.int (g i j), H, I.tok _, ⟨_, rfl⟩, q⟩
theorem opB0 {f : Value → Value → Sem Value} {g : Int → Int → Bool}
  (rule : ∀ (i j : Int) (t u : Tok) (s : Shared) (Q : Value → Shared → Prop) (E : Value → Shared → Prop), Q (.bool (g i j)) s → wpAny (model X.prog X.w) X.A (f (.int i t) (.int j u)) Q E s) :
  OpR X f (rI0 fun i j => .bl (g i j)) := by
 intro pins s σ H x y v u Q I rx ry h
 obtain ⟨i, j, rfl, rfl, q⟩ := h
 obtain ⟨t, rfl⟩ := rx
 obtain ⟨t', rfl⟩ := ry
 exact rule i j t t' s _ _ ⟨.bl (g i j), H, I, rfl, q⟩
def CPow (i j : Int) : Prop := 0 ≤ j ∧ j ≤ 1000000 ∧ i.natAbs < 2 ^ 64
theorem op_add : OpR X (binaryOp .Add) (rI0 fun i j => .int (i + j)) := opI0 fun _ _ _ _ _ _ _ q => add_int q
theorem op_sub : OpR X (binaryOp .Sub) (rI0 fun i j => .int (i - j)) := opI0 fun _ _ _ _ _ _ _ q => sub_int q
theorem op_modN : OpR X (binaryOp .Mod) (rI (fun _ j => j ≠ 0) fun i j => .int (i.fmod j)) := opI fun _ _ _ _ _ _ _ hc q => mod_int' hc q
theorem op_pow : OpR X (binaryOp .Pow) (rI CPow fun i j => .int (i ^ j.toNat)) := opI fun _ _ _ _ _ _ _ hc q => pow_int_small hc.1 hc.2.1 hc.2.2 q
theorem unI {f : Value → Sem Value} {g : Int → Int}
  (rule : ∀ (i : Int) (t : Tok) (s : Shared) (Q : Value → Shared → Prop) (E : Value → Shared → Prop), Q (.int (g i) s.toks) { s with toks := s.toks + 1 } → wpAny (model X.prog X.w) X.A (f (.int i t)) Q E s) :
  UnR X f (rU fun i => .int (g i)) := by
 intro pins s σ H x v Q I rx h
 obtain ⟨i, rfl, q⟩ := h
 obtain ⟨t, rfl⟩ := rx
 exact rule i t s _ _ ⟨.int (g i), H, I.tok _, ⟨_, rfl⟩, q⟩
theorem un_neg : UnR X (unaryOp .USub) (rU fun i => .int (-i)) := unI fun _ _ _ _ _ q => neg_int q
end
def scal : V → V → Bool
 | .non, .non => true | .non, .int _ => true | .int _, .non => true | .non, .bl _ => true | .bl _, .non => true | .non, .str _ => true | .str _, .non => true
 | .int _, .int _ => true | .bl _, .bl _ => true | .str _, .str _ => true | .byt _, .byt _ => true
 | .int _, .str _ => true | .str _, .int _ => true | .bl _, .str _ => true | .str _, .bl _ => true
 | _, _ => false
def rEq : R2 := fun x y H Q => scal x y = true ∧ Q (.bl (decide (x = y))) H
def rNe : R2 := fun x y H Q => scal x y = true ∧ Q (.bl (!decide (x = y))) H
theorem dec_int {i j : Int} : decide (V.int i = V.int j) = (i == j) := by
 rw [Bool.eq_iff_iff]
 simp
theorem dec_bl {i j : Bool} : decide (V.bl i = V.bl j) = (i == j) := by
 rw [Bool.eq_iff_iff]
 simp
theorem dec_str {i j : Str} : decide (V.str i = V.str j) = (i == j) := by
 rw [Bool.eq_iff_iff]
 simp
theorem dec_byt {i j : Array UInt8} : decide (V.byt i = V.byt j) = (i.toList == j.toList) := by
 rw [Bool.eq_iff_iff]
 cases i
 cases j
 simp
section
variable {X : Cx} {a b c : Expr} {ta tb tc : TE} {pos : Pos}
theorem fin_bl {pins : List (Addr × Obj)} {σ : St} {H : Hp} {s : Shared} {Q : VK} {k k' : Bool} (I : Inv X pins σ H s) (q : Q (.bl k) H) (e : k = k') : EP X pins σ Q (.bool k') s := by
 subst e
 exact ⟨.bl k, H, I, rfl, q⟩
theorem op_eq : OpR X (compareOp .Eq) rEq := by
 intro pins s σ H x y v u Q I rx ry h
 obtain ⟨hs, q⟩ := h
 cases x with
 | non =>
  cases rx
  cases y with
  | non => cases ry; exact PySem.EqNone.eq_none_none (fin_bl I q (by simp))
  | bl j => cases ry; exact PySem.EqNone.eq_none_bool (fin_bl I q (by simp))
  | int j => obtain ⟨t', rfl⟩ := ry; exact PySem.EqNone.eq_none_int (fin_bl I q (by simp))
  | str j => obtain ⟨t', rfl⟩ := ry; exact PySem.EqNone.eq_none_str (fin_bl I q (by simp))
  | _ => exact absurd (show false = true from hs) Bool.false_ne_true
 | bl i =>
  cases rx
  cases y with
  | non => cases ry; exact PySem.EqNone.eq_bool_none (fin_bl I q (by simp))
  | bl j => cases ry; exact eq_bool (fin_bl I q dec_bl)
  | str j => obtain ⟨t', rfl⟩ := ry; exact PySem.EqMixed.eq_bool_str (fin_bl I q (by simp))
  | _ => exact absurd (show false = true from hs) Bool.false_ne_true
 | int i =>
  obtain ⟨t, rfl⟩ := rx
  cases y with
  | non => cases ry; exact PySem.EqNone.eq_int_none (fin_bl I q (by simp))
  | int j => obtain ⟨t', rfl⟩ := ry; exact eq_int (fin_bl I q dec_int)
  | str j => obtain ⟨t', rfl⟩ := ry; exact PySem.EqMixed.eq_int_str (fin_bl I q (by simp))
  | _ => exact absurd (show false = true from hs) Bool.false_ne_true
 | str i =>
  obtain ⟨t, rfl⟩ := rx
  cases y with
  | non => cases ry; exact PySem.EqNone.eq_str_none (fin_bl I q (by simp))
  | bl j => cases ry; exact PySem.EqMixed.eq_str_bool (fin_bl I q (by simp))
  | int j => obtain ⟨t', rfl⟩ := ry; exact PySem.EqMixed.eq_str_int (fin_bl I q (by simp))
  | str j => obtain ⟨t', rfl⟩ := ry; exact eq_str (fin_bl I q dec_str)
  | _ => exact absurd (show false = true from hs) Bool.false_ne_true
 | byt i =>
  obtain ⟨t, rfl⟩ := rx
  cases y with
  | byt j => obtain ⟨t', rfl⟩ := ry; exact PySem.W.eq_bytes (fin_bl I q dec_byt)
  | _ => exact absurd (show false = true from hs) Bool.false_ne_true
 | _ => cases y <;> exact absurd (show false = true from hs) Bool.false_ne_true
theorem op_ne : OpR X (compareOp .NotEq) rNe := by
 intro pins s σ H x y v u Q I rx ry h
 obtain ⟨hs, q⟩ := h
 cases x with
 | non =>
  cases rx
  cases y with
  | non => cases ry; exact PySem.EqNone.ne_none_none (fin_bl I q (by simp))
  | bl j => cases ry; exact PySem.EqNone.ne_none_bool (fin_bl I q (by simp))
  | int j => obtain ⟨t', rfl⟩ := ry; exact PySem.EqNone.ne_none_int (fin_bl I q (by simp))
  | str j => obtain ⟨t', rfl⟩ := ry; exact PySem.EqNone.ne_none_str (fin_bl I q (by simp))
  | _ => exact absurd (show false = true from hs) Bool.false_ne_true
 | bl i =>
  cases rx
  cases y with
  | non => cases ry; exact PySem.EqNone.ne_bool_none (fin_bl I q (by simp))
  | bl j => cases ry; exact ne_bool (fin_bl I q (congrArg not dec_bl))
  | str j => obtain ⟨t', rfl⟩ := ry; exact PySem.EqMixed.ne_bool_str (fin_bl I q (by simp))
  | _ => exact absurd (show false = true from hs) Bool.false_ne_true
 | int i =>
  obtain ⟨t, rfl⟩ := rx
  cases y with
  | non => cases ry; exact PySem.EqNone.ne_int_none (fin_bl I q (by simp))
  | int j => obtain ⟨t', rfl⟩ := ry; exact ne_int (fin_bl I q (congrArg not dec_int))
  | str j => obtain ⟨t', rfl⟩ := ry; exact PySem.EqMixed.ne_int_str (fin_bl I q (by simp))
  | _ => exact absurd (show false = true from hs) Bool.false_ne_true
 | str i =>
  obtain ⟨t, rfl⟩ := rx
  cases y with
  | non => cases ry; exact PySem.EqNone.ne_str_none (fin_bl I q (by simp))
  | bl j => cases ry; exact PySem.EqMixed.ne_str_bool (fin_bl I q (by simp))
  | int j => obtain ⟨t', rfl⟩ := ry; exact PySem.EqMixed.ne_str_int (fin_bl I q (by simp))
  | str j => obtain ⟨t', rfl⟩ := ry; exact ne_str (fin_bl I q (congrArg not dec_str))
  | _ => exact absurd (show false = true from hs) Bool.false_ne_true
 | byt i =>
  obtain ⟨t, rfl⟩ := rx
  cases y with
  | byt j => obtain ⟨t', rfl⟩ := ry; exact PySem.W.ne_bytes (fin_bl I q (congrArg not dec_byt))
  | _ => exact absurd (show false = true from hs) Bool.false_ne_true
 | _ => cases y <;> exact absurd (show false = true from hs) Bool.false_ne_true
theorem op_lt : OpR X (compareOp .Lt) (rI0 fun i j => .bl (decide (i < j))) := opB0 fun _ _ _ _ _ _ _ q => lt_int q
theorem op_gt : OpR X (compareOp .Gt) (rI0 fun i j => .bl (decide (j < i))) := opB0 fun _ _ _ _ _ _ _ q => gt_int q
theorem op_ge : OpR X (compareOp .GtE) (rI0 fun i j => .bl (decide (j ≤ i))) := opB0 fun _ _ _ _ _ _ _ q => ge_int q
theorem op_in_str : OpR X (compareOp .In) (fun x y H Q => ∃ i j, x = .str i ∧ y = .str j ∧ Q (.bl (!(Builtin.Str.occurrences j i 0 j.length 1).isEmpty)) H) := by
 intro pins s σ H x y v u Q I rx ry h
 obtain ⟨i, j, rfl, rfl, q⟩ := h
 obtain ⟨t, rfl⟩ := rx
 obtain ⟨t', rfl⟩ := ry
 exact in_str (fin_bl I q rfl)
theorem op_isN : OpR X (compareOp .Is) (fun x y H Q => y = .non ∧ Q (.bl (decide (x = .non))) H) := by
 intro pins s σ H x y v u Q I rx ry h
 obtain ⟨rfl, q⟩ := h
 cases ry
 refine is_none_gen (fin_bl I q ?_)
 cases x <;> first
  | (cases rx; rfl)
  | (obtain ⟨t, rfl⟩ := rx; rfl)
theorem op_notN : OpR X (compareOp .IsNot) (fun x y H Q => y = .non ∧ Q (.bl (!decide (x = .non))) H) := by
 intro pins s σ H x y v u Q I rx ry h
 obtain ⟨rfl, q⟩ := h
 cases ry
 refine isnot_none_gen (fin_bl I q ?_)
 cases x <;> first
  | (cases rx; rfl)
  | (obtain ⟨t, rfl⟩ := rx; rfl)
theorem nomark (b : Expr) {op : CmpOp} (h : op ≠ .In := by decide) (h2 : op ≠ .NotIn := by decide) : behindInMarks op b = false := by
 have e1 : (op == CmpOp.In) = false := by cases op <;> first | rfl | exact absurd rfl h
 have e2 : (op == CmpOp.NotIn) = false := by cases op <;> first | rfl | exact absurd rfl h2
 cases b <;> simp [behindInMarks, e1, e2]
theorem pe_cmpR {op : CmpOp} {r : R2} (ho : OpR X (compareOp op) r) (ha : PE X a ta) (hb : PE X b tb) (hm : behindInMarks op b = false) : PE X (.Compare a [op] [b] pos) (tOp r ta tb) := by
 intro pins s σ H Q I h
 exact wpAny_Compare1 (binT ha hb I h fun v u s2 x y H2 I2 rx ry q => ho pins s2 σ H2 x y v u Q I2 rx ry q) hm
def tTest (t : TE) : TT := fun σ H Q => t σ H fun x H' => ∃ k, x = .bl k ∧ Q k H'
theorem pt_cmpR {op : CmpOp} {r : R2} (ho : OpR X (compareOp op) r) (ha : PE X a ta) (hb : PE X b tb) (hm : behindInMarks op b = false) : PT X (.Compare a [op] [b] pos) (tTest (tOp r ta tb)) := by
 intro pins s σ H Q I h
 refine wpAny_isTrue_Compare1 (thn (ha pins s σ H _ I h) fun v s1 ⟨x, H1, I1, r1, q1⟩ => thn (hb pins s1 σ H1 _ I1 q1) fun u s2 ⟨y, H2, I2, r2, q2⟩ =>
  thn (ho pins s2 σ H2 x y v u _ I2 r1 r2 q2) fun c s3 ⟨z, H3, I3, r3, k, e, q3⟩ => ?_) hm
 subst e
 cases r3
 exact wpAny_truthy_bool ⟨H3, I3, q3⟩
def tChain (r r' : R2) (ta tb tc : TE) : TE := fun σ H Q => ta σ H fun x H1 => tb σ H1 fun y H2 => r x y H2 fun z H3 => ∃ k, z = .bl k ∧
 (if k = true then tc σ H3 fun w' H4 => r' y w' H4 Q else Q (.bl false) H3)
theorem line63 : (sizeLine : Nat) < 2 ^ 63 := by rw [sizeLine_eq]; decide
theorem op_add_str : OpR X (binaryOp .Add) (fun x y H Q => ∃ i j, x = .str i ∧ y = .str j ∧ i.length + j.length ≤ sizeLine ∧ Q (.str (i ++ j)) H) := by
 intro pins s σ H x y v u Q I rx ry h
 obtain ⟨i, j, rfl, rfl, hz, q⟩ := h
 obtain ⟨t, rfl⟩ := rx
 obtain ⟨t', rfl⟩ := ry
 exact add_str (fun t' tk => ⟨.str (i ++ j), H, I.tok _, ⟨_, rfl⟩, q⟩) hz
theorem vals1 {x : V} {us : List Value} (r : Vals [x] us) : ∃ u, us = [u] ∧ RelV x u := by
 cases r with
 | cons r1 r2 => cases r2; exact ⟨_, rfl, r1⟩
theorem vals2 {x y : V} {us : List Value} (r : Vals [x, y] us) : ∃ u w', us = [u, w'] ∧ RelV x u ∧ RelV y w' := by
 cases r with
 | cons r1 r2 =>
  cases r2 with
  | cons r3 r4 => cases r4; exact ⟨_, _, rfl, r1, r3⟩
theorem call_abs : CallR X (.builtin "abs") (fun xs H Q => ∃ i, xs = [.int i] ∧ Q (.int (if i < 0 then -i else i)) H) := by
 intro pins s σ H xs us Q I r h
 obtain ⟨i, rfl, q⟩ := h
 obtain ⟨u, rfl, t, rfl⟩ := vals1 r
 exact call_abs_int fun u tk => ⟨.int (if i < 0 then -i else i), H, I.tok _, ⟨_, rfl⟩, q⟩
theorem call_min2 (hc : X.calm = true) : CallR X (.builtin "min") (fun xs H Q => ∃ i j, xs = [.int i, .int j] ∧ Q (.int (if j < i then j else i)) H) := by
 intro pins s σ H xs us Q I r h
 obtain ⟨i, j, rfl, q⟩ := h
 obtain ⟨u, w', rfl, ⟨t, rfl⟩, ⟨t', rfl⟩⟩ := vals2 r
 refine min_two_ints (I.ok.hd hc) fun h' tk k => ⟨_, H, I.kept k, ?_, q⟩
 by_cases hj : j < i
 ·rw [if_pos hj, if_pos hj]; exact ⟨_, rfl⟩
 ·rw [if_neg hj, if_neg hj]; exact ⟨_, rfl⟩
theorem call_int1 : CallR X (.type "int") (fun xs H Q => (∃ i, xs = [.int i] ∧ Q (.int i) H) ∨ ∃ k, xs = [.bl k] ∧ Q (.int (if k then 1 else 0)) H) := by
 intro pins s σ H xs us Q I r h
 rcases h with ⟨i, rfl, q⟩ | ⟨k, rfl, q⟩
 ·obtain ⟨u, rfl, t, rfl⟩ := vals1 r
  exact call_int_int ⟨.int i, H, I, ⟨_, rfl⟩, q⟩
 ·obtain ⟨u, rfl, r1⟩ := vals1 r
  cases r1
  exact call_int_bool ⟨.int (if k then 1 else 0), H, I.tok _, ⟨_, rfl⟩, q⟩
end
end L2
namespace L2
open PySem PySem.Spec PyProof.Rows
structure ObjM (h : Heap) (x dx C : Addr) (mA : Str → Option Value) : Prop where
 obj : h.get? x = some (PySem.W.instObj C dx)
 ns : h.Ns1 dx mA
 ne : dx ≠ x
theorem lookIn_ns {h : Heap} {dx : Addr} {mA : Str → Option Value} (n : h.Ns1 dx mA) : ∃ od, h.get? dx = some od ∧ ∀ name, PySem.W.lookIn name od = some (mA name) := by
 obtain ⟨o, es, ep, ho, hd, hk, _, hm⟩ := n
 refine ⟨o, ho, fun name => ?_⟩
 have e := hm name
 unfold nsFind findBy at e
 rw [← Array.find?_toList] at e
 unfold PySem.W.lookIn
 rw [hd]
 dsimp only
 split
 ·rename_i y q
  rw [q] at e
  exact congrArg some e
 ·rename_i q
  rw [q] at e
  have a : es.toList.any (·.refKey) = false := by
   rw [List.any_eq_false]
   intro y hy
   obtain ⟨z, t, hkey⟩ := hk y (Array.mem_toList_iff.mp hy)
   simp [DictEntry.refKey, hkey]
  have a' : ¬ es.toList.any (·.refKey) = true := by rw [a]; exact Bool.false_ne_true
  rw [if_neg a']
  exact congrArg some e
theorem ObjM.look {h : Heap} {x dx C : Addr} {mA : Str → Option Value} (I : ObjM h x dx C mA) : ∃ od, PySem.W.InstAt h x (PySem.W.instObj C dx) C (some od) ∧ ∀ name, PySem.W.lookIn name od = some (mA name) :=
 let ⟨od, ho, hl⟩ := lookIn_ns I.ns
 ⟨od, ⟨I.obj, rfl, rfl, ho⟩, hl⟩
section
variable {prog : Program} {w : World} {A : Around} {E : Value → Shared → Prop} {s : Shared} {K : PySem.W.Frag} {x dx C f : Addr} {mA : Str → Option Value} {name : Str} {v : Value}
theorem get_map {expr : Bool} {Q : Value → Shared → Prop} (X : K.In s.heap) (I : ObjM s.heap x dx C mA) (hg : PySem.W.plainGet K C name = true) (hh : PySem.W.hasDictIn K C = true)
  (ha : PySem.W.findIn K (.ref C) name = some none) (hv : mA name = some v) (hv' : PySem.W.handedIn v = true) (h : Q v { s with toks := s.toks + 1 }) :
  wpAny (model prog w) A (getAttr (.ref x) name expr) Q E s := by
 obtain ⟨od, J, hl⟩ := I.look
 exact PySem.W.get_value X J (PySem.W.plainGet_of hg).1 (PySem.W.findObj_own hh ha rfl (by rw [hl, hv])) hv' h
theorem get_meth {pl : Sem Bool} {Q : Value × List Value → Shared → Prop} (X : K.In s.heap) (I : ObjM s.heap x dx C mA) (hg : PySem.W.plainGet K C name = true)
  (hf : PySem.W.findIn K (.ref C) name = some (some (.ref f))) (ht : PySem.W.isFn K (.ref f) = true) (hv : mA name = none) (h : Q (.ref f, [.ref x]) s) :
  wpAny (model prog w) A (getMethod (.ref x) name pl) Q E s := by
 obtain ⟨od, J, hl⟩ := I.look
 exact PySem.W.method_fn X J (PySem.W.plainGet_of hg).1 (PySem.W.plainGet_of hg).2 hf (beq_iff_eq.mp ht) (by show (PySem.W.lookIn name od).map (·.isSome) = some false; rw [hl, hv]; rfl) h
theorem set_map {ns : List Str} {Q : Unit → Shared → Prop} (X : K.In s.heap) (I : ObjM s.heap x dx C mA)
  (hs : PySem.W.findIn K (.ref C) "__setattr__" = some (some (.builtin "object.__setattr__"))) (hp : PySem.W.plainOver K C = true) (ht : PySem.W.takerIn K C name = some none) (hh : PySem.W.hasDictIn K C = true)
  (hw : PySem.Within mA ns) (hsz : ns.length ≤ sizeLine)
  (h : ∀ h', ObjM h' x dx C (fun y => if y = name then some v else mA y) → Heap.SameBut dx s.heap h' → Q () { s with heap := h', toks := s.toks + 2 }) :
  wpAny (model prog w) A (setAttr (.ref x) name v) Q E s := by
 obtain ⟨od, J, hl⟩ := I.look
 refine PySem.W.set_plain X J hs (PySem.W.osa_open (s := { s with toks := s.toks + 1 }) (r := none) X J hp ht fun b => ?_)
 obtain ⟨cd, hc, hd'⟩ := PySem.W.any_some hh
 have hx : s.heap.get? x = some ⟨.ref C, some dx, .plain, #[]⟩ := I.obj
 refine wpAny_bind (wpAny_pure (wpAny_bind (wpAny_bind (wpAny_loadPart hx (wpAny_bind (PySem.W.Looks.here (s := { s with toks := s.toks + 1 }) (PySem.W.looks_clsIn X hc) ?_))))))
 rw [hd']
 refine wpAny_pure (a := some dx) (wpAny_bind (wpAny_pure (wpAny_bind ?_)))
 refine wpAny_nsSet1 (s := { s with toks := s.toks + 1 }) I.ns fun h' hn2 hs2 => ?_
 obtain ⟨oD, esD, epD, hoD, hdD, hcD⟩ := hn2.count (PySem.Within.cons name v hw)
 refine wpAny_bind (wpAny_lookBehind hoD (by rw [hdD]; exact pastItsLine_dict (Nat.le_trans hcD (by rw [List.length_cons]; omega))) ?_)
 exact wpAny_pure (h _ ⟨(hs2.2 _ (Ne.symm I.ne)).trans I.obj, hn2, I.ne⟩ hs2)
theorem make_map {R : Result → Shared → Prop} {vs : List Value} {kw : List (Str × Value)} (X : K.In s.heap) (hm : PySem.W.makesIn K C = true)
  (hi : PySem.W.findIn K (.ref C) "__init__" = some (some (.ref f))) (hf : PySem.W.typeIn K (.ref f) = some (.type "function"))
  (h : codeAny (model prog w) (A.under (.builtin "type.__call__" ⟨.ref C :: vs, kw⟩)) (.call (.ref f) ⟨.ref (s.heap.objs.size + 1) :: vs, kw⟩) (PySem.W.InitBack (s.heap.objs.size + 1) R)
   { s with heap := (s.heap.push PySem.W.emptyDict).push (PySem.W.instObj C s.heap.objs.size) }) :
  codeAny (model prog w) A (.call (.ref C) ⟨vs, kw⟩) R s := by
 obtain ⟨hh, g, d, t, os⟩ := s
 exact PySem.W.make_core (PySem.W.makes_of X hm) (PySem.W.looks_findIn X hi) (fun self => PySem.W.bind_fn X self hf) (.inl rfl) h
end
def putF (f : Str) (v : V) : List (Str × V) → List (Str × V)
 | [] => [(f, v)]
 | (g, x) :: r => if g = f then (g, v) :: r else (g, x) :: putF f v r
theorem lookup_putF (f g : Str) (v : V) : ∀ fs : List (Str × V), (putF f v fs).lookup g = if g = f then some v else fs.lookup g
 | [] => by
  show List.lookup g [(f, v)] = _
  by_cases h : g = f
  ·have hb : (g == f) = true := beq_iff_eq.mpr h
   simp only [List.lookup, hb, if_pos h]
  ·have hb : (g == f) = false := beq_eq_false_iff_ne.mpr h
   simp only [List.lookup, hb, if_neg h]
 | (k, x) :: r => by
  have ih := lookup_putF f g v r
  rw [show putF f v ((k, x) :: r) = (if k = f then (k, v) :: r else (k, x) :: putF f v r) from rfl]
  by_cases hk : k = f
  ·rw [if_pos hk]
   by_cases h : g = k
   ·have hb : (g == k) = true := beq_iff_eq.mpr h
    simp only [List.lookup, hb, if_pos (h.trans hk)]
   ·have hb : (g == k) = false := beq_eq_false_iff_ne.mpr h
    simp only [List.lookup, hb, if_neg (fun e : g = f => h (e.trans hk.symm))]
  ·rw [if_neg hk]
   by_cases h : g = k
   ·have hb : (g == k) = true := beq_iff_eq.mpr h
    simp only [List.lookup, hb, if_neg (fun e : g = f => hk (h.symm.trans e))]
   ·have hb : (g == k) = false := beq_eq_false_iff_ne.mpr h
    simp only [List.lookup, hb]
    exact ih
theorem keys_putF (f : Str) (v : V) : ∀ fs : List (Str × V), f ∈ (putF f v fs).map (·.1) ∧ ∀ g, g ∈ fs.map (·.1) → g ∈ (putF f v fs).map (·.1)
 | [] => ⟨by simp [putF], fun g h => by simp at h⟩
 | (k, x) :: r => by
  obtain ⟨i1, i2⟩ := keys_putF f v r
  rw [show putF f v ((k, x) :: r) = (if k = f then (k, v) :: r else (k, x) :: putF f v r) from rfl]
  by_cases hk : k = f
  ·rw [if_pos hk]
   subst hk
   exact ⟨by simp, fun g h => by simpa using h⟩
  ·rw [if_neg hk]
   refine ⟨?_, fun g h => ?_⟩
   ·rw [List.map_cons]
    exact List.mem_cons_of_mem _ i1
   ·rw [List.map_cons] at h ⊢
    rcases List.mem_cons.mp h with e | e
    ·exact List.mem_cons.mpr (.inl e)
    ·exact List.mem_cons_of_mem _ (i2 g e)
theorem length_putF (f : Str) (v : V) : ∀ fs : List (Str × V), (putF f v fs).length ≤ fs.length + 1
 | [] => by simp [putF]
 | (k, x) :: r => by
  have ih := length_putF f v r
  rw [show putF f v ((k, x) :: r) = (if k = f then (k, v) :: r else (k, x) :: putF f v r) from rfl]
  by_cases hk : k = f
  ·rw [if_pos hk, List.length_cons, List.length_cons]; omega
  ·rw [if_neg hk, List.length_cons, List.length_cons]; omega
theorem RelO.some_of {v : V} {o : Option Value} (r : RelO (some v) o) : ∃ u, o = some u ∧ RelV v u := by
 cases o with
 | none => exact (show False from r).elim
 | some u => exact ⟨u, rfl, r⟩
theorem RelO.none_of {o : Option Value} (r : RelO none o) : o = none := by
 cases o with
 | none => rfl
 | some u => exact (show False from r).elim
theorem handed_of {v : V} {u : Value} (r : RelV v u) : PySem.W.handedIn u = true := by
 cases v with
 | non => cases (show u = Value.none from r); rfl
 | bl b => cases (show u = Value.bool b from r); rfl
 | int i => obtain ⟨t, e⟩ := (show ∃ t, u = Value.int i t from r); cases e; rfl
 | str x => obtain ⟨t, e⟩ := (show ∃ t, u = Value.str x t from r); cases e; rfl
 | byt b => obtain ⟨t, e⟩ := (show ∃ t, u = Value.bytes b t from r); cases e; rfl
 | flt b => obtain ⟨t, e⟩ := (show ∃ t, u = Value.float b t from r); cases e; rfl
 | ref a => cases (show u = Value.ref a from r); rfl
 | ty n => cases (show u = Value.type n from r); rfl
section
variable {P : Program} {w : World} {H H' : Hp} {h h' : Heap} {a C dx : Addr} {fs fs' : List (Str × V)}
theorem ins_get (hok : HOk P w H h) (e : H a = some (.ins C dx fs)) : ∃ mA, ObjM h a dx C mA ∧ (∀ f, RelO (fs.lookup f) (mA f)) ∧ PySem.Within mA (fs.map (·.1)) ∧ fs.length ≤ 1000 ∧ H dx = some (.own a) := by
 obtain ⟨d, z, ne, ob, mA, n, r, q⟩ := (show ObjOk P w H h a (.ins C dx fs) from hok a _ e)
 exact ⟨mA, ⟨ob, n, ne⟩, r, q, z, d⟩
end
structure Cls (K : PySem.W.Frag) (C : Addr) : Prop where
 pg : PySem.W.plainGet K C Str.empty = true
 hd : PySem.W.hasDictIn K C = true
 po : PySem.W.plainOver K C = true
 sa : PySem.W.findIn K (.ref C) "__setattr__" = some (some (.builtin "object.__setattr__"))
theorem Cls.get {K : PySem.W.Frag} {C : Addr} (c : Cls K C) (f : Str) : PySem.W.plainGet K C f = true := c.pg
def NoAttr (K : PySem.W.Frag) (C : Addr) (f : Str) : Prop := PySem.W.findIn K (.ref C) f = some none
theorem NoAttr.taker {K : PySem.W.Frag} {C : Addr} {f : Str} (n : NoAttr K C f) : PySem.W.takerIn K C f = some none := by
 unfold PySem.W.takerIn
 rw [show PySem.W.findIn K (.ref C) f = some none from n]
 rfl
structure Meth (K : PySem.W.Frag) (C : Addr) (m : Str) (f : Addr) : Prop where
 at_ : PySem.W.findIn K (.ref C) m = some (some (.ref f))
 fn : PySem.W.isFn K (.ref f) = true
 kp : PySem.W.keepIn K (.ref f) = true
section
variable {X : Cx} {pins : List (Addr × Obj)} {σ : St} {H : Hp} {s : Shared} {a C dx : Addr} {fs : List (Str × V)} {f : Str} {v : V} {A : Around} {E : Value → Shared → Prop}
theorem getattr_ok {b : Bool} {Q : Value → Shared → Prop} (I : Inv X pins σ H s) (e : H a = some (.ins C dx fs)) (c : Cls X.K C) (n : NoAttr X.K C f) (l : fs.lookup f = some v)
  (h : ∀ u s', Inv X pins σ H s' → RelV v u → Q u s') : wpAny (model X.prog X.w) A (getAttr (.ref a) f b) Q E s := by
 obtain ⟨mA, O, r, _, _, _⟩ := ins_get I.hok e
 obtain ⟨u, hu, ru⟩ := RelO.some_of (v := v) (o := mA f) (by rw [← l]; exact r f)
 exact get_map I.kIn O (c.get f) c.hd n hu (handed_of ru) (h u _ (I.tok _) ru)
theorem getmeth_ok {m : Str} {g : Addr} {pl : Sem Bool} {Q : Value × List Value → Shared → Prop} (I : Inv X pins σ H s) (e : H a = some (.ins C dx fs)) (c : Cls X.K C) (k : Meth X.K C m g) (l : fs.lookup m = none)
  (h : Q (.ref g, [.ref a]) s) : wpAny (model X.prog X.w) A (getMethod (.ref a) m pl) Q E s := by
 obtain ⟨mA, O, r, _, _, _⟩ := ins_get I.hok e
 have hn : mA m = none := RelO.none_of (by rw [← l]; exact r m)
 exact get_meth I.kIn O (c.get m) k.at_ k.fn hn h
theorem setattr_ok {y : V} {u : Value} {Q : Unit → Shared → Prop} (I : Inv X pins σ H s) (e : H a = some (.ins C dx fs)) (c : Cls X.K C) (n : NoAttr X.K C f) (hl : fs.length < 1000) (ry : RelV y u)
  (h : ∀ s', Inv X pins σ (upd H a (.ins C dx (putF f y fs))) s' → Q () s') : wpAny (model X.prog X.w) A (setAttr (.ref a) f u) Q E s := by
 obtain ⟨mA, O, r, wi, _, ho⟩ := ins_get I.hok e
 have hz : (fs.map (·.1)).length ≤ sizeLine := by rw [List.length_map, sizeLine_eq]; omega
 refine set_map I.kIn O c.sa c.po n.taker c.hd wi hz fun h' O' sb => h _ ?_
 have hd : ∃ o, h'.get? dx = some o := let ⟨o, _, _, e', _⟩ := O'.ns; ⟨o, e'⟩
 refine I.write (x := a) (e := dx) (by rw [e]; exact True.intro) (.inr ho) (fun b q hb z => (sb.2 b hb).trans z) hd ?_
 refine ⟨by rw [upd_ne O.ne]; exact ho, ?_, O.ne, O'.obj, _, O'.ns, fun g => ?_, fun g hg => ?_⟩
 ·have := length_putF f y fs; omega
 ·show RelO ((putF f y fs).lookup g) (if g = f then some u else mA g)
  rw [lookup_putF]
  by_cases q : g = f
  ·rw [if_pos q, if_pos q]; exact ry
  ·rw [if_neg q, if_neg q]; exact r g
 ·by_cases q : g = f
  ·rw [q]; exact (keys_putF f y fs).1
  ·refine (keys_putF f y fs).2 g (wi g fun z => hg ?_)
   show (if g = f then some u else mA g) = none
   rw [if_neg q]; exact z
theorem Inv.made (I : Inv X pins σ H s) : Inv X pins σ (upd (upd H s.heap.objs.size (.own (s.heap.objs.size + 1))) (s.heap.objs.size + 1) (.ins C s.heap.objs.size []))
  { s with heap := (s.heap.push PySem.W.emptyDict).push (PySem.W.instObj C s.heap.objs.size) } := by
 have e1 : (s.heap.push PySem.W.emptyDict).get? s.heap.objs.size = some PySem.W.emptyDict := Heap.get?_push_size s.heap rfl
 have e2 : ((s.heap.push PySem.W.emptyDict).push (PySem.W.instObj C s.heap.objs.size)).get? (s.heap.objs.size + 1) = some (PySem.W.instObj C s.heap.objs.size) := by
  have := Heap.get?_push_size (s.heap.push PySem.W.emptyDict) (o := PySem.W.instObj C s.heap.objs.size) rfl
  rwa [Heap.size_push] at this
 have e3 : (s.heap.push PySem.W.emptyDict).Ns s.heap.objs.size (fun _ => none) := ⟨PySem.W.emptyDict, #[], _, e1, rfl, (fun e he => absurd he (by simp)), fun _ => rfl⟩
 have I1 := I.laid (a := s.heap.objs.size) (o := .own (s.heap.objs.size + 1)) (h' := s.heap.push PySem.W.emptyDict) (t' := s.toks) (fun b u q => Heap.get?_push_of_some _ q) (Nat.le_refl _) ⟨_, e1⟩
 refine I1.laid (a := s.heap.objs.size + 1) (o := .ins C s.heap.objs.size []) (t' := s.toks) (fun b u q => Heap.get?_push_of_some _ q) (Nat.le_of_eq (Heap.size_push _ _)) ?_
 have ne : s.heap.objs.size ≠ s.heap.objs.size + 1 := Nat.ne_of_lt (Nat.lt_succ_self _)
 refine ⟨by rw [upd_ne ne, upd_same], Nat.zero_le _, ne, e2, fun _ => none, (Heap.Ns1.of_empty e3).at fun o q => Heap.get?_push_of_some _ q, fun _ => True.intro, fun y hy => absurd rfl hy⟩
theorem attr_of {prog : Program} {w : World} {env : Env} {e : Expr} {f : Str} {pos : Pos} {s : Shared} {Q : Value → Shared → Prop} (hb : attributeBase e f env (eval e env) = eval e env)
  (h : wpAny (model prog w) A (eval e env) (fun o s₁ => wpAny (model prog w) A (getAttr o f true) Q E s₁) E s) : wpAny (model prog w) A (eval (.Attribute e f pos) env) Q E s :=
 Attribute_any_ h (by rw [arm_eval_Attribute, hb])
end
def tFld (K : PySem.W.Frag) (ta : TE) (f : Str) : TE := fun σ H Q => ta σ H fun x H1 => ∃ a C dx fs v, x = .ref a ∧ H1 a = some (.ins C dx fs) ∧ Cls K C ∧ NoAttr K C f ∧ fs.lookup f = some v ∧ Q v H1
def sFld (K : PySem.W.Frag) (ta tv : TE) (f : Str) : TS := fun D σ H => tv σ H fun y H1 => ta σ H1 fun x H2 => ∃ a C dx fs, x = .ref a ∧ H2 a = some (.ins C dx fs) ∧ Cls K C ∧ NoAttr K C f ∧ fs.length < 1000 ∧
 D.nx σ (upd H2 a (.ins C dx (putF f y fs)))
section
variable {X : Cx} {o e value : Expr} {f : Str} {pos pos' tpos : Pos} {ta tv : TE}
theorem pe_fld (he : PE X e ta) (hb : attributeBase e f X.env (eval e X.env) = eval e X.env) : PE X (.Attribute e f pos) (tFld X.K ta f) := by
 intro pins s σ H Q I h
 refine attr_of hb (thn (he pins s σ H _ I h) fun u s1 ⟨x, H1, I1, rx, a, C, dx, fs, v, ex, ea, c, n, l, q⟩ => ?_)
 subst ex
 obtain rfl : u = Value.ref a := rx
 exact getattr_ok I1 ea c n l fun u' s2 I2 ru => ⟨v, H1, I2, ru, q⟩
theorem ps_fld (ha : PE X o ta) (hv : PE X value tv) (hs : swapsWith value (some (.Attribute o f pos')) pos.line X.env = pure false) : PS X (.Assign [.Attribute o f pos'] value pos) (sFld X.K ta tv f) := by
 intro pins s σ H D I h
 refine plainObj_wpAny_Assign_Attribute (thn (hv pins s σ H _ I h) fun u s1 ⟨y, H1, I1, ry, q⟩ => thn (ha pins s1 σ H1 _ I1 q) fun ov s2 ⟨x, H2, I2, rx, a, C, dx, fs, ex, ea, c, n, l, q2⟩ => ?_) hs
 subst ex
 obtain rfl : ov = Value.ref a := rx
 exact setattr_ok I2 ea c n l ry fun s3 I3 => ⟨σ, _, I3, q2⟩
end
section
variable {X : Cx} {pins : List (Addr × Obj)} {σ : St} {H : Hp} {s : Shared} {A : Around} {E : Value → Shared → Prop} {Q : Value → Shared → Prop} {c : Value} {b : Bool}
inductive TyOf (K : PySem.W.Frag) (H : Hp) : V → Value → Prop where
 | non : TyOf K H .non (.type "NoneType")
 | bl (x : Bool) : TyOf K H (.bl x) (.type "bool")
 | int (i : Int) : TyOf K H (.int i) (.type "int")
 | str (x : Str) : TyOf K H (.str x) (.type "str")
 | flt (x : UInt64) : TyOf K H (.flt x) (.type "float")
 | lst {a : Addr} {xs : List V} (e : H a = some (.lst xs)) : TyOf K H (.ref a) (.type "list")
 | frz {a : Addr} {o : Obj} {xs : List V} (e : H a = some (.frz o (.lst xs))) : TyOf K H (.ref a) (.type "list")
 | tup {a : Addr} {xs : List V} (e : H a = some (.tup xs)) : TyOf K H (.ref a) (.type "tuple")
 | dK {a : Addr} {kvs : List (Key × V)} (e : H a = some (.dK kvs)) : TyOf K H (.ref a) (.type "dict")
 | dT {a : Addr} {kvs : List (List Key × V)} (e : H a = some (.dT kvs)) : TyOf K H (.ref a) (.type "dict")
 | ins {a C dx : Addr} {fs : List (Str × V)} (e : H a = some (.ins C dx fs)) (cl : Cls K C) (ha : PySem.W.findIn K (.ref C) "__class__" = some (some (.builtin "object.__class__")))
   (hn : PySem.W.specialIn K (.builtin "object.__class__") "__get__" = some (some (.builtin "getset_descriptor.__get__"))) (htk : PySem.W.takesIn K (.builtin "object.__class__") = some true)
   (hm : PySem.W.mroIn K C (.type "object") = some true) : TyOf K H (.ref a) (.ref C)
theorem isinst_ok {x : V} {u t : Value} (I : Inv X pins σ H s) (rx : RelV x u) (ty : TyOf X.K H x t) (e : PySem.W.kitOne X.K t c = some b) (h : ∀ tk, Q (.bool b) { s with toks := tk }) :
  wpAny (model X.prog X.w) A (call (.builtin "isinstance") [u, c]) Q E s := by
 cases ty with
 | non => cases (show u = Value.none from rx); exact PySem.W.kia_one PySem.W.kitx_none I.kIn True.intro e (fun z => nomatch z) h
 | bl y => cases (show u = Value.bool y from rx); exact PySem.W.kia_one PySem.W.kitx_bool I.kIn True.intro e (fun z => nomatch z) h
 | int i => obtain ⟨t, q⟩ := (show ∃ t, u = Value.int i t from rx); cases q; exact PySem.W.kia_one PySem.W.kitx_int I.kIn True.intro e (fun z => nomatch z) h
 | str y => obtain ⟨t, q⟩ := (show ∃ t, u = Value.str y t from rx); cases q; exact PySem.W.kia_one PySem.W.kitx_str I.kIn True.intro e (fun z => nomatch z) h
 | flt y => obtain ⟨t, q⟩ := (show ∃ t, u = Value.float y t from rx); cases q; exact PySem.W.kia_one PySem.W.kitx_float I.kIn True.intro e (fun z => nomatch z) h
 | @lst a xs ea =>
  cases (show u = Value.ref a from rx)
  obtain ⟨_, _, n, _, h1⟩ := (show ObjOk X.prog X.w H s.heap a (.lst xs) from I.hok a _ ea)
  exact PySem.W.kia_one PySem.W.kitx_list I.kIn ⟨_, h1, rfl⟩ e (fun z => nomatch z) h
 | @frz a ob xs ea =>
  cases (show u = Value.ref a from rx)
  obtain ⟨_, _, _, n, _, h1⟩ := (show ObjOk X.prog X.w H s.heap a (.frz ob (.lst xs)) from I.hok a _ ea)
  exact PySem.W.kia_one PySem.W.kitx_list I.kIn ⟨_, h1, rfl⟩ e (fun z => nomatch z) h
 | @tup a xs ea =>
  cases (show u = Value.ref a from rx)
  obtain ⟨_, _, _, p⟩ := (show ObjOk X.prog X.w H s.heap a (.tup xs) from I.hok a _ ea)
  obtain ⟨o, h1, h2, _⟩ := p
  exact PySem.W.kia_one PySem.W.kitx_tuple I.kIn ⟨o, h1, h2⟩ e (fun z => nomatch z) h
 | @dK a kvs ea =>
  cases (show u = Value.ref a from rx)
  obtain ⟨_, _, vs, _, p⟩ := (show ObjOk X.prog X.w H s.heap a (.dK kvs) from I.hok a _ ea)
  obtain ⟨o, es, ep, h1, h2, _⟩ := p
  exact PySem.W.kia_one PySem.W.kitx_dict I.kIn ⟨o, h1, h2.1⟩ e (fun z => nomatch z) h
 | @dT a kvs ea =>
  cases (show u = Value.ref a from rx)
  obtain ⟨_, _, xs, _, o, es, ep, h1, h2, _⟩ := (show ObjOk X.prog X.w H s.heap a (.dT kvs) from I.hok a _ ea)
  exact PySem.W.kia_one PySem.W.kitx_dict I.kIn ⟨o, h1, h2.1⟩ e (fun z => nomatch z) h
 | @ins a C dx fs ea cl ha hn htk hm =>
  cases (show u = Value.ref a from rx)
  obtain ⟨mA, O, _⟩ := ins_get I.hok ea
  obtain ⟨od, J, _⟩ := O.look
  exact PySem.W.kia_one (PySem.W.kitx_own (cl.get _) cl.hd ha hn htk hm) I.kIn J e (fun z => nomatch z) h
end
end L2
namespace L2
open PySem PySem.Spec PyProof.Rows
structure Room (k : Nat) (A : Around) : Prop where
 hd : A.handled = none
 dp : A.depth + 3 * k + 5 < recursionLimit
 un : A.units + 16 * k + 200 < cLine
theorem Room.mono {j k : Nat} {A : Around} (r : Room k A) (h : j ≤ k) : Room j A := ⟨r.hd, by have := r.dp; omega, by have := r.un; omega⟩
theorem Room.deeper {k : Nat} {A : Around} (r : Room (k + 1) A) (env : Env) : Room k (A.deeper env) :=
 ⟨r.hd, by have := r.dp; show A.depth + 1 + 3 * k + 5 < _; omega, by have := r.un; show A.units + 3 + 16 * k + 200 < _; omega⟩
theorem make_depth {A : Around} {C : Addr} {us : List Value} {kw : List (Str × Value)} : (A.under (.builtin "type.__call__" ⟨.ref C :: us, kw⟩)).depth = A.depth + 1 := by
 first | rfl | simp [Around.under, Code.weight, Code.isCreation, Code.isGuard, Code.isCaller, Code.frames, Code.isFrame, guardIds]
theorem make_units {A : Around} {C : Addr} {us : List Value} {kw : List (Str × Value)} : (A.under (.builtin "type.__call__" ⟨.ref C :: us, kw⟩)).units = A.units + 1 := by
 first | rfl | simp [Around.under, Code.cUnits, Code.frames, Code.isFrame]
theorem Room.make {k : Nat} {A : Around} (r : Room (k + 1) A) (C : Addr) (us : List Value) (kw : List (Str × Value)) : Room k (A.under (.builtin "type.__call__" ⟨.ref C :: us, kw⟩)) :=
 ⟨r.hd, by have := r.dp; rw [make_depth]; omega, by have := r.un; rw [make_units]; omega⟩
theorem Room.depth {k : Nat} {A : Around} (r : Room k A) : A.depth < recursionLimit := by have := r.dp; omega
theorem Room.units {k : Nat} {A : Around} (r : Room k A) : A.units + 64 < cLine := by have := r.un; omega
def tNil : TA := fun _ H Q => Q [] H
def tCons (ta : TE) (tr : TA) : TA := fun σ H Q => ta σ H fun x H1 => tr σ H1 fun xs H2 => Q (x :: xs) H2
section
variable {X : Cx} {e : Expr} {es : List Expr} {te : TE} {t : TA} {pos : Pos}
theorem pa_nil : PA X [] tNil := fun _ _ _ _ H Q I h => Calls.spliced_nil ⟨[], H, I, .nil, h⟩
theorem pa_cons (ha : PE X e te) (hr : PA X es t) (hs : starEach (e :: es) X.env = (false, eval e X.env) :: starEach es X.env := by rfl) : PA X (e :: es) (tCons te t) := by
 intro pos pins s σ H Q I h
 rw [hs]
 show wpAny _ _ (spliced ((false, eval e X.env) :: backTo pos (starEach es X.env))) _ _ s
 refine Calls.spliced_cons (thn (ha pins s σ H _ I h) fun u s1 ⟨x, H1, I1, r1, q1⟩ => ?_)
 exact thn (hr pos pins s1 σ H1 _ I1 q1) fun us s2 ⟨xs, H2, I2, r2, q2⟩ => ⟨x :: xs, H2, I2, .cons r1 r2, q2⟩
def tTup (t : TA) : TE := fun σ H Q => t σ H fun xs H1 => xs.length ≤ sizeLine ∧ ∀ p, H1 p = none → Q (.ref p) (upd H1 p (.tup xs))
def tLst (t : TA) : TE := fun σ H Q => t σ H fun xs H1 => xs.length ≤ sizeLine ∧ ∀ p, H1 p = none → Q (.ref p) (upd H1 p (.lst xs))
theorem pe_tup {x1} (h : PA X es t) : PE X (.Tuple es x1 pos) (tTup t) := by
 intro pins s σ H Q I hq
 refine wpAny_Tuple_spliced (thn (h pos pins s σ H _ I hq) fun us s1 ⟨xs, H1, I1, r, z, q⟩ => ⟨by rw [← r.length]; exact z, ?_⟩)
 have hf : H1 s1.heap.objs.size = none := I1.hok.fresh (Nat.le_refl _)
 refine ⟨.ref s1.heap.objs.size, upd H1 s1.heap.objs.size (.tup xs), I1.laid (t' := s1.toks) (fun b u e => Heap.get?_push_of_some _ e) (Nat.le_refl _) ?_, rfl, q _ hf⟩
 exact ⟨z, us, r, ⟨_, Heap.get?_push_size _ rfl, rfl, _, rfl⟩⟩
theorem pe_lst (h : PA X es t) : PE X (.List es pos) (tLst t) := by
 intro pins s σ H Q I hq
 refine wpAny_List_spliced (thn (h pos pins s σ H _ I hq) fun us s1 ⟨xs, H1, I1, r, z, q⟩ => ⟨by rw [← r.length]; exact z, ?_⟩)
 have hf : H1 s1.heap.objs.size = none := I1.hok.fresh (Nat.le_refl _)
 refine ⟨.ref s1.heap.objs.size, upd H1 s1.heap.objs.size (.lst xs), I1.laid (t' := s1.toks) (fun b u e => Heap.get?_push_of_some _ e) (Nat.le_refl _) ?_, rfl, q _ hf⟩
 exact ⟨z, us, 0, r, Heap.get?_push_size _ rfl⟩
end
abbrev Sp := List V → Hp → VK → XK → Prop
abbrev CXT := List Env → Hp → Shared → XK → Value → Shared → Prop
structure Env0 (P : Program) (w : World) (K : PySem.W.Frag) (mg : Str → Option Value) (base : Heap) (A : Around) (outer : List Env) (s : Shared) (H : Hp) : Prop where
 frames : A.frames = some outer
 mod : Mod K mg base
 bs : ∀ b o, base.get? b = some o → s.heap.get? b = some o ∧ H b = none
 bsz : base.objs.size ≤ s.heap.objs.size
 funs : s.heap.FunFrames base outer
 frf : ∀ b ∈ frs outer, H b = none
 hok : HOk P w H s.heap
 bare : AllBare s.gens
def CE (outer : List Env) (P : Program) (w : World) (H : Hp) (s : Shared) (Q : VK) (u : Value) (s' : Shared) : Prop :=
 ∃ v H', s'.os = s.os ∧ AllBare s'.gens ∧ Un (frs outer) [] H H' s.heap s'.heap ∧ HOk P w H' s'.heap ∧ RelV v u ∧ Q v H'
def CR (CX : CXT) (outer : List Env) (P : Program) (w : World) (H : Hp) (s : Shared) (Q : VK) (E : XK) (r : Result) (s' : Shared) : Prop :=
 match r with
 | .ok (.ret u) => CE outer P w H s Q u s'
 | .ok _ => False
 | .error e => CX outer H s E e s'
structure FnOk (P : Program) (w : World) (K : PySem.W.Frag) (mg : Str → Option Value) (base : Heap) (CX : CXT) (k : Nat) (f : Addr) (fd : FuncData) (ps : List Str) (sp : Sp) : Prop where
 len : ∀ vs H Q E, sp vs H Q E → vs.length = ps.length
 run : ∀ (A : Around) (outer : List Env) (s : Shared) (H : Hp) (args : Args) (us : List Value) (vs : List V) (Q : VK) (E : XK), Room k A → Env0 P w K mg base A outer s H → BindsTo s fd args (ps.zip us) → Vals vs us → sp vs H Q E →
  codeAny (model P w) A (.call (.ref f) args) (CR CX outer P w H s Q E) s
theorem Env0.make {P : Program} {w : World} {K : PySem.W.Frag} {mg : Str → Option Value} {base : Heap} {A : Around} {outer : List Env} {s : Shared} {H : Hp} (e : Env0 P w K mg base A outer s H) (C : Addr) (us : List Value) (kw : List (Str × Value)) :
  Env0 P w K mg base (A.under (.builtin "type.__call__" ⟨.ref C :: us, kw⟩)) outer s H := ⟨by first | exact e.frames | (simpa [Around.under, Code.envs, Code.isFrame, pushEnvs] using e.frames), e.mod, e.bs, e.bsz, e.funs, e.frf, e.hok, e.bare⟩
section
variable {X : Cx} {pins : List (Addr × Obj)} {σ : St} {H : Hp} {s s' : Shared}
theorem Inv.env0 (I : Inv X pins σ H s) : Env0 X.prog X.w X.K X.mg X.base X.A X.stack s H :=
 ⟨I.ok.frames, I.ok.mod, I.bs, Nat.le_trans I.ok.bsz I.sz, I.stack, I.stkFree, I.hok, I.bare⟩
theorem Inv.after {Q : VK} {u : Value} (I : Inv X pins σ H s) (h : CE X.stack X.prog X.w H s Q u s') : EP X pins σ Q u s' := by
 obtain ⟨v, H', os, bare, un, hok, r, q⟩ := h
 obtain ⟨hh, g, d, t, os'⟩ := s'
 obtain rfl : os' = s.os := os
 exact ⟨v, H', I.call (h' := hh) (g' := g) (d' := d) (t' := t) (ch := []) un hok bare (fun b z => absurd z (by simp)), r, q⟩
end
def tCall (sp : Sp) (dvs : List V) (E : XK) (t : TA) : TE := fun σ H Q => t σ H fun vs H1 => sp (vs ++ dvs) H1 Q E
def tMake (C : Addr) (sp : Sp) (dvs : List V) (E : XK) (t : TA) : TE := fun σ H Q => t σ H fun vs H1 => ∀ x dx, H1 x = none → H1 dx = none → dx ≠ x →
 sp (.ref x :: (vs ++ dvs)) (upd (upd H1 dx (.own x)) x (.ins C dx [])) (fun v H2 => v = .non ∧ Q (.ref x) H2) E
def Binds (K : PySem.W.Frag) (fd : FuncData) (ps : List Str) (ds : List Value) : Prop :=
 ∀ (s : Shared) (us : List Value), K.In s.heap → (us ++ ds).length = ps.length → BindsTo s fd ⟨us, []⟩ (ps.zip (us ++ ds))
theorem Binds.all {K : PySem.W.Frag} {fd : FuncData} {ps : List Str} (h : ∀ us : List Value, us.length = ps.length → bindArgs fd ⟨us, []⟩ = pure (ps.zip us)) : Binds K fd ps [] := fun s us _ hl => by
 rw [List.append_nil] at hl ⊢
 exact .of_eq (h us hl)
def Passes (CX : CXT) (X : Cx) (E : XK) : Prop := ∀ (pins : List (Addr × Obj)) (σ : St) (H : Hp) (s : Shared) (e : Value) (s' : Shared), Inv X pins σ H s → CX X.stack H s E e s' → X.xe e s'
section
variable {X : Cx} {CX : CXT} {k : Nat} {f C : Addr} {fd : FuncData} {ps : List Str} {sp : Sp} {dvs : List V} {ds : List Value} {E : XK} {x m : Str} {p pos apos : Pos} {e o : Expr} {es : List Expr} {ta : TE} {t : TA}
theorem run_fn {pins : List (Addr × Obj)} {σ : St} {H : Hp} {s : Shared} {Q : VK} {us : List Value} {vs : List V} (F : FnOk X.prog X.w X.K X.mg X.base CX k f fd ps sp) (hr : Room k X.A) (hb : Binds X.K fd ps ds) (hd : Vals dvs ds) (hx : Passes CX X E)
  (I : Inv X pins σ H s) (r : Vals vs us) (h : sp (vs ++ dvs) H Q E) : wpAny (model X.prog X.w) X.A (call (.ref f) us) (EP X pins σ Q) X.xe s := by
 have r2 : Vals (vs ++ dvs) (us ++ ds) := r.append hd
 have hl : (us ++ ds).length = ps.length := by rw [← r2.length]; exact F.len _ _ _ _ h
 refine wpAny_call (codeAny_mono (F.run X.A X.stack s H ⟨us, []⟩ (us ++ ds) (vs ++ dvs) Q E hr I.env0 (hb s us I.kIn hl) r2 h) fun r s' hq => ?_)
 cases r with
 | error e => exact hx pins σ H s e s' I hq
 | ok fl =>
  cases fl with
  | ret u => exact I.after hq
  | next => exact False.elim hq
  | brk => exact False.elim hq
  | cont => exact False.elim hq
theorem pe_call (F : FnOk X.prog X.w X.K X.mg X.base CX k f fd ps sp) (hr : Room k X.A) (hg : Gl X x) (hm : X.mg x = some (.ref f)) (hk : PySem.W.keepIn X.K (.ref f) = true) (hb : Binds X.K fd ps ds) (hd : Vals dvs ds) (hx : Passes CX X E)
  (ha : PA X (e :: es) t) (hdb : (x == ("__debug__" : Str)) = false := by decide) (he : starEach (e :: es) X.env = (false, eval e X.env) :: starEach es X.env := by rfl) (hpl : (backTo pos (starEach es X.env)).any (·.1) = false := by rfl) :
  PE X (.Call (.Name x p) (e :: es) [] pos) (tCall sp dvs E t) := by
 intro pins s σ H Q I h
 refine wpAny_Call_Name_kw (ld_glob I hg hm ?_ hdb)
 refine PySem.W.callWith_K (h₀ := X.base) I.ok.mod.kin hk (thn (ha pos pins s σ H _ I h) fun us s1 ⟨vs, H1, I1, r, q⟩ => ⟨I1.kIn, ?_⟩) he hpl
 exact run_fn F hr hb hd hx I1 r q
theorem pe_call0 (F : FnOk X.prog X.w X.K X.mg X.base CX k f fd ps sp) (hr : Room k X.A) (hg : Gl X x) (hm : X.mg x = some (.ref f)) (hk : PySem.W.keepIn X.K (.ref f) = true) (hb : Binds X.K fd ps ds) (hd : Vals dvs ds) (hx : Passes CX X E)
  (hdb : (x == ("__debug__" : Str)) = false := by decide) : PE X (.Call (.Name x p) [] [] pos) (tCall sp dvs E tNil) := by
 intro pins s σ H Q I h
 refine wpAny_Call_Name_kw (ld_glob I hg hm ?_ hdb)
 exact PySem.W.callWith_K0 I.kIn hk (run_fn (us := []) F hr hb hd hx I .nil h)
structure Mk (K : PySem.W.Frag) (C f : Addr) : Prop where
 makes : PySem.W.makesIn K C = true
 init : PySem.W.findIn K (.ref C) "__init__" = some (some (.ref f))
 fn : PySem.W.isFn K (.ref f) = true
 kp : PySem.W.keepIn K (.ref C) = true
theorem run_make {pins : List (Addr × Obj)} {σ : St} {H : Hp} {s : Shared} {Q : VK} {us : List Value} {vs : List V} (M : Mk X.K C f) (F : FnOk X.prog X.w X.K X.mg X.base CX k f fd ps sp) (hr : Room (k + 1) X.A) (hb : Binds X.K fd ps ds) (hd : Vals dvs ds)
  (hx : Passes CX X E) (I : Inv X pins σ H s) (r : Vals vs us)
  (h : ∀ x dx, H x = none → H dx = none → dx ≠ x → sp (.ref x :: (vs ++ dvs)) (upd (upd H dx (.own x)) x (.ins C dx [])) (fun v H2 => v = .non ∧ Q (.ref x) H2) E) :
  wpAny (model X.prog X.w) X.A (call (.ref C) us) (EP X pins σ Q) X.xe s := by
 have hq := h (s.heap.objs.size + 1) s.heap.objs.size (I.hok.fresh (Nat.le_succ _)) (I.hok.fresh (Nat.le_refl _)) (Nat.ne_of_lt (Nat.lt_succ_self _))
 have I2 := Inv.made (C := C) I
 have r2 : Vals (V.ref (s.heap.objs.size + 1) :: (vs ++ dvs)) (Value.ref (s.heap.objs.size + 1) :: (us ++ ds)) := .cons rfl (r.append hd)
 have hl : (Value.ref (s.heap.objs.size + 1) :: us ++ ds).length = ps.length := by
  have e := r2.length
  rw [F.len _ _ _ _ hq] at e
  exact e.symm
 refine wpAny_call (make_map (f := f) I.kIn M.makes M.init (beq_iff_eq.mp M.fn) (codeAny_mono (F.run _ X.stack _ _ ⟨Value.ref (s.heap.objs.size + 1) :: us, []⟩ (Value.ref (s.heap.objs.size + 1) :: (us ++ ds)) _ _ E (hr.make C us [])
  (I2.env0.make C us []) (hb _ (Value.ref (s.heap.objs.size + 1) :: us) I2.kIn hl) r2 hq) fun r s' hq' => ?_))
 cases r with
 | error e => exact hx pins σ _ _ e s' I2 hq'
 | ok fl =>
  cases fl with
  | ret u =>
   obtain ⟨v, H', I3, rv, ev, q3⟩ := I2.after hq'
   subst ev
   exact ⟨rv, ⟨V.ref (s.heap.objs.size + 1), H', I3, rfl, q3⟩⟩
  | next => exact False.elim hq'
  | brk => exact False.elim hq'
  | cont => exact False.elim hq'
theorem pe_make (M : Mk X.K C f) (F : FnOk X.prog X.w X.K X.mg X.base CX k f fd ps sp) (hr : Room (k + 1) X.A) (hg : Gl X x) (hm : X.mg x = some (.ref C)) (hb : Binds X.K fd ps ds) (hd : Vals dvs ds) (hx : Passes CX X E)
  (ha : PA X (e :: es) t) (hdb : (x == ("__debug__" : Str)) = false := by decide) (he : starEach (e :: es) X.env = (false, eval e X.env) :: starEach es X.env := by rfl) (hpl : (backTo pos (starEach es X.env)).any (·.1) = false := by rfl) :
  PE X (.Call (.Name x p) (e :: es) [] pos) (tMake C sp dvs E t) := by
 intro pins s σ H Q I h
 refine wpAny_Call_Name_kw (ld_glob I hg hm ?_ hdb)
 refine PySem.W.callWith_K (h₀ := X.base) I.ok.mod.kin M.kp (thn (ha pos pins s σ H _ I h) fun us s1 ⟨vs, H1, I1, r, q⟩ => ⟨I1.kIn, ?_⟩) he hpl
 exact run_make M F hr hb hd hx I1 r q
theorem pe_make0 (M : Mk X.K C f) (F : FnOk X.prog X.w X.K X.mg X.base CX k f fd ps sp) (hr : Room (k + 1) X.A) (hg : Gl X x) (hm : X.mg x = some (.ref C)) (hb : Binds X.K fd ps ds) (hd : Vals dvs ds) (hx : Passes CX X E)
  (hdb : (x == ("__debug__" : Str)) = false := by decide) : PE X (.Call (.Name x p) [] [] pos) (tMake C sp dvs E tNil) := by
 intro pins s σ H Q I h
 refine wpAny_Call_Name_kw (ld_glob I hg hm ?_ hdb)
 exact PySem.W.callWith_K0 I.kIn M.kp (run_make (us := []) M F hr hb hd hx I .nil h)
end
section
variable {X : Cx} {CX : CXT} {k : Nat} {f C : Addr} {fd : FuncData} {ps ks : List Str} {sp : Sp} {E : XK} {x m : Str} {p pos apos kpos : Pos} {e o : Expr} {es : List Expr} {kws : List Keyword} {te ta : TE} {t tk : TA} {nm : Option Str}
variable {g : List Value → List Value → List Value} {gV : List V → List V → List V}
end
structure FnScope (N P : List Str) (sc : Scope) : Prop where
 kind : sc.kind = .function
 co : sc.isCoroutine = false
 gen : sc.isGenerator = false
 nd : N.Nodup
 pre : N.take P.length = P
 par : ∀ x ∈ P, sc.names.lookup x = some .local ∨ sc.names.lookup x = some .cell
 nofree : ∀ y ∈ sc.names, y.2 ≠ .free
theorem bindL_out {kindOf : Str → Option NameKind} {x : Str} : ∀ {binds : List (Str × Value)} {m : Str → Option Value}, (∀ v, (x, v) ∉ binds) → bindL kindOf binds m x = m x
 | [], _, _ => rfl
 | (n, v) :: r, m, h => by
  unfold bindL
  rw [bindL_out fun w hw => h w (List.mem_cons_of_mem _ hw)]
  split
  ·have : x ≠ n := by rintro rfl; exact h v List.mem_cons_self
   simp [this]
  ·rfl
theorem bindC_out {kindOf : Str → Option NameKind} {x : Str} : ∀ {binds : List (Str × Value)} {m : Str → Option Value}, (∀ v, (x, v) ∉ binds) → bindC kindOf binds m x = m x
 | [], _, _ => rfl
 | (n, v) :: r, m, h => by
  unfold bindC
  rw [bindC_out fun w hw => h w (List.mem_cons_of_mem _ hw)]
  split
  ·rfl
  ·have : x ≠ n := by rintro rfl; exact h v List.mem_cons_self
   simp [this]
theorem bindL_get {kindOf : Str → Option NameKind} {x : Str} {v : Value} : ∀ {P : List Str} {vs : List Value} {i : Nat} {m : Str → Option Value}, P.Nodup → P[i]? = some x → vs[i]? = some v → kindOf x = some .local →
  bindL kindOf (P.zip vs) m x = some v
 | [], _, _, _, _, h, _, _ => by simp at h
 | _ :: _, [], _, _, _, _, h, _ => by simp at h
 | p :: P, w :: vs, 0, m, nd, h1, h2, hk => by
  simp at h1 h2; subst h1; subst h2
  show bindL kindOf ((p, w) :: P.zip vs) m p = _
  unfold bindL
  rw [bindL_out fun v hv => (List.nodup_cons.mp nd).1 (List.of_mem_zip hv).1, if_pos hk]
  simp
 | p :: P, w :: vs, i + 1, m, nd, h1, h2, hk => by
  show bindL kindOf ((p, w) :: P.zip vs) m x = _
  unfold bindL
  exact bindL_get (i := i) (List.nodup_cons.mp nd).2 (by simpa using h1) (by simpa using h2) hk
theorem bindC_get {kindOf : Str → Option NameKind} {x : Str} {v : Value} : ∀ {P : List Str} {vs : List Value} {i : Nat} {m : Str → Option Value}, P.Nodup → P[i]? = some x → vs[i]? = some v → kindOf x ≠ some .local →
  bindC kindOf (P.zip vs) m x = some v
 | [], _, _, _, _, h, _, _ => by simp at h
 | _ :: _, [], _, _, _, _, h, _ => by simp at h
 | p :: P, w :: vs, 0, m, nd, h1, h2, hk => by
  simp at h1 h2; subst h1; subst h2
  show bindC kindOf ((p, w) :: P.zip vs) m p = _
  unfold bindC
  rw [bindC_out fun v hv => (List.nodup_cons.mp nd).1 (List.of_mem_zip hv).1, if_neg hk]
  simp
 | p :: P, w :: vs, i + 1, m, nd, h1, h2, hk => by
  show bindC kindOf ((p, w) :: P.zip vs) m x = _
  unfold bindC
  exact bindC_get (i := i) (List.nodup_cons.mp nd).2 (by simpa using h1) (by simpa using h2) hk
def start (N : List Str) (vs : List V) : St := vs.map some ++ List.replicate (N.length - vs.length) none
def cxOf (CX : CXT) (P : Program) (w : World) (K : PySem.W.Frag) (mg : Str → Option Value) (base : Heap) (N : List Str) (qual : Str) (scope : Scope) (f : Addr) (cd : Value) (A : Around) (outer : List Env) (s : Shared) (H : Hp) (E : XK) : Cx where
 prog := P
 w := w
 K := K
 mg := mg
 base := base
 A := A.deeper (envOfC qual scope s.heap.objs.size f cd)
 N := N
 s₀ := s
 H₀ := H
 env := envOfC qual scope s.heap.objs.size f cd
 outer := outer
 stack := envOfC qual scope s.heap.objs.size f cd :: outer
 ex := []
 calm := true
 fn := fun _ => true
 pn := []
 xe := fun e s' => wpAny (model P w) (A.deeper (envOfC qual scope s.heap.objs.size f cd)) (leaving (envOfC qual scope s.heap.objs.size f cd) e) (fun _ s'' => CX outer H s E e s'') (fun e' s'' => CX outer H s E e' s'') s'
theorem cell_has {sc : Scope} {n : Nat} {x : Str} (h : sc.names.lookup x = some .cell) : ∃ c, (cellsFrom n sc.names []).lookup x = some c := by
 have q := PySem.W.cellsFrom_some sc.names n [] (.inl h)
 exact Option.isSome_iff_exists.mp q
theorem inv_start {CX : CXT} {P : Program} {w : World} {K : PySem.W.Frag} {mg : Str → Option Value} {base : Heap} {N ps : List Str} {qual : Str} {scope : Scope} {f : Addr} {cd : Value} {A : Around} {outer : List Env} {s s1 : Shared} {H : Hp} {E : XK} {us : List Value} {vs : List V}
  (S : FnScope N ps scope) (hd : A.handled = none) (e0 : Env0 P w K mg base A outer s H) (hl : vs.length = ps.length) (r : Vals vs us)
  (x : InCallC s s.heap.objs.size (bindL (envOfC qual scope s.heap.objs.size f cd).kindOf (ps.zip us) fun _ => none) (cellsFrom (s.heap.objs.size + 1) scope.names []) (bindC (envOfC qual scope s.heap.objs.size f cd).kindOf (ps.zip us) fun _ => none) s1) :
  Inv (cxOf CX P w K mg base N qual scope f cd A outer s H E) [] (start N vs) H s1 := by
 have hpl : ps.length ≤ N.length := by have := congrArg List.length S.pre; rw [List.length_take] at this; omega
 obtain ⟨h1, tk, rfl, hk⟩ := x.done
 have noA : ∀ b : Addr, b ∉ (cxOf CX P w K mg base N qual scope f cd A outer s H E).ex := fun b z => absurd (show b ∈ ([] : List Addr) from z) (by simp)
 refine ⟨⟨e0.mod, S.kind, rfl, rfl, Nat.le_refl _, fun y z c h1 h2 => ?_, fun y hy => ?_, fun y c _ h => ?_, fun _ => hd, Around.frames_deeper e0.frames, .inr ⟨rfl, rfl⟩, fun b z => absurd z (noA b), e0.bs, e0.bsz, fun b _ _ => noA b, fun b z => absurd z (noA b), e0.funs, e0.frf⟩,
  rfl, e0.bare, Un.kept hk, ⟨_, x.toInCall.ns, fun i y v h1 h2 h3 => ?_⟩, fun y c h => ⟨_, x.cell y c h⟩, e0.hok.fresh (Nat.le_refl _), fun y c h => ?_, fun p hp => absurd (show p ∈ ([] : List (Addr × Obj)) from hp) (by simp), e0.hok.kept hk, ?_⟩
 ·exact name_of_addr x.apart (PySem.mem_of_lookup h1) (PySem.mem_of_lookup h2)
 ·have hy : scope.names.lookup y = some .cell ∨ scope.names.lookup y = some .free := hy
  rcases hy with hy | hy
  ·exact cell_has hy
  ·exact absurd rfl (S.nofree _ (PySem.mem_of_lookup hy))
 ·exact Nat.le_of_lt (x.above y c (PySem.mem_of_lookup h))
 ·have hi : i < vs.length := by
   unfold start at h2
   by_cases hi : i < vs.length
   ·exact hi
   ·rw [List.getElem?_append_right (by simpa using hi)] at h2
    rw [List.getElem?_replicate] at h2
    split at h2 <;> cases h2
  have ha : vs[i]? = some v := by
   unfold start at h2
   rw [List.getElem?_append_left (by simpa using hi), List.getElem?_map] at h2
   cases e : vs[i]? with
   | none => rw [e] at h2; cases h2
   | some a => rw [e] at h2; cases h2; rfl
  obtain ⟨u, hu, rv⟩ := r.get ha
  have hp : ps[i]? = some y := by
   rw [← S.pre, List.getElem?_take_of_lt (by omega)]; exact h1
  have ndP : ps.Nodup := by rw [← S.pre]; exact S.nd.sublist (List.take_sublist _ _)
  refine ⟨u, rv, ?_⟩
  rcases S.par y (List.mem_of_getElem? hp) with k | k
  ·exact .inl ⟨k, bindL_get ndP hp hu k⟩
  ·obtain ⟨c, e⟩ := cell_has (n := s.heap.objs.size + 1) k
   refine .inr ⟨.inl k, c, e, ?_⟩
   have q := x.cell y c e
   rw [bindC_get ndP hp hu (by show scope.names.lookup y ≠ _; rw [k]; decide)] at q
   exact q
 ·exact e0.hok.fresh (Nat.le_of_lt (x.above y c (PySem.mem_of_lookup h)))
 ·unfold start
  show _ = N.length
  rw [List.length_append, List.length_map, List.length_replicate]
  omega
theorem fn_of {CX : CXT} {P : Program} {w : World} {K : PySem.W.Frag} {mg : Str → Option Value} {base : Heap} {k : Nat} {f : Addr} {name qual : Str} {params : Arguments} {body : List Stmt} {scope : Scope} {dV kV doc pm cdv ct oc : Value} {an od : Option Addr}
  {osl : Array (Option Value)} {N ps : List Str} {sp : Sp} (lk : K.lookup f = some ⟨oc, od, .func (PySem.W.fnOf name qual params body scope dV kV doc pm an cdv ct), osl⟩) (hcd : PySem.W.codeIn K cdv qual = true) (S : FnScope N ps scope)
  (len : ∀ vs H Q E, sp vs H Q E → vs.length = ps.length)
  (hbody : ∀ (A : Around) (outer : List Env) (s : Shared) (H : Hp) (vs : List V) (Q : VK) (E : XK), Room k (A.deeper (envOfC qual scope s.heap.objs.size f cdv)) → sp vs H Q E →
   ∃ t, PSs (cxOf CX P w K mg base N qual scope f cdv A outer s H E) body t ∧ t { nx := fun _ H' => Q .non H', rt := Q } (start N vs) H) :
  FnOk P w K mg base CX (k + 1) f (PySem.W.fnOf name qual params body scope dV kV doc pm an cdv ct) ps sp := by
 refine ⟨len, fun A outer s H args us vs Q E hr e0 hb r hsp => ?_⟩
 have hl := len _ _ _ _ hsp
 have KX : K.In s.heap := e0.mod.kin.keeps fun b o e => (e0.bs b o e).1
 have lim : s.heap.NoLimit := e0.mod.nolimit.keeps fun b o e => (e0.bs b o e).1
 have hkind : ∀ y ∈ ps.zip us, scope.names.lookup y.1 = some .local ∨ (scope.names.lookup y.1 = some .cell ∧ ((cellsFrom (s.heap.objs.size + 1) scope.names []).lookup y.1).isSome = true) := fun ⟨n, v⟩ hy => by
  rcases S.par n (List.of_mem_zip hy).1 with q | q
  ·exact .inl q
  ·exact .inr ⟨q, PySem.W.cellsFrom_some _ _ _ (.inl q)⟩
 refine codeAny_call_function hr.depth (KX _ _ lk) rfl S.co S.gen rfl (PySem.W.codeRec_of KX hcd) (hb _ _ _ _ ?_)
 refine wpAny_newFunctionEnv_cells S.kind hkind fun env he s1 x => ?_
 subst he
 refine ⟨lim.keeps x.toInCall.keep, codeAny_func ?_⟩
 obtain ⟨t, ht, hq⟩ := hbody A outer s H vs Q E (hr.deeper _) hsp
 have I : Inv (cxOf CX P w K mg base N qual scope f cdv A outer s H E) [] (start N vs) H s1 := inv_start S hr.hd e0 hl r x
 refine wpAny_mono (ht [] s1 (start N vs) H _ I hq) (fun fl s' hs => ?_) fun e s' hs => hs
 have fin : ∀ {σ' : St} {H' : Hp} {v : V} {u : Value}, Inv (cxOf CX P w K mg base N qual scope f cdv A outer s H E) [] σ' H' s' → RelV v u → Q v H' → CE outer P w H s Q u s' :=
  fun {σ' H' v u} J rv q => ⟨v, H', J.os, J.bare, J.base, J.hok, rv, q⟩
 cases fl with
 | ret u =>
  obtain ⟨v, σ', H', J, rv, q⟩ := hs
  exact fin J rv q
 | next =>
  obtain ⟨σ', H', J, q⟩ := hs
  exact fin (v := V.non) (u := Value.none) J rfl q
 | brk =>
  obtain ⟨_, _, _, q⟩ := hs
  exact False.elim q
 | cont =>
  obtain ⟨_, _, _, q⟩ := hs
  exact False.elim q
end L2
namespace L2
open PySem PySem.Spec PyProof.Rows
section
variable {X : Cx} {x : Str} {p pos : Pos} {e : Expr} {es : List Expr} {t : TA} {id T : String} {r : List V → Hp → VK → Prop}
def tCB (r : List V → Hp → VK → Prop) (t : TA) : TE := fun σ H Q => t σ H fun vs H1 => r vs H1 Q
theorem pe_callB (hc : CallR X (.builtin id) r) (hg : Gl X x) (hm : X.mg x = none) (hv : bootBuiltins x = some (.builtin id)) (ha : PA X (e :: es) t) (hn : x ≠ "__name__" := by decide) (hdb : (x == ("__debug__" : Str)) = false := by decide)
  (he : starEach (e :: es) X.env = (false, eval e X.env) :: starEach es X.env := by rfl) (hpl : (backTo pos (starEach es X.env)).any (·.1) = false := by rfl) : PE X (.Call (.Name x p) (e :: es) [] pos) (tCB r t) := by
 intro pins s σ H Q I h
 refine wpAny_Call_Name_kw (ld_blt I hg hm hv ?_ hn hdb)
 exact PyProof.Rows.callWith_builtin1 (thn (ha pos pins s σ H _ I h) fun us s1 ⟨vs, H1, I1, r1, q1⟩ => hc pins s1 σ H1 vs us Q I1 r1 q1) he hpl
theorem pe_callTy (hc : CallR X (.type T) r) (hg : Gl X x) (hm : X.mg x = none) (hv : bootBuiltins x = some (.type T)) (ha : PA X (e :: es) t) (hn : x ≠ "__name__" := by decide) (hdb : (x == ("__debug__" : Str)) = false := by decide)
  (he : starEach (e :: es) X.env = (false, eval e X.env) :: starEach es X.env := by rfl) (hpl : (backTo pos (starEach es X.env)).any (·.1) = false := by rfl) : PE X (.Call (.Name x p) (e :: es) [] pos) (tCB r t) := by
 intro pins s σ H Q I h
 refine wpAny_Call_Name_kw (ld_blt I hg hm hv ?_ hn hdb)
 exact PyProof.Rows.callWith_type1 (thn (ha pos pins s σ H _ I h) fun us s1 ⟨vs, H1, I1, r1, q1⟩ => hc pins s1 σ H1 vs us Q I1 r1 q1) he hpl
end
end L2
namespace HT
open PySem PyProof.Rows
section
open PySem.SeqAt
open PySem.AutoSeq1 (wpAny_loadPart')
open PySem.MeetsSeq PySem.MeetsSeq2 PySem.MeetsSeq3
end
section
variable {prog : Program} {w : World} {A : Around} {E : Value → Shared → Prop} {s : Shared}
theorem cat_tup {t b : Addr} {vs ws : List Value} {Q : Value → Shared → Prop} (ht : IsTup s.heap t vs.toArray) (hb : IsTup s.heap b ws.toArray) (hv : vs ≠ [])
  (h1 : ws = [] → Q (.ref t) s) (h2 : ws ≠ [] → Q (.ref s.heap.objs.size) { s with heap := s.heap.push { cls := .type "tuple", data := .seq (vs ++ ws).toArray } })
  (hsz : vs.length + ws.length ≤ sizeLine) : wpAny (model prog w) A (binaryOp .Add (.ref t) (.ref b)) Q E s := by
 obtain ⟨⟨cls, dd, data, sl⟩, ho, hc, n, hd⟩ := id ht
 obtain ⟨⟨cls2, dd2, data2, sl2⟩, ho2, hc2, n2, hd2⟩ := id hb
 simp only at hc hd hc2 hd2
 subst hc hd hc2 hd2
 have e : vs.toArray ++ ws.toArray = (vs ++ ws).toArray := by simp
 by_cases hw : ws = []
 ·exact concat_meets ⟨_, ho, rfl⟩ ⟨_, ho2, rfl⟩ noFill_tuple_add seq_tuple_add PySem.F.slot_tuple_add PySem.F.entry_tuple_add (PySem.F.args_tuple_add_2 _ _)
   (tuple_addW1 t b vs.toArray ws.toArray n n2 dd dd2 sl sl2 (by simpa using hv) (by simp [hw])) ⟨ho, ho2, h1 hw⟩
 ·refine concat_meets ⟨_, ho, rfl⟩ ⟨_, ho2, rfl⟩ noFill_tuple_add seq_tuple_add PySem.F.slot_tuple_add PySem.F.entry_tuple_add (PySem.F.args_tuple_add_2 _ _)
   (tuple_addW2 t b vs.toArray ws.toArray n n2 dd dd2 sl sl2 (by simpa using hv) (by simpa using hw) (by rw [List.size_toArray, List.size_toArray]; exact hsz)) ⟨ho, ho2, ?_⟩
  rw [e]
  exact h2 hw
def sIx (n d : Nat) : Option Int → Nat
 | none => d
 | some v => if v < 0 then (v + (n : Int)).toNat else min v.toNat n
theorem sIx_le (n d : Nat) (hd : d ≤ n) (o : Option Int) : sIx n d o ≤ n := by
 cases o with
 | none => exact hd
 | some v =>
  show (if v < 0 then (v + (n : Int)).toNat else min v.toNat n) ≤ n
  by_cases hv : v < 0
  ·rw [if_pos hv]; omega
  ·rw [if_neg hv]; exact Nat.min_le_right _ _
theorem clip_eq (v : Int) (n d : Nat) : (if v < 0 then max (v + (n : Int)) 0 else min v (n : Int)) = ((sIx n d (some v) : Nat) : Int) := by
 show (if v < 0 then max (v + (n : Int)) 0 else min v (n : Int)) = (((if v < 0 then (v + (n : Int)).toNat else min v.toNat n) : Nat) : Int)
 by_cases hv : v < 0
 ·simp only [if_pos hv]; omega
 ·simp only [if_neg hv]; omega
theorem adjust_gen (lo hi : Option Int) (n : Nat) : Builtin.Slice.sliceAdjust lo hi 1 (n : Int) = (((sIx n 0 lo : Nat) : Int), ((sIx n n hi : Nat) : Int)) := by
 have h1 : ¬ ((1 : Int) < 0) := by omega
 unfold Builtin.Slice.sliceAdjust
 simp only [h1, if_false]
 refine Prod.ext ?_ ?_
 ·cases lo with
  | none => rfl
  | some v => exact clip_eq v n 0
 ·cases hi with
  | none => rfl
  | some v => exact clip_eq v n n
theorem places_gen (i j : Nat) : Builtin.Slice.slicePlaces (i : Int) (j : Int) 1 = j - i := by
 unfold Builtin.Slice.slicePlaces
 have h1 : (1 : Int) > 0 := by omega
 simp only [h1, if_true, Int.ediv_one]
 split <;> omega
theorem slicePart_ {v : Value} {o : Option Int} {Q : Option Int → Shared → Prop} (p : IsPart v o) (h : Q o s) : wpAny (model prog w) A (Builtin.Slice.slicePartIndex v) Q E s := by
 cases p with
 | none => exact slicePart_none h
 | int i t => exact slicePart_int h
theorem sliceApplied_gen {sl : Addr} {vl vu : Value} {lo hi : Option Int} {n : Nat} {Q : Int × Int × Nat → Shared → Prop} (hs : s.heap.IsSliceOf sl vl vu .none) (pl : IsPart vl lo) (pu : IsPart vu hi)
  (h : Q (((sIx n 0 lo : Nat) : Int), 1, sIx n n hi - sIx n 0 lo) s) : wpAny (model prog w) A (Builtin.Slice.sliceApplied (.ref sl) (pure (n : Int))) Q E s := by
 obtain ⟨os, hos, hcs, hds⟩ := id hs
 unfold Builtin.Slice.sliceApplied Builtin.Slice.sliceFields
 refine wpAny_bind (wpAny_bind (wpAny_field hos hds (x := vl) rfl (wpAny_bind (wpAny_field hos hds (x := vu) rfl (wpAny_bind (wpAny_field hos hds (x := .none) rfl (wpAny_pure ?_)))))))
 refine wpAny_bind (slicePart_none ?_)
 show wpAny _ _ (if ((1 : Int) == 0) = true then _ else _) _ _ s
 rw [if_neg (by decide)]
 refine wpAny_bind (slicePart_ pl (wpAny_bind (slicePart_ pu (wpAny_bind (wpAny_pure ?_)))))
 show wpAny _ _ (match Builtin.Slice.sliceAdjust lo hi 1 (n : Int) with | (lo, hi) => pure (lo, (1 : Int), Builtin.Slice.slicePlaces lo hi 1)) _ _ s
 rw [adjust_gen lo hi n]
 show wpAny _ _ (pure (((sIx n 0 lo : Nat) : Int), (1 : Int), Builtin.Slice.slicePlaces ((sIx n 0 lo : Nat) : Int) ((sIx n n hi : Nat) : Int) 1)) _ _ s
 rw [places_gen]
 exact wpAny_pure h
theorem pick_gen (xs : Array Value) (i k : Nat) : ((List.range k).filterMap fun (m : Nat) => xs[((i : Int) + (m : Int) * 1).toNat]?).toArray = ((xs.toList.drop i).take k).toArray := by
 have e : (fun (m : Nat) => xs[((i : Int) + (m : Int) * 1).toNat]?) = fun m => xs[i + m]? := by
  funext m
  have : ((i : Int) + (m : Int) * 1).toNat = i + m := by omega
  rw [this]
 rw [e]
 have := pick_run xs i k
 rw [List.filterMap_map] at this
 have e2 : ((fun x => xs[x]?) ∘ fun x => i + x) = fun m => xs[i + m]? := rfl
 rw [e2] at this
 rw [this]
theorem getItem_tuple_cut {t sl : Addr} {items : Array Value} {vl vu : Value} {lo hi : Option Int} {Q : Value → Shared → Prop} (ht : IsTup s.heap t items) (hs : s.heap.IsSliceOf sl vl vu .none) (pl : IsPart vl lo) (pu : IsPart vu hi)
  (hw : ¬ (sIx items.size 0 lo = 0 ∧ sIx items.size items.size hi = items.size))
  (h : Q (.ref s.heap.objs.size) { s with heap := s.heap.push { cls := .type "tuple", data := .seq ((items.toList.drop (sIx items.size 0 lo)).take (sIx items.size items.size hi - sIx items.size 0 lo)).toArray } })
  (hsz : items.size ≤ sizeLine) : wpAny (model prog w) A (getItem (.ref t) (.ref sl)) Q E s := by
 have htake : sizeOk (.seq ((items.toList.drop (sIx items.size 0 lo)).take (sIx items.size items.size hi - sIx items.size 0 lo)).toArray) := by
  show ((items.toList.drop (sIx items.size 0 lo)).take (sIx items.size items.size hi - sIx items.size 0 lo)).toArray.size ≤ sizeLine
  rw [List.size_toArray, List.length_take, List.length_drop, Array.length_toList]
  omega
 have hj : sIx items.size items.size hi ≤ items.size := sIx_le _ _ (Nat.le_refl _) hi
 obtain ⟨os, hos, hcs, hds⟩ := id hs
 have hTs : s.TypeIs (.ref sl) "slice" := ⟨os, hos, hcs⟩
 unfold getItem
 try with_reducible refine wpAny_holding ?_
 first | refine wpAny_bind (wpAny_pure ?_) | skip
 refine wpAny_bind (wpAny_sequenceKey ht.typeIs (by decide) ?_)
 refine wpAny_bind (wpAny_callSpecial?_slot (name := Str.ofString "__getitem__") ht.typeIs PyProof.Rows.slot_tuple_getitem
  (wpAny_call_entry PyProof.Rows.slot_tuple_getitem ht.typeIs entry_tuple_getitem ?_ (args_tuple_getitem _ _)))
 show wpAny _ _ (Builtin.Tuple.tupleItemsOf (.ref t) >>= _) _ _ s
 refine wpAny_bind (tupleItemsOf_ ht ?_)
 refine wpAny_bind (wpAny_typeOf hTs ?_)
 rw [if_pos (by decide)]
 refine wpAny_bind (sliceApplied_gen hs pl pu ?_)
 have hno : ¬ ((((sIx items.size 0 lo : Nat) : Int) == 0 && (1 : Int) == 1 && (sIx items.size items.size hi - sIx items.size 0 lo) == items.size) = true) := by
  intro q
  rw [Bool.and_eq_true, Bool.and_eq_true] at q
  have q1 : ((sIx items.size 0 lo : Nat) : Int) = 0 := eq_of_beq q.1.1
  have q2 : sIx items.size items.size hi - sIx items.size 0 lo = items.size := eq_of_beq q.2
  exact hw ⟨by omega, by omega⟩
 show wpAny _ _ (if (((sIx items.size 0 lo : Nat) : Int) == 0 && (1 : Int) == 1 && (sIx items.size items.size hi - sIx items.size 0 lo) == items.size) = true then _ else _) _ _ s
 rw [if_neg hno, pick_gen]
 first
  | exact wpAny_bind (m := Builtin.Tuple.tupleExact _) (wpAny_newObj_type (wpAny_pure ⟨_, rfl, wpAny_pure h⟩) htake)
  | exact wpAny_bind (m := Builtin.Tuple.tupleExact _) (wpAny_newObj_type (wpAny_bind (wpAny_pure (wpAny_pure ⟨_, rfl, wpAny_pure h⟩))) htake)
  | exact wpAny_bind (wpAny_bind (m := Builtin.Tuple.tupleExact _) (wpAny_newObj_type (wpAny_pure (wpAny_pure ⟨_, rfl, wpAny_pure h⟩)) htake))
  | exact wpAny_bind (wpAny_bind (m := Builtin.Tuple.tupleExact _) (wpAny_newObj_type (wpAny_pure ⟨_, rfl, wpAny_pure h⟩) htake))
end
end HT
namespace L2
open PySem PySem.Spec PyProof.Rows
abbrev TO := St → Hp → (Option Int → Hp → Prop) → Prop
def PO (X : Cx) (e : Option Expr) (t : TO) : Prop :=
 ∀ (pins : List (Addr × Obj)) (s : Shared) (σ : St) (H : Hp) (Q : Option Int → Hp → Prop), Inv X pins σ H s → t σ H Q →
  wpAny (model X.prog X.w) X.A (evalPart e X.env) (fun u s' => ∃ o H', Inv X pins σ H' s' ∧ IsPart u o ∧ Q o H') X.xe s
def tNoPart : TO := fun _ H Q => Q none H
def tPart (t : TE) : TO := fun σ H Q => t σ H fun x H1 => ∃ i, x = .int i ∧ Q (some i) H1
section
variable {X : Cx} {e : Expr} {te : TE} {lo hi : Option Expr} {tl th : TO} {pos p2 : Pos}
theorem po_none : PO X none tNoPart := by
 intro pins s σ H Q I h
 rw [evalPart_none]
 exact wpAny_pure ⟨none, H, I, .none, h⟩
theorem po_some (h : PE X e te) : PO X (some e) (tPart te) := by
 intro pins s σ H Q I hw
 rw [evalPart_some]
 refine thn (h pins s σ H _ I hw) fun u s1 ⟨x, H1, I1, r1, q1⟩ => ?_
 obtain ⟨i, rfl, q⟩ := q1
 obtain ⟨t, rfl⟩ := r1
 exact ⟨some i, H1, I1, .int i t, q⟩
def SlR (X : Cx) (r : V → Option Int → Option Int → Hp → VK → Prop) : Prop :=
 ∀ (pins : List (Addr × Obj)) (s : Shared) (σ : St) (H : Hp) (x : V) (v vl vu : Value) (lo hi : Option Int) (sl : Addr) (Q : VK), Inv X pins σ H s → RelV x v → s.heap.IsSliceOf sl vl vu .none → IsPart vl lo → IsPart vu hi → r x lo hi H Q →
  ∃ T id, typeLookup (.type T) "__getitem__" = pure (some (.builtin id)) ∧ s.TypeIs v T ∧ wpAny (model X.prog X.w) X.A (getItem v (.ref sl)) (EP X pins σ Q) X.xe s
theorem SlR.or {r r' : V → Option Int → Option Int → Hp → VK → Prop} (h : SlR X r) (h' : SlR X r') : SlR X (fun x lo hi H Q => r x lo hi H Q ∨ r' x lo hi H Q) := by
 intro pins s σ H x v vl vu lo hi sl Q I rx hs pl pu q
 rcases q with q | q
 ·exact h pins s σ H x v vl vu lo hi sl Q I rx hs pl pu q
 ·exact h' pins s σ H x v vl vu lo hi sl Q I rx hs pl pu q
def tSl (r : V → Option Int → Option Int → Hp → VK → Prop) (te : TE) (tl th : TO) : TE := fun σ H Q => te σ H fun x H1 => tl σ H1 fun l H2 => th σ H2 fun u H3 => r x l u H3 Q
theorem pe_slice {r : V → Option Int → Option Int → Hp → VK → Prop} (hr : SlR X r) (he : PE X e te) (hl : PO X lo tl) (hu : PO X hi th) : PE X (.Subscript e (.Slice lo hi none p2) pos) (tSl r te tl th) := by
 intro pins s σ H Q I h
 refine Subscript_ (thn (he pins s σ H _ I h) fun v s1 ⟨x, H1, I1, r1, q1⟩ => ?_)
 refine wpAny_Slice (thn (hl pins s1 σ H1 _ I1 q1) fun vl s2 ⟨l, H2, I2, pl, q2⟩ => thn (hu pins s2 σ H2 _ I2 q2) fun vu s3 ⟨u, H3, I3, pu, q3⟩ => ?_)
 rw [evalPart_none]
 refine wpAny_pure ?_
 have I4 : Inv X pins σ H3 { s3 with heap := s3.heap.push { cls := .type "slice", data := .fields #[vl, vu, .none] } } := I3.kept (t' := s3.toks) fun b ob q => Heap.get?_push_of_some _ q
 obtain ⟨T, id, hT, ht, hg⟩ := hr pins { s3 with heap := s3.heap.push { cls := .type "slice", data := .fields #[vl, vu, .none] } } σ H3 x v vl vu l u s3.heap.objs.size Q I4 r1 (Heap.IsSliceOf.new ..) pl pu q3
 show wpAny (model X.prog X.w) X.A (subscriptTail e (.Slice lo hi none p2) v (.ref s3.heap.objs.size)) (EP X pins σ Q) X.xe { s3 with heap := s3.heap.push { cls := .type "slice", data := .fields #[vl, vu, .none] } }
 exact tail_any (ops := [.ref s3.heap.objs.size, v]) ht hT hg (by with_unfolding_all rfl)
def cutV (xs : List V) (lo hi : Option Int) : List V := (xs.drop (HT.sIx xs.length 0 lo)).take (HT.sIx xs.length xs.length hi - HT.sIx xs.length 0 lo)
theorem cutV_length (xs : List V) (lo hi : Option Int) : (cutV xs lo hi).length ≤ xs.length := by
 unfold cutV
 rw [List.length_take, List.length_drop]
 omega
def rSlT (K : PySem.W.Frag) : V → Option Int → Option Int → Hp → VK → Prop := fun x lo hi H Q => ∃ a xs, x = .ref a ∧ SqT K H a xs ∧
 ¬ (HT.sIx xs.length 0 lo = 0 ∧ HT.sIx xs.length xs.length hi = xs.length) ∧ ∀ p, H p = none → Q (.ref p) (upd H p (.tup (cutV xs lo hi)))
theorem sl_tup : SlR X (rSlT X.K) := by
 intro pins s σ H x v vl vu lo hi sl Q I rx hs pl pu h
 obtain ⟨a, xs, rfl, hx, hw, q⟩ := h
 cases rx
 obtain ⟨its, r, ht, hz⟩ := I.tuple hx
 have hlen : its.toArray.size = xs.length := by rw [List.size_toArray]; exact r.length.symm
 refine ⟨"tuple", _, PyProof.Rows.slot_tuple_getitem.lookup, ht.typeIs, ?_⟩
 refine HT.getItem_tuple_cut ht hs pl pu (by rw [hlen]; exact hw) ?_ (by rw [hlen]; exact hz)
 rw [hlen]
 refine ⟨.ref s.heap.objs.size, _, I.laid (t' := s.toks) (o := .tup (cutV xs lo hi)) (fun b ob q => Heap.get?_push_of_some _ q) (Nat.le_refl _) ?_, rfl, q _ (I.hok.fresh (Nat.le_refl _))⟩
 exact ⟨Nat.le_trans (cutV_length xs lo hi) hz, _, (r.drop (HT.sIx xs.length 0 lo)).take (HT.sIx xs.length xs.length hi - HT.sIx xs.length 0 lo), IsTup.new _ _⟩
def rCatT (K : PySem.W.Frag) : R2 := fun x y H Q => ∃ a b xs ys, x = .ref a ∧ y = .ref b ∧ SqT K H a xs ∧ SqT K H b ys ∧ xs ≠ [] ∧ xs.length + ys.length ≤ sizeLine ∧
 (ys = [] → Q (.ref a) H) ∧ (ys ≠ [] → ∀ p, H p = none → Q (.ref p) (upd H p (.tup (xs ++ ys))))
theorem Vals.nil_iff {xs : List V} {us : List Value} (r : Vals xs us) : us = [] ↔ xs = [] := by
 cases r with
 | nil => simp
 | cons _ _ => simp
theorem op_catT : OpR X (binaryOp .Add) (rCatT X.K) := by
 intro pins s σ H x y v u Q I rx ry h
 obtain ⟨a, b, xs, ys, rfl, rfl, ha, hb, hx, hz, q1, q2⟩ := h
 cases rx
 cases ry
 obtain ⟨its, r1, p1, _⟩ := I.tuple ha
 obtain ⟨its2, r2, p2, _⟩ := I.tuple hb
 refine HT.cat_tup p1 p2 (fun z => hx (r1.nil_iff.mp z)) (fun z => ⟨.ref a, H, I, rfl, q1 (r2.nil_iff.mp z)⟩) (fun z => ?_) (by rw [← r1.length, ← r2.length]; exact hz)
 refine ⟨.ref s.heap.objs.size, _, I.laid (t' := s.toks) (o := .tup (xs ++ ys)) (fun b ob q => Heap.get?_push_of_some _ q) (Nat.le_refl _) ?_, rfl, q2 (fun w => z (r2.nil_iff.mpr w)) _ (I.hok.fresh (Nat.le_refl _))⟩
 exact ⟨by rw [List.length_append]; exact hz, _, r1.append r2, IsTup.new _ _⟩
end
end L2
namespace L2
open PySem PySem.Spec PyProof.Rows
def ixN (n : Nat) (i : Int) : Option Nat := if 0 ≤ i then (if i < n then some i.toNat else none) else if -(n : Int) ≤ i then some (i + n).toNat else none
def atI {α : Type} (xs : List α) (i : Int) : Option α := (ixN xs.length i).bind fun j => xs[j]?
theorem ixN_seq {n : Nat} {i : Int} {j : Nat} (h : ixN n i = some j) : seqIndex? i n = some j ∧ j < n ∧ -(n : Int) ≤ i ∧ i < n := by
 unfold ixN at h
 by_cases h0 : 0 ≤ i
 ·rw [if_pos h0] at h
  by_cases h1 : i < n
  ·rw [if_pos h1] at h
   have e : i.toNat = j := Option.some.inj h
   exact ⟨by rw [seqIndex_of h0 h1, e], by omega, by omega, h1⟩
  ·rw [if_neg h1] at h; cases h
 ·rw [if_neg h0] at h
  by_cases h1 : -(n : Int) ≤ i
  ·rw [if_pos h1] at h
   have e : (i + n).toNat = j := Option.some.inj h
   exact ⟨by rw [seqIndex_neg (by omega) h1, e], by omega, h1, by omega⟩
  ·rw [if_neg h1] at h; cases h
theorem atI_get {α : Type} {xs : List α} {i : Int} {v : α} (h : atI xs i = some v) : ∃ j, seqIndex? i xs.length = some j ∧ xs[j]? = some v ∧ j < xs.length ∧ -(xs.length : Int) ≤ i ∧ i < xs.length := by
 unfold atI at h
 cases e : ixN xs.length i with
 | none => rw [e] at h; cases h
 | some j =>
  rw [e] at h
  obtain ⟨h1, h2, h3, h4⟩ := ixN_seq e
  exact ⟨j, h1, h, h2, h3, h4⟩
theorem atI_nat {α : Type} {xs : List α} {j : Nat} {v : α} (h : xs[j]? = some v) : atI xs (j : Int) = some v := by
 have hj : j < xs.length := (List.getElem?_eq_some_iff.mp h).1
 have e : ixN xs.length (j : Int) = some j := by
  unfold ixN
  rw [if_pos (by omega), if_pos (by omega)]; simp
 unfold atI; rw [e]; exact h
def PlainIx (b : Expr) : Prop := ∀ o i, subscripted b false o i = operate [o, i] (getItem o i)
def IxR (X : Cx) (r : R2) : Prop :=
 ∀ (value slice : Expr) (pins : List (Addr × Obj)) (s : Shared) (σ : St) (H : Hp) (x y : V) (v u : Value) (Q : VK), Inv X pins σ H s → RelV x v → RelV y u → r x y H Q →
  subscripted slice false v u = operate [v, u] (getItem v u) → wpAny (model X.prog X.w) X.A (subscriptTail value slice v u) (EP X pins σ Q) X.xe s
def MtR (X : Cx) (id : String) (r : V → List V → Hp → VK → Prop) : Prop :=
 ∀ (pins : List (Addr × Obj)) (s : Shared) (σ : St) (H : Hp) (x : V) (xs : List V) (v : Value) (us : List Value) (Q : VK), Inv X pins σ H s → RelV x v → Vals xs us → r x xs H Q →
  wpAny (model X.prog X.w) X.A (call (.builtin id) (v :: us)) (EP X pins σ Q) X.xe s
section
variable {X : Cx} {a b : Expr} {ta tb : TE} {pos : Pos}
theorem pe_ix {r : R2} (hr : IxR X r) (ha : PE X a ta) (hb : PE X b tb) (hs : PlainIx b) : PE X (.Subscript a b pos) (tOp r ta tb) := by
 intro pins s σ H Q I h
 exact Subscript_ (binT ha hb I h fun v u s2 x y H2 I2 rx ry q => hr a b pins s2 σ H2 x y v u Q I2 rx ry q (hs _ _))
def rIxL (K : PySem.W.Frag) : R2 := fun x y H Q => ∃ p xs i v, x = .ref p ∧ y = .int i ∧ SqL K H p xs ∧ atI xs i = some v ∧ Q v H
def rIxT (K : PySem.W.Frag) : R2 := fun x y H Q => ∃ p xs i v, x = .ref p ∧ y = .int i ∧ SqT K H p xs ∧ atI xs i = some v ∧ Q v H
def rIxS : R2 := fun x y H Q => ∃ z i c, x = .str z ∧ y = .int i ∧ z.length ≤ sizeLine ∧ atI z.cps.toList i = some c ∧ Q (.str ⟨#[c]⟩) H
theorem ix_list : IxR X (rIxL X.K) := by
 intro value slice pins s σ H x y v u Q I rx ry h hs
 obtain ⟨p, xs, i, z, rfl, rfl, hq, he, q⟩ := h
 cases rx
 obtain ⟨t, rfl⟩ := ry
 obtain ⟨its, r, pl, hz⟩ := I.list hq
 obtain ⟨j, h1, h2, h3, h4, h5⟩ := atI_get he
 obtain ⟨w, ew, rw'⟩ := r.get h2
 have hl := r.length
 have hn := line63
 have fin : EP X pins σ Q w s := ⟨z, H, I, rw', q⟩
 by_cases h0 : 0 ≤ i
 ·have hj : i.toNat = j := by
   rw [seqIndex_of h0 h5] at h1
   exact Option.some.inj h1
  exact item_listR pl.isList h0 (by omega) (by rw [hj]; simpa using ew) fin hs
 ·have hj : (i + (its.toArray.size : Int)).toNat = j := by
   rw [seqIndex_neg (by omega) h4] at h1
   rw [List.size_toArray, ← hl]
   exact Option.some.inj h1
  exact subscriptTail_builtinR (x := w) pl.isList.typeIs slot_list_getitem.lookup
   (wpAny_getItem_list_neg (Q := fun r s' => r = w ∧ EP X pins σ Q r s') pl.isList (by omega) (by rw [List.size_toArray] <;> omega) (by omega) (by rw [hj]; simpa using ew) ⟨rfl, fin⟩) hs
theorem ix_tup : IxR X (rIxT X.K) := by
 intro value slice pins s σ H x y v u Q I rx ry h hs
 obtain ⟨p, xs, i, z, rfl, rfl, hq, he, q⟩ := h
 cases rx
 obtain ⟨t, rfl⟩ := ry
 obtain ⟨its, r, pl, hz⟩ := I.tuple hq
 obtain ⟨j, h1, h2, h3, h4, h5⟩ := atI_get he
 obtain ⟨w, ew, rw'⟩ := r.get h2
 have hl := r.length
 have hn := line63
 have fin : EP X pins σ Q w s := ⟨z, H, I, rw', q⟩
 exact subscriptTail_builtinR (x := w) pl.typeIs slot_tuple_getitem.lookup
  (getItem_tuple (j := j) (Q := fun r s' => r = w ∧ EP X pins σ Q r s') pl (by omega) (by omega) (by rw [List.size_toArray, ← hl]; exact h1) (by simpa using ew) ⟨rfl, fin⟩) hs
theorem ix_str : IxR X rIxS := by
 intro value slice pins s σ H x y v u Q I rx ry h hs
 obtain ⟨z, i, c, rfl, rfl, hz, he, q⟩ := h
 obtain ⟨t, rfl⟩ := rx
 obtain ⟨t', rfl⟩ := ry
 obtain ⟨j, h1, h2, h3, h4, h5⟩ := atI_get he
 have hl : z.cps.toList.length = z.length := by simp [Str.length]
 rw [hl] at h1 h4 h5
 have hn := line63
 exact tail_any (typeIs_str s z t) slot_str_getitem.lookup (getItem_str (c := c) (by
  have e1 : decide (i < -(2 ^ 63 : Int)) = false := decide_eq_false (by omega)
  have e2 : decide (i ≥ 2 ^ 63) = false := decide_eq_false (by omega)
  rw [e1, e2, Bool.or_false]) (by rw [h1]; simpa using h2) ⟨.str ⟨#[c]⟩, H, I.tok _, ⟨_, rfl⟩, q⟩) hs
theorem Inv.lst {pins : List (Addr × Obj)} {σ : St} {H : Hp} {s : Shared} {p : Addr} {xs : List V} (I : Inv X pins σ H s) (h : H p = some (.lst xs)) :
  ∃ (its : List Value) (n : Nat), Vals xs its ∧ s.heap.get? p = some { cls := .type "list", data := .seq its.toArray n } ∧ xs.length ≤ sizeLine := by
 obtain ⟨z, its, n, r, e⟩ := I.hok p _ h
 exact ⟨its, n, r, e, z⟩
theorem slice_bounds (lo hi : Option Int) (n : Nat) : (sliceBounds lo hi none n).1 = ((HT.sIx n 0 lo : Nat) : Int) ∧ (sliceBounds lo hi none n).2.1 = ((HT.sIx n n hi : Nat) : Int) ∧ (sliceBounds lo hi none n).2.2 = 1 := by
 refine ⟨?_, ?_, rfl⟩
 ·cases lo with
  | none => simp [sliceBounds, HT.sIx]
  | some i =>
   simp only [sliceBounds, HT.sIx, Option.getD_none, show (1 : Int) > 0 by decide, if_true]
   by_cases h : i < 0
   ·simp only [h, if_true] <;> omega
   ·simp only [h, if_false] <;> omega
 ·cases hi with
  | none => simp [sliceBounds, HT.sIx]
  | some i =>
   simp only [sliceBounds, HT.sIx, Option.getD_none, show (1 : Int) > 0 by decide, if_true]
   by_cases h : i < 0
   ·simp only [h, if_true] <;> omega
   ·simp only [h, if_false] <;> omega
theorem slicePick_cut (its : List Value) (lo hi : Option Int) : slicePick its.toArray lo hi none = ((its.drop (HT.sIx its.length 0 lo)).take (HT.sIx its.length its.length hi - HT.sIx its.length 0 lo)).toArray := by
 obtain ⟨h1, h2, h3⟩ := slice_bounds lo hi its.toArray.size
 unfold slicePick
 rw [h1, h2, h3]
 simp only [sliceRange_one, pick_run, List.size_toArray] <;> rfl
def rSlL (K : PySem.W.Frag) : V → Option Int → Option Int → Hp → VK → Prop := fun x lo hi H Q => ∃ a xs, x = .ref a ∧ SqL K H a xs ∧ ∀ p, H p = none → Q (.ref p) (upd H p (.lst (cutV xs lo hi)))
theorem sl_list : SlR X (rSlL X.K) := by
 intro pins s σ H x v vl vu lo hi sl Q I rx hs pl pu h
 obtain ⟨a, xs, rfl, hx, q⟩ := h
 cases rx
 obtain ⟨its, r, ht, hz⟩ := I.list hx
 have hlen := r.length
 refine ⟨"list", _, slot_list_getitem.lookup, ht.isList.typeIs, ?_⟩
 refine wpAny_getItem_list_slice ht.isList hs pl pu .none (by simp) ?_ (by rw [List.size_toArray] <;> omega)
 rw [slicePick_cut, ← hlen]
 refine ⟨.ref s.heap.objs.size, _, I.laid (t' := s.toks) (o := .lst (cutV xs lo hi)) (fun b ob q => Heap.get?_push_of_some _ q) (Nat.le_refl _) ?_, rfl, q _ (I.hok.fresh (Nat.le_refl _))⟩
 exact ⟨Nat.le_trans (cutV_length xs lo hi) hz, _, 0, (r.drop (HT.sIx xs.length 0 lo)).take (HT.sIx xs.length xs.length hi - HT.sIx xs.length 0 lo), Heap.get?_push_size _ rfl⟩
def flatV : V → Bool
 | .non => true
 | .bl _ => true
 | .int _ => true
 | .str _ => true
 | _ => false
def eqV : V → V → Bool
 | .non, .non => true
 | .bl a, .bl b => a == b
 | .bl a, .int b => (if a then 1 else 0) == b
 | .int a, .bl b => a == (if b then 1 else 0)
 | .int a, .int b => a == b
 | .str a, .str b => a == b
 | _, _ => false
theorem eqAt_V {A : Around} {s : Shared} {y x : V} {u v : Value} (ry : RelV y u) (rx : RelV x v) (fy : flatV y = true) (fx : flatV x = true) : SeqAt.EqAt A s u v (eqV y x) := by
 cases y with
 | non =>
  cases ry
  cases x with
  | non => cases rx; exact SeqAt.EqAt.same _
  | bl b => cases rx; exact SeqAt.EqAt.none_bool b
  | int b => obtain ⟨t, rfl⟩ := rx; exact SeqAt.EqAt.none_int b t
  | str b => obtain ⟨t, rfl⟩ := rx; exact SeqAt.EqAt.none_str b t
  | _ => exact absurd (show false = true from fx) Bool.false_ne_true
 | bl a =>
  cases ry
  cases x with
  | non => cases rx; exact SeqAt.EqAt.bool_none a
  | bl b => cases rx; exact SeqAt.EqAt.bool_bool a b
  | int b => obtain ⟨t, rfl⟩ := rx; exact SeqAt.EqAt.bool_int a b t
  | str b => obtain ⟨t, rfl⟩ := rx; exact SeqAt.EqAt.bool_str a b t
  | _ => exact absurd (show false = true from fx) Bool.false_ne_true
 | int a =>
  obtain ⟨t', rfl⟩ := ry
  cases x with
  | non => cases rx; exact SeqAt.EqAt.int_none a t'
  | bl b => cases rx; exact SeqAt.EqAt.int_bool a t' b
  | int b => obtain ⟨t, rfl⟩ := rx; exact SeqAt.EqAt.int_int a t' b t
  | str b => obtain ⟨t, rfl⟩ := rx; exact SeqAt.EqAt.int_str a t' b t
  | _ => exact absurd (show false = true from fx) Bool.false_ne_true
 | str a =>
  obtain ⟨t', rfl⟩ := ry
  cases x with
  | non => cases rx; exact SeqAt.EqAt.str_none a t'
  | bl b => cases rx; exact SeqAt.EqAt.str_bool a t' b
  | int b => obtain ⟨t, rfl⟩ := rx; exact SeqAt.EqAt.str_int a t' b t
  | str b => obtain ⟨t, rfl⟩ := rx; exact SeqAt.EqAt.str_str a t' b t
  | _ => exact absurd (show false = true from fx) Bool.false_ne_true
 | _ => exact absurd (show false = true from fy) Bool.false_ne_true
def eqU (x : V) (u : Value) : Bool := match u with
 | .none => eqV .non x
 | .bool b => eqV (.bl b) x
 | .int i _ => eqV (.int i) x
 | .str z _ => eqV (.str z) x
 | _ => false
theorem eqU_of {x y : V} {u : Value} (r : RelV y u) (f : flatV y = true) : eqU x u = eqV y x := by
 cases y with
 | non => cases r; rfl
 | bl b => cases r; rfl
 | int i => obtain ⟨t, rfl⟩ := r; rfl
 | str z => obtain ⟨t, rfl⟩ := r; rfl
 | _ => exact absurd (show false = true from f) Bool.false_ne_true
theorem any_eqU {x : V} : ∀ {xs : List V} {us : List Value}, Vals xs us → xs.all flatV = true → us.any (eqU x) = xs.any fun y => eqV y x
 | _, _, .nil, _ => rfl
 | y :: xs, u :: us, .cons r t, f => by
  rw [List.all_cons, Bool.and_eq_true] at f
  rw [List.any_cons, List.any_cons, eqU_of r f.1, any_eqU t f.2]
theorem mem_eqAt {A : Around} {s : Shared} {x : V} {v : Value} (rx : RelV x v) (fx : flatV x = true) : ∀ {xs : List V} {us : List Value}, Vals xs us → xs.all flatV = true → ∀ u ∈ us, SeqAt.EqAt A s u v (eqU x u)
 | _, _, .nil, _ => fun u hu => by cases hu
 | y :: xs, u :: us, .cons r t, f => fun u' hu => by
  rw [List.all_cons, Bool.and_eq_true] at f
  rcases List.mem_cons.mp hu with rfl | hu
  ·rw [eqU_of r f.1]; exact eqAt_V r rx f.1 fx
  ·exact mem_eqAt rx fx t f.2 u' hu
def inV (x : V) (xs : List V) : Bool := xs.any fun y => eqV y x
def rIn (K : PySem.W.Frag) (neg : Bool) : R2 := fun x y H Q => ∃ p xs, y = .ref p ∧ (SqL K H p xs ∨ SqT K H p xs) ∧ flatV x = true ∧ xs.all flatV = true ∧ Q (.bl (if neg then !inV x xs else inV x xs)) H
theorem op_in_seq : OpR X (compareOp .In) (rIn X.K false) := by
 intro pins s σ H x y v u Q I rx ry h
 obtain ⟨p, xs, rfl, hq, fx, fs, q⟩ := h
 cases ry
 rcases hq with hq | hq
 ·obtain ⟨its, r, pl, hz⟩ := I.list hq
  refine SeqAt.in_listAt (eqU x) pl.isList (fun w hw => mem_eqAt rx fx r fs w (by simpa using hw)) ⟨.bl _, H, I, rfl, ?_⟩
  rw [show its.toArray.any (eqU x) = its.any (eqU x) by simp, any_eqU r fs]
  exact q
 ·obtain ⟨its, r, pl, hz⟩ := I.tuple hq
  refine SeqAt.in_tupleAt (eqU x) pl (fun w hw => mem_eqAt rx fx r fs w (by simpa using hw)) ⟨.bl _, H, I, rfl, ?_⟩
  rw [show its.toArray.any (eqU x) = its.any (eqU x) by simp, any_eqU r fs]
  exact q
theorem op_notIn_seq : OpR X (compareOp .NotIn) (rIn X.K true) := by
 intro pins s σ H x y v u Q I rx ry h
 obtain ⟨p, xs, rfl, hq, fx, fs, q⟩ := h
 cases ry
 rcases hq with hq | hq
 ·obtain ⟨its, r, pl, hz⟩ := I.list hq
  refine SeqAt.notIn_listAt (eqU x) pl.isList (fun w hw => mem_eqAt rx fx r fs w (by simpa using hw)) ⟨.bl _, H, I, rfl, ?_⟩
  rw [show its.toArray.any (eqU x) = its.any (eqU x) by simp, any_eqU r fs]
  exact q
 ·obtain ⟨its, r, pl, hz⟩ := I.tuple hq
  refine SeqAt.notIn_tupleAt (eqU x) pl (fun w hw => mem_eqAt rx fx r fs w (by simpa using hw)) ⟨.bl _, H, I, rfl, ?_⟩
  rw [show its.toArray.any (eqU x) = its.any (eqU x) by simp, any_eqU r fs]
  exact q
theorem call_len_seq : CallR X (.builtin "len") (fun xs H Q => ∃ p ys, xs = [.ref p] ∧ (SqL X.K H p ys ∨ SqT X.K H p ys) ∧ Q (.int ys.length) H) := by
 intro pins s σ H xs us Q I r h
 obtain ⟨p, ys, rfl, hq, q⟩ := h
 obtain ⟨u, rfl, rx⟩ := vals1 r
 cases rx
 have hn := line63
 rcases hq with hq | hq
 ·obtain ⟨its, r', pl, hz⟩ := I.list hq
  have hlen := r'.length
  exact Calls.call_len_list pl.isList (by simp only [List.size_toArray] <;> omega) ⟨.int ys.length, H, I.tok _, ⟨s.toks + 1, by rw [List.size_toArray, hlen]⟩, q⟩
 ·obtain ⟨its, r', pl, hz⟩ := I.tuple hq
  have hlen := r'.length
  exact len_tuple pl (by simp only [List.size_toArray] <;> omega) ⟨.int ys.length, H, I.tok _, ⟨s.toks + 1, by rw [List.size_toArray, hlen]⟩, q⟩
theorem call_len_str : CallR X (.builtin "len") (fun xs H Q => ∃ z, xs = [.str z] ∧ z.length ≤ sizeLine ∧ Q (.int z.length) H) := by
 intro pins s σ H xs us Q I r h
 obtain ⟨z, rfl, hz, q⟩ := h
 obtain ⟨u, rfl, t, rfl⟩ := vals1 r
 have hn := line63
 exact len_str (by omega) ⟨.int z.length, H, I.tok _, ⟨_, rfl⟩, q⟩
theorem call_list_of : CallR X (.type "list") (fun xs H Q => ∃ p ys, xs = [.ref p] ∧ (SqL X.K H p ys ∨ SqT X.K H p ys) ∧ ∀ l, H l = none → Q (.ref l) (upd H l (.lst ys))) := by
 intro pins s σ H xs us Q I r h
 obtain ⟨p, ys, rfl, hq, q⟩ := h
 obtain ⟨u, rfl, rx⟩ := vals1 r
 cases rx
 have fin : ∀ (its : List Value), Vals ys its → ys.length ≤ sizeLine → ∀ (h' : Heap) (c' : Nat), (∀ b o', s.heap.get? b = some o' → h'.get? b = some o') →
   h'.get? s.heap.objs.size = some { cls := .type "list", dict := none, data := .seq its.toArray c', slots := #[] } → EP X pins σ Q (.ref s.heap.objs.size) { s with heap := h' } := fun its r' hz h' c' kp e =>
  ⟨.ref s.heap.objs.size, _, I.laid (t' := s.toks) kp (Nat.le_refl _) (show ObjOk X.prog X.w _ h' _ (.lst ys) from ⟨hz, its, c', r', e⟩), rfl, q _ (I.hok.fresh (Nat.le_refl _))⟩
 rcases hq with hq | hq
 ·obtain ⟨its, r', pl, hz⟩ := I.list hq
  have hlen := r'.length
  obtain ⟨o, ho, hc, n, hd⟩ := pl.isList
  exact call_list_seq p (.inl rfl) ho hc hd (fun h' c' kp e => fin its r' hz h' c' kp e) (by simp only [List.size_toArray] <;> omega)
 ·obtain ⟨its, r', pl, hz⟩ := I.tuple hq
  have hlen := r'.length
  obtain ⟨o, ho, hc, n, hd⟩ := pl
  exact call_list_seq p (.inr rfl) ho hc hd (fun h' c' kp e => fin its r' hz h' c' kp e) (by simp only [List.size_toArray] <;> omega)
def tyV (K : PySem.W.Frag) (T : String) (x : V) (H : Hp) : Prop := match x with
 | .str _ => T = "str"
 | .int _ => T = "int"
 | .ref p => (T = "list" ∧ ∃ xs, SqL K H p xs) ∨ (T = "tuple" ∧ ∃ o, K.lookup p = some o ∧ o.cls = .type "tuple" ∧ o.dict = none) ∨
   (T = "dict" ∧ ((∃ kvs, H p = some (.dK kvs)) ∨ ∃ kvs, H p = some (.dT kvs))) ∨ (T = "set" ∧ ∃ S n, H p = some (.set S n))
 | _ => False
theorem tyV_is {pins : List (Addr × Obj)} {σ : St} {H : Hp} {s : Shared} {T : String} {x : V} {v : Value} (I : Inv X pins σ H s) (r : RelV x v) (ty : tyV X.K T x H) :
  s.TypeIs v T ∧ ∀ a, v = .ref a → ∃ ob, s.heap.get? a = some ob ∧ ob.dict = none := by
 cases x with
 | str z =>
  obtain ⟨t, rfl⟩ := r
  cases (show T = "str" from ty)
  exact ⟨typeIs_str s z t, fun _ e => nomatch e⟩
 | int i =>
  obtain ⟨t, rfl⟩ := r
  cases (show T = "int" from ty)
  exact ⟨typeIs_int s i t, fun _ e => nomatch e⟩
 | ref p =>
  cases r
  rcases ty with ⟨rfl, xs, hq⟩ | ⟨rfl, o, hk, hc, hd⟩ | ⟨rfl, hk⟩ | ⟨rfl, S, n, hk⟩
  ·obtain ⟨its, _, pl, _⟩ := I.list hq
   refine ⟨pl.isList.typeIs, fun a e => ?_⟩
   cases e
   obtain ⟨o, n, e, c, hd, _⟩ := pl
   exact ⟨o, e, hd⟩
  ·refine ⟨⟨o, I.kIn p o hk, hc⟩, fun a e => ?_⟩
   cases e
   exact ⟨o, I.kIn _ o hk, hd⟩
  ·have z : ∃ o, s.heap.get? p = some o ∧ o.ExactDict := by
    rcases hk with ⟨kvs, hk⟩ | ⟨kvs, hk⟩
    ·obtain ⟨_, _, _, _, o, _, _, e, ex, _⟩ := I.hok p _ hk
     exact ⟨o, e, ex⟩
    ·obtain ⟨_, _, _, _, o, _, _, e, ex, _⟩ := I.hok p _ hk
     exact ⟨o, e, ex⟩
   obtain ⟨o, e, ex⟩ := z
   refine ⟨⟨o, e, ex.1⟩, fun a e2 => ?_⟩
   cases e2
   exact ⟨o, e, ex.2.1⟩
  ·obtain ⟨o, _, _, _, e, ex, _⟩ := I.hok p _ hk
   refine ⟨⟨o, e, ex.1⟩, fun a e2 => ?_⟩
   cases e2
   exact ⟨o, e, ex.2.1⟩
 | _ => exact False.elim ty
def tBM0 (K : PySem.W.Frag) (T : String) (r : V → List V → Hp → VK → Prop) (to : TE) : TE := fun σ H Q => to σ H fun x H1 => tyV K T x H1 ∧ r x [] H1 Q
def tBM (K : PySem.W.Frag) (T : String) (r : V → List V → Hp → VK → Prop) (to : TE) (t : TA) : TE := fun σ H Q => to σ H fun x H1 => tyV K T x H1 ∧ t σ H1 fun xs H2 => r x xs H2 Q
variable {o e : Expr} {es : List Expr} {to : TE} {t : TA} {name : Str} {apos cpos : Pos} {T id : String} {r : V → List V → Hp → VK → Prop}
theorem pe_bm0 (pa : PlainAttrs T) (slot : Slot T name id) (hty : typeOf (.builtin id) = pure (.type "method_descriptor")) (hm : MtR X id r) (ho : PE X o to)
  (hbase : attributeBase o name X.env (eval o X.env) = eval o X.env := by rfl) (hline : (apos.endLine == cpos.line) = true := by rfl) : PE X (.Call (.Attribute o name apos) [] [] cpos) (tBM0 X.K T r to) := by
 intro pins s σ H Q I h
 refine wpAny_Call_method0_late hbase hline (thn (ho pins s σ H _ I h) fun v s1 ⟨x, H1, I1, r1, ty, q1⟩ => ?_)
 obtain ⟨h1, h2⟩ := tyV_is I1 r1 ty
 exact ⟨T, id, pa, slot, hty, h1, h2, Calls.callWith_builtin rfl (PySem.evalArgs_none (hm pins s1 σ H1 x [] v [] Q I1 r1 .nil q1))⟩
theorem pe_bm (pa : PlainAttrs T) (slot : Slot T name id) (hty : typeOf (.builtin id) = pure (.type "method_descriptor")) (hm : MtR X id r) (ho : PE X o to) (ha : PA X (e :: es) t)
  (hbase : attributeBase o name X.env (eval o X.env) = eval o X.env := by rfl)
  (hfew : ((backTo cpos (starEach (e :: es) X.env)).all (fun x => !x.1) && (backToKw cpos (keywordEach [] X.env)).all (fun x => x.1.isSome)
   && decide ((e :: es).length + ([] : List Keyword).length + (if ([] : List Keyword).isEmpty then 0 else 1) < 30)) = true := by rfl)
  (hline : (apos.endLine == cpos.line) = true := by rfl) (hs : starEach (e :: es) X.env = (false, eval e X.env) :: starEach es X.env := by rfl) (hplain : (backTo cpos (starEach es X.env)).any (·.1) = false := by rfl) :
  PE X (.Call (.Attribute o name apos) (e :: es) [] cpos) (tBM X.K T r to t) := by
 intro pins s σ H Q I h
 refine wpAny_Call_method_late hbase hfew hline rfl (thn (ho pins s σ H _ I h) fun v s1 ⟨x, H1, I1, r1, ty, q1⟩ => ?_)
 obtain ⟨h1, h2⟩ := tyV_is I1 r1 ty
 refine ⟨T, id, pa, slot, hty, h1, h2, ?_⟩
 have hA := ha cpos pins s1 σ H1 _ I1 q1
 rw [hs] at hA ⊢
 refine Calls.callWith_builtin (by show (false || (backTo cpos (starEach es X.env)).any (·.1)) = false; rw [hplain] <;> rfl) (Calls.evalArgs_plain ?_)
 exact thn hA fun us s2 ⟨vs, H2, I2, r2, q2⟩ => hm pins s2 σ H2 x vs v us Q I2 r1 r2 q2
/- xs.append(e), list.index on a module's tuple .. are MtR facts of 06m -/
end
end L2
namespace L2
open PySem PySem.Spec PyProof.Rows
def MtM (X : Cx) (id : String) (r : V → List V → Hp → VK → Prop) : Prop :=
 ∀ (pins : List (Addr × Obj)) (s : Shared) (σ : St) (H : Hp) (x : V) (xs : List V) (v : Value) (us : List Value) (Q : VK), Inv X pins σ H s → RelV x v → Vals xs us → r x xs H Q →
  wpAny (model X.prog X.w) X.A (call (.builtin id) (v :: us)) (EP X pins σ Q) X.xe s
theorem Vals.one : ∀ {x : V} {us : List Value}, Vals [x] us → ∃ u, us = [u] ∧ RelV x u
 | _, _, .cons r .nil => ⟨_, rfl, r⟩
theorem Vals.zero : ∀ {us : List Value}, Vals [] us → us = []
 | _, .nil => rfl
theorem Vals.dropLast {xs : List V} {us : List Value} (h : Vals xs us) : Vals xs.dropLast us.dropLast := by
 induction h with
 | nil => exact .nil
 | cons r t ih =>
  cases t with
  | nil => exact .nil
  | cons q t' => exact .cons r ih
theorem Vals.reverse {xs : List V} {us : List Value} (h : Vals xs us) : Vals xs.reverse us.reverse := by
 induction h with
 | nil => exact .nil
 | cons r t ih => rw [List.reverse_cons, List.reverse_cons]; exact Vals.append ih (.cons r .nil)
theorem erase_last {α : Type} (l : List α) : l.eraseIdx (l.length - 1) = l.dropLast := by
 induction l with
 | nil => rfl
 | cons a r ih =>
  cases r with
  | nil => rfl
  | cons b r =>
   have e : (a :: b :: r).length - 1 = ((b :: r).length - 1) + 1 := by
    have h1 : (a :: b :: r).length = r.length + 2 := rfl
    have h2 : (b :: r).length = r.length + 1 := rfl
    omega
   rw [e, List.eraseIdx_cons_succ, ih]
   all_goals rfl
section
variable {X : Cx} {pins : List (Addr × Obj)} {σ : St} {H : Hp} {s : Shared} {l b : Addr} {xs ys zs : List V}
theorem Inv.lset {its its' : List Value} {n : Nat} {f : Array Value → Array Value} {t' : Nat} (I : Inv X pins σ H s) (hH : H l = some (.lst xs))
  (e : s.heap.get? l = some { cls := .type "list", data := .seq its.toArray n }) (hf : f its.toArray = its'.toArray) (hv : Vals ys its') (hz : ys.length ≤ sizeLine) :
  Inv X pins σ (upd H l (.lst ys)) { s with heap := s.heap.update l (Obj.mapSeq f), toks := t' } := by
 have q := PySem.IsL.update e f
 rw [hf] at q
 refine I.write (x := l) (e := l) (by rw [hH]; exact trivial) (.inl rfl) (fun b' u hb hu => (Heap.get?_update_other s.heap (Obj.mapSeq f) (Ne.symm hb)).trans hu) ⟨_, q⟩ ?_
 exact ⟨hz, its', _, hv, q⟩
theorem Inv.lnew {its : List Value} {t' : Nat} (I : Inv X pins σ H s) (hv : Vals ys its) (hz : ys.length ≤ sizeLine) :
  Inv X pins σ (upd H s.heap.objs.size (.lst ys)) { s with heap := s.heap.push { cls := .type "list", data := .seq its.toArray }, toks := t' } :=
 I.laid (fun _ _ q => Heap.get?_push_of_some _ q) (Nat.le_refl _) ⟨hz, its, 0, hv, Heap.get?_push_size _ rfl⟩
theorem Inv.fresh (I : Inv X pins σ H s) : H s.heap.objs.size = none := I.hok.fresh (Nat.le_refl _)
theorem Inv.lstM (I : Inv X pins σ H s) (hH : H l = some (.lst xs)) : xs.length ≤ sizeLine ∧ ∃ (its : List Value) (n : Nat), Vals xs its ∧ xs.length = its.length ∧ s.heap.get? l = some { cls := .type "list", data := .seq its.toArray n } := by
 obtain ⟨z, its, n, r, e⟩ := I.hok l _ hH
 exact ⟨z, its, n, r, r.length, e⟩
end
section
variable {X : Cx}
def rAppend : V → List V → Hp → VK → Prop := fun x vs H Q => ∃ l xs y, x = .ref l ∧ vs = [y] ∧ H l = some (.lst xs) ∧ xs.length < sizeLine ∧ Q .non (upd H l (.lst (xs ++ [y])))
theorem mt_append : MtM X "list.append" rAppend := by
 intro pins s σ H x vs v us Q I rx rv h
 obtain ⟨l, xs, y, rfl, rfl, hH, hz, q⟩ := h
 cases rx
 obtain ⟨u, rfl, ru⟩ := rv.one
 obtain ⟨z, its, n, r, hl, e⟩ := I.lstM hH
 refine call_meets F.slot_list_append ⟨_, e, rfl⟩ F.entry_list_append (F.args_list_append_2 _ _) (PySem.list_append l its.toArray n u (by rw [List.size_toArray]; omega)) ⟨e, ?_⟩
 refine ⟨.non, _, I.lset (its' := its ++ [u]) hH e (by simp) (r.append (.cons ru .nil)) ?_, rfl, q⟩
 rw [List.length_append, List.length_singleton]
 omega
def rPop : V → List V → Hp → VK → Prop := fun x vs H Q => ∃ l xs y, x = .ref l ∧ vs = [] ∧ H l = some (.lst xs) ∧ xs[xs.length - 1]? = some y ∧ Q y (upd H l (.lst xs.dropLast))
theorem mt_pop : MtM X "list.pop" rPop := by
 intro pins s σ H x vs v us Q I rx rv h
 obtain ⟨l, xs, y, rfl, rfl, hH, hy, q⟩ := h
 cases rx
 have hus := rv.zero
 subst hus
 obtain ⟨z, its, n, r, hl, e⟩ := I.lstM hH
 obtain ⟨u, hu, ru⟩ := r.get hy
 have hy' : its.toArray[its.toArray.size - 1]? = some u := by
  show its.toArray[its.length - 1]? = some u
  rw [← Array.getElem?_toList, ← hl]
  exact hu
 refine call_meets F.slot_list_pop ⟨_, e, rfl⟩ F.entry_list_pop (F.args_list_pop_1 _) (MeetsSeq.list_pop_last l its.toArray n u hy' (by rw [List.size_toArray]; omega)) ⟨e, ?_⟩
 refine ⟨y, _, I.lset (its' := its.dropLast) hH e ?_ r.dropLast ?_, ru, q⟩
 ·show its.toArray.eraseIdxIfInBounds (its.toArray.size - 1) = its.dropLast.toArray
  rw [List.size_toArray, List.eraseIdxIfInBounds_toArray, erase_last]
 ·rw [List.length_dropLast]
  omega
def rReverse : V → List V → Hp → VK → Prop := fun x vs H Q => ∃ l xs, x = .ref l ∧ vs = [] ∧ H l = some (.lst xs) ∧ Q .non (upd H l (.lst xs.reverse))
theorem mt_reverse : MtM X "list.reverse" rReverse := by
 intro pins s σ H x vs v us Q I rx rv h
 obtain ⟨l, xs, rfl, rfl, hH, q⟩ := h
 cases rx
 have hus := rv.zero
 subst hus
 obtain ⟨z, its, n, r, hl, e⟩ := I.lstM hH
 refine call_meets F.slot_list_reverse ⟨_, e, rfl⟩ F.entry_list_reverse (F.args_list_reverse_1 _) (AutoSeq1.list_reverse_list_0 l its.toArray n (by rw [List.size_toArray]; omega)) ⟨e, ?_⟩
 refine ⟨.non, _, I.lset (its' := its.reverse) hH e (by simp) r.reverse ?_, rfl, q⟩
 rw [List.length_reverse]
 omega
def rCat : R2 := fun x y H Q => ∃ l b xs zs, x = .ref l ∧ y = .ref b ∧ H l = some (.lst xs) ∧ H b = some (.lst zs) ∧ xs.length + zs.length ≤ sizeLine ∧ ∀ p, H p = none → Q (.ref p) (upd H p (.lst (xs ++ zs)))
theorem op_cat : OpR X (binaryOp .Add) rCat := by
 intro pins s σ H x y v u Q I rx ry h
 obtain ⟨l, b, xs, zs, rfl, rfl, hH, hB, hz, q⟩ := h
 cases rx
 cases ry
 obtain ⟨z, its, n, r, hl, e⟩ := I.lstM hH
 obtain ⟨z2, its2, n2, r2, hl2, e2⟩ := I.lstM hB
 refine PySem.P.add_list e e2 ?_ (by rw [List.size_toArray, List.size_toArray]; omega)
 have ea : its.toArray ++ its2.toArray = (its ++ its2).toArray := by simp
 rw [ea]
 exact ⟨.ref _, _, I.lnew (t' := s.toks) (r.append r2) (by rw [List.length_append]; omega), rfl, q _ I.fresh⟩
end
section
variable {prog : Program} {w : World} {A : Around} {E : Value → Shared → Prop} {s : Shared}
set_option maxRecDepth 100000 in
end
section
variable {X : Cx}
end
end L2
namespace Att
open PySem PySem.W PySem.Calls PyProof.Rows
theorem ints_of_wellAll {P : Params} {h : Heap} : ∀ (ns : List Int) (vs : List Value), WellAll P h vs (ns.map WData.int) → IntsAre vs ns := by
 intro ns
 induction ns with
 | nil =>
  intro vs w
  rw [List.map_nil] at w
  cases w
  exact .nil
 | cons n ns ih =>
  intro vs w
  rw [List.map_cons] at w
  cases w with
  | cons a b =>
   cases a
   exact .cons _ _ (ih _ b)
theorem script_of {l : OpenLaw} {n : Nat} (hn : l.most = some n) {P : Params} {h : Heap} {args : List WData} {vals : List Value}
  (hpre : l.row.toRowW.claim.pre args = true) (hwl : WellAll P h vals args) :
  ∃ a vs ns, vals = [Value.ref a] ∧ args = [WData.list (ns.map WData.int)] ∧ h.get? a = some { cls := .type "list", data := .seq vs.toArray } ∧ IntsAre vs ns ∧ ns.length ≤ n := by
 have hsh : WShape.hasAll [] args [.list .int] = true := (pre_splitW hpre).1
 have hc : l.pre.holds [] { args := args } = true := (pre_splitW hpre).2
 obtain ⟨d, r, rfl, h1, h2⟩ := hasAllW_cons hsh
 obtain rfl := hasAllW_nil h2
 obtain ⟨xs, rfl, h3⟩ := hasW_list h1
 obtain ⟨ns, rfl⟩ := items_int h3
 have hlen : ns.length ≤ n := by
  unfold OpenLaw.pre at hc
  have h4 : (WTm.not (.lt (.lit (.int (n : Int))) (.len (.arg 0)))).holds [] { args := [.list (ns.map .int)] } = true := by
   have h4 := (holds_andW hc).1
   rw [hn] at h4
   exact h4
  have h5 := condW_of h4 (w_not (w_lt w_lit (w_len_list (w_arg rfl))))
  rw [List.length_map] at h5
  refine Nat.le_of_not_lt fun q => ?_
  have q' : (n : Int) < ((ns.length : Nat) : Int) := by omega
  first
   | (rw [decide_eq_true q'] at h5; exact absurd h5 (by decide))
   | (simp at h5; omega)
 cases hwl with
 | cons w1 w2 =>
  cases w2
  cases w1 with
  | list ho hall => exact ⟨_, _, ns, rfl, rfl, ho, ints_of_wellAll ns _ hall, hlen⟩
theorem post_true (l : OpenLaw) (args : List WData) : l.row.toRowW.claim.post args (.bool true) args = true :=
 postW_of (r := l.row.toRowW) (X := (true == true))
  (show WShape.has [] (.bool true) .bool = true by first | rfl | decide | simp [WShape.has, WShape.arms, WShape.armsAll])
  (show (WTm.eq .res (.lit (.bool true))).value [] { args := args, res := some (.bool true), after := args } = some (.bool (true == true)) from w_eq_bool (w_res rfl) w_lit) rfl
theorem attach_call {l : OpenLaw} {n : Nat} {q : Program} {loose : List Str} {XP : (Str → Option Value) → Heap → Prop} {YP : World → Heap → Prop} {d : DefRec}
  (hn : l.most = some n) (hdf : d.params.defaults = [])
  (call : ∀ (w : World) (s₀ s₁ : Shared) (mg mb : Str → Option Value) (fa : Addr) (o : Obj) (pm cd doc : Value) (a : Addr) (vs : List Value) (ns : List Int),
   Ground q loose [] XP w s₀ mg mb s₁.heap → YP w s₁.heap →
   s₁.heap.get? fa = some o → o.data = .func (docDef d.name d.params d.body d.scope pm cd doc) → s₁.heap.CodeRec cd d.name → mg d.name = some (.ref fa) →
   s₁.heap.get? a = some { cls := .type "list", data := .seq vs.toArray } → IntsAre vs ns → ns.length ≤ n → s₁.gens = #[] →
   codeAny (model l.prog w) callerA (.call (.ref fa) ⟨[.ref a], []⟩) (fun r s' => r = .ok (.ret (.bool true)) ∧ OldK s₁.heap s'.heap ∧ s'.os = s₁.os ∧ AllBare s'.gens) s₁) :
  WalkO q loose XP YP l.row.toRowW d [] (fun f vs => PySem.call f vs) := by
 intro w s₀ s₁ mg mb G Y fa o pm cd doc dV kV ho hd hcd hD hmg hg args vals as hpre hlay hrd hwl hlo
 obtain rfl : dV = .none := Dflts.none hD hdf
 obtain rfl : kV = .none := Dflts.noKw hD
 obtain ⟨a, vs, ns, rfl, rfl, hobj, hints, hlen⟩ := script_of hn hpre hwl
 refine enter_call (codeAny_mono (call w s₀ s₁ mg mb fa o pm cd doc a vs ns G Y ho (fd_plain hd) hcd hmg hobj hints hlen hg) fun r s' hq => ?_)
 obtain ⟨rfl, h2, h3, h4⟩ := hq
 exact ⟨.inl ⟨.bool true, .bool true, [], rfl, fun _ => rfl, .bool true, post_true l _, fun _ => ⟨List.Pairwise.nil, fun _ hm => (nomatch hm)⟩⟩, h2, h3, h4⟩
section
variable {prog : Program} {w : World} {A : Around} {E : Value → Shared → Prop} {s : Shared} {K : Frag}
end
end Att
namespace L2
open PySem PySem.Spec PyProof.Rows
theorem vals_ints : ∀ {vs : List Value} {ns : List Int}, IntsAre vs ns → Vals (ns.map V.int) vs
 | _, _, .nil => .nil
 | _, _, .cons n t h => .cons ⟨t, rfl⟩ (vals_ints h)
def Only (H : Hp) : Prop := ∀ b, H b = none ∨ ∃ o xs, H b = some (.frz o (.lst xs))
theorem law_call {P : Program} {w : World} {K : PySem.W.Frag} {mg mb : Str → Option Value} {CX : CXT} {k : Nat} {fa a : Addr} {fd : FuncData} {x : Str} {sp : Sp} {s₁ : Shared} {vs : List Value} {ns : List Int}
  (KX : K.In s₁.heap) (hns : s₁.heap.Ns mainGlobals mg) (hb : s₁.heap.Ns builtinsNs mb) (hbb : ∀ x : Str, x ≠ "__name__" → mb x = bootBuiltins x) (hlim : s₁.heap.NoLimit) (hg : s₁.gens = #[])
  (ha : s₁.heap.get? a = some { cls := .type "list", data := .seq vs.toArray }) (hi : IntsAre vs ns) (hl : ns.length ≤ sizeLine) (hr : Room k callerA)
  (F : ∀ base : Heap, K.In base → base.Ns mainGlobals mg → FnOk P w K mg base CX k fa fd [x] sp) (hbind : ∀ (s : Shared) (u : Value), BindsTo s fd ⟨[u], []⟩ [(x, u)])
  (hsp : ∀ H : Hp, Only H → SqL K H a (ns.map V.int) → sp [.ref a] H (fun v _ => v = .bl true) fun _ _ _ => False)
  (hCX : ∀ H e s', CX [] H s₁ (fun _ _ _ => False) e s' → False) :
  codeAny (model P w) callerA (.call (.ref fa) ⟨[.ref a], []⟩) (fun r s' => r = .ok (.ret (.bool true)) ∧ OldK s₁.heap s'.heap ∧ s'.os = s₁.os ∧ AllBare s'.gens) s₁ := by
 have rv := vals_ints hi
 have lenV := hi.length
 have core : ∀ H : Hp, Only H → SqL K H a (ns.map V.int) → HOk P w H s₁.heap → (∀ b, H b ≠ none → b = a) → (H a ≠ none → K.lookup a = none) →
   codeAny (model P w) callerA (.call (.ref fa) ⟨[.ref a], []⟩) (fun r s' => r = .ok (.ret (.bool true)) ∧ OldK s₁.heap s'.heap ∧ s'.os = s₁.os ∧ AllBare s'.gens) s₁ := by
  intro H hO hS hok hA hK
  have base_of : ∀ {b : Addr} {o : Obj}, s₁.heap.get? b = some o → H b = none → (hidT s₁.heap H).get? b = some o := fun e n => hidT_get e n
  have noA : ∀ {b : Addr} {o : Obj} {es : Array DictEntry} {ep : Nat}, s₁.heap.get? b = some o → o.data = .dict es ep → H b = none := fun {b o es ep} e d => by
   cases q : H b with
   | none => rfl
   | some u =>
    have e' : b = a := hA b (by rw [q]; simp)
    subst e'
    rw [ha] at e; cases e
    have d' : Data.seq vs.toArray _ = Data.dict es ep := d
    cases d'
  have nsK : ∀ {b : Addr} {m : Str → Option Value}, s₁.heap.Ns b m → (hidT s₁.heap H).Ns b m := fun {b m} ⟨o, es, ep, e, d, r⟩ => ⟨o, es, ep, base_of e (noA e d), d, r⟩
  have hKb : K.In (hidT s₁.heap H) := fun b o e => base_of (KX b o e) (by
   cases q : H b with
   | none => rfl
   | some u =>
    have e' : b = a := hA b (by rw [q]; simp)
    subst e'
    rw [hK (by rw [q]; simp)] at e; cases e)
  have hM : Mod K mg (hidT s₁.heap H) := ⟨hKb, nsK hns, ⟨mb, nsK hb, hbb⟩, let ⟨mc, h1, h2⟩ := hlim; ⟨mc, nsK h1, h2⟩⟩
  have e0 : Env0 P w K mg (hidT s₁.heap H) callerA [] s₁ H := ⟨rfl, hM, fun b o e => of_hidT e, Nat.le_of_eq (hidT_size _ _), trivial, fun b hb => absurd (show b ∈ ([] : List Addr) from hb) (by simp), hok, .of_eq hg⟩
  refine codeAny_mono ((F _ hKb (nsK hns)).run callerA [] s₁ H ⟨[.ref a], []⟩ [.ref a] [.ref a] _ _ hr e0 (hbind s₁ (.ref a)) (.cons rfl .nil) (hsp H hO hS)) fun r s' h => ?_
  cases r with
  | error e => exact (hCX H e s' h).elim
  | ok fl =>
   cases fl with
   | next => exact False.elim h
   | brk => exact False.elim h
   | cont => exact False.elim h
   | ret u =>
    obtain ⟨v, H', os, bare, un, hok', r', q⟩ := h
    have q' : v = .bl true := q
    subst q'
    obtain rfl : u = Value.bool true := r'
    refine ⟨rfl, OldK.of_keep fun b o e => ?_, os, bare⟩
    cases q : H b with
    | none => exact un.keep b o e q (by intro z; exact absurd (show b ∈ ([] : List Addr) from z) (by simp)) (by simp)
    | some u =>
     rcases hO b with z | ⟨ob, xs, z⟩
     ·rw [q] at z; cases z
     ·have z2 := un.frzs b ob _ z
      obtain ⟨e1, _⟩ := hok b _ z
      obtain ⟨e2, _⟩ := hok' b _ z2
      rw [e] at e1; cases e1
      exact e2
 cases hk : K.lookup a with
 | some o =>
  have e := KX a o hk
  rw [ha] at e
  cases e
  refine core (fun _ => none) (fun _ => .inl rfl) (.inr ⟨_, vs.toArray, _, hk, rfl, rfl, rfl, by rw [List.size_toArray, lenV]; exact hl, by simpa using rv⟩) (fun b u z => by have z' : (none : Option HO) = some u := z; cases z') (fun b z => absurd rfl z) fun z => absurd rfl z
 | none =>
  refine core (fun b => if b = a then some (.frz { cls := .type "list", data := .seq vs.toArray } (.lst (ns.map V.int))) else none) (fun b => ?_) (.inl (.inr ⟨{ cls := .type "list", data := .seq vs.toArray }, if_pos rfl⟩)) (fun b u z => ?_) (fun b z => ?_) fun _ => hk
  ·by_cases hb : b = a
   ·exact .inr ⟨_, _, if_pos hb⟩
   ·exact .inl (if_neg hb)
  ·by_cases hb : b = a
   ·have z' := (if_pos hb).symm.trans z
    cases z'
    subst hb
    exact ⟨ha, by rw [List.length_map]; exact hl, vs, _, rv, ha⟩
   ·have z' := (if_neg hb).symm.trans z
    cases z'
  ·by_cases hb : b = a
   ·exact hb
   ·exact absurd (if_neg hb) z
end L2
namespace L2
open PySem PySem.Spec PyProof.Rows
abbrev KOf {K : PySem.W.Frag} {h : Heap} (_ : K.In h) : PySem.W.Frag := K
theorem walk_of {l : PySem.W.OpenLaw} {n k : Nat} {q : Program} {loose : List Str} {XP : (Str → Option Value) → Heap → Prop} {YP : World → Heap → Prop} {d : DefRec} {K : Params → PySem.W.Frag} {CX : World → CXT} {sp : World → Sp} {x : Str}
  (hn : l.most = some n) (hn2 : n ≤ sizeLine) (hdf : d.params.defaults = []) (hr : Room k callerA)
  (hY : ∀ (w : World) (h : Heap), YP w h → (K w.params).In h)
  (F : ∀ (w : World) (mg : Str → Option Value) (fa : Addr) (h : Heap), (K w.params).In h → h.Ns mainGlobals mg → mg d.name = some (.ref fa) →
   ∃ fd : FuncData, (∀ (s : Shared) (u : Value), BindsTo s fd ⟨[u], []⟩ [(x, u)]) ∧
    ∀ base : Heap, (K w.params).In base → base.Ns mainGlobals mg → FnOk l.prog w (K w.params) mg base (CX w) k fa fd [x] (sp w))
  (hsp : ∀ (w : World) (H : Hp) (a : Addr) (ns : List Int), ns.length ≤ n → Only H → SqL (K w.params) H a (ns.map V.int) → sp w [.ref a] H (fun v _ => v = .bl true) fun _ _ _ => False)
  (hCX : ∀ (w : World) (H : Hp) (s : Shared) (e : Value) (s' : Shared), CX w [] H s (fun _ _ _ => False) e s' → False) :
  PySem.W.WalkO q loose XP YP l.row.toRowW d [] (fun f vs => PySem.call f vs) := by
 refine Att.attach_call hn hdf fun w s₀ s₁ mg mb fa o pm cd doc a vs ns G Y ho hd hcd hmg hobj hints hlen hg => ?_
 have KX := hY w _ Y
 obtain ⟨fd, hb, hF⟩ := F w mg fa _ KX G.T.g hmg
 exact law_call KX G.T.g G.T.b G.T.builtins G.T.nolimit hg hobj hints (Nat.le_trans hlen hn2) hr hF hb (fun H hO hS => hsp w H a ns hlen hO hS) fun H e s' => hCX w H s₁ e s'
end L2
/- THE LAST THEOREM (shape; LID, My.* are yours):
   My.Adr: a structure of the addresses that your layer names (classes, functions); My.Txt K t: a structure (Prop) of the equations over K;
   My.txt_mk : {K} {implicit addresses ..} (e1 : nsIn K mainGlobals "law" = some (some (.ref f))) (e2 : K.lookup f = some ⟨oc, od, .func (fnOf "law" "law" params body scope dV kV doc pm an cdv ct), sl⟩) (e3 : codeIn K cdv "law" = true) .. : ∃ t, My.Txt K t
set_option maxRecDepth 100000 in
set_option maxHeartbeats 0 in
theorem PySem.Challenge.cw_LID_holds : PySem.Challenge.rw_LID.Holds := by
 w_on; o_law; k_head; (case hw => w_witness2)
 k_fill
 refine L2.walk_of (l := PySem.Challenge.rw_LID) (n := 63) (k := 40) (x := "script") (CX := fun w => ..) (sp := fun _ => My.sp_law) rfl (by decide) rfl ⟨rfl, by decide, by decide⟩ (fun w h Y => PySem.W.kIn_of Y) ?F ?S ?C
 case F =>
  intro w mg fa h KX G hmg
  have T : ∃ t, My.Txt (L2.KOf KX) t := by
   dsimp only [L2.KOf]                          -- K must stand as «<heap const> w.params» for k_is
   refine' My.txt_mk ?e1 ?e2 ?e3 ..
   (case e1 => PySem.W.k_is)                    -- in the order: a name -> its address -> its object -> its parts
   (case e2 => PySem.W.k_is)
   ..
  obtain ⟨t, T⟩ := T
  have e0 := hmg.symm.trans (PySem.W.mg_of KX G T.law)
  cases e0                                       -- fa is the law's own address
  exact ⟨_, fun s u => .of_eq rfl, fun base kb nb => My.law_fn T kb nb⟩     -- if «.of_eq rfl» comes too early: refine' ⟨_, ?b, fun base kb nb => My.law_fn T kb nb⟩; exact fun s u => .of_eq rfl
 case S => exact fun w H a ns hl hO hS => ..
 case C => exact ..
(the tactic k_is has no namespace: write k_is) -/
namespace L2
open PySem PySem.Spec PyProof.Rows
def inClass (s : Stmt) (j : Nat) : Stmt := match s with
 | .ClassDef _ _ _ body _ _ _ _ _ _ _ => body.getD j (.Pass ⟨0, 0, 0, 0⟩)
 | _ => .Pass ⟨0, 0, 0, 0⟩
def defArgs (s : Stmt) : Arguments := match s with
 | .FunctionDef _ a _ _ _ _ _ _ _ _ => a
 | _ => { posonlyargs := [], args := [], vararg := none, kwonlyargs := [], kw_defaults := [], kwarg := none, defaults := [] }
def defBody (s : Stmt) : List Stmt := match s with
 | .FunctionDef _ _ b _ _ _ _ _ _ _ => b
 | _ => []
def defScope (s : Stmt) : Scope := match s with
 | .FunctionDef _ _ _ _ _ _ sc _ _ _ => sc
 | _ => { kind := .function, names := [], isGenerator := false, isCoroutine := false }
abbrev E0 : XK := fun _ _ _ => False
structure Fun (K : PySem.W.Frag) (x qual : Str) (st : Stmt) (f : Addr) (fd : FuncData) : Prop where
 ex : ∃ (oc : Value) (od : Option Addr) (kV doc pm : Value) (an : Option Addr) (cdv ct : Value) (osl : Array (Option Value)),
  fd = PySem.W.fnOf x qual (defArgs st) (defBody st) (defScope st) .none kV doc pm an cdv ct ∧ K.lookup f = some ⟨oc, od, .func fd, osl⟩ ∧ PySem.W.codeIn K cdv qual = true
 kp : PySem.W.keepIn K (.ref f) = true
section
variable {P : Program} {w : World} {K : PySem.W.Frag} {mg : Str → Option Value} {base : Heap}
theorem Fun.binds {x qual : Str} {st : Stmt} {f : Addr} {fd : FuncData} {ps : List Str} (F : Fun K x qual st f fd)
  (h : ∀ (kV doc pm : Value) (an : Option Addr) (cdv ct : Value) (us : List Value), us.length = ps.length → bindArgs (PySem.W.fnOf x qual (defArgs st) (defBody st) (defScope st) .none kV doc pm an cdv ct) ⟨us, []⟩ = pure (ps.zip us)) : Binds K fd ps [] := by
 obtain ⟨oc, od, kV, doc, pm, an, cdv, ct, osl, rfl, lk, hcd⟩ := F.ex
 exact .all (h kV doc pm an cdv ct)
end
section
variable {X : Cx}
theorem pv (i : Nat) {x : Str} {pos : Pos} (hN : X.N[i]? = some x := by rfl) (hv : Vis X.env.scope x := by first | exact Or.inl rfl | exact Or.inr (Or.inl rfl) | exact Or.inr (Or.inr rfl)) (hd : (x == ("__debug__" : Str)) = false := by decide)
  (hcd : (x == ("__classdict__" : Str)) = false := by decide) : PE X (.Name x pos) (tVar i) := pe_var hN hv hd hcd
end
def Same (H H' : Hp) : Prop := ∀ b o, H b = some o → H' b = some o
theorem Same.refl (H : Hp) : Same H H := fun _ _ h => h
theorem Same.trans {H H1 H2 : Hp} (a : Same H H1) (b : Same H1 H2) : Same H H2 := fun c o h => b c o (a c o h)
theorem Same.seq {K : PySem.W.Frag} {H H' : Hp} {a : Addr} {xs : List V} (e : Same H H') (h : SqL K H a xs) : SqL K H' a xs := by
 rcases h with (h | ⟨o, h⟩) | h
 ·exact .inl (.inl (e _ _ h))
 ·exact .inl (.inr ⟨o, e _ _ h⟩)
 ·exact .inr h
end L2
set_option Elab.async false
set_option linter.all false
set_option maxRecDepth 100000
set_option maxHeartbeats 4000000
namespace L2
open PySem PySem.Spec PyProof.Rows
section
variable {κ : Type} [DecidableEq κ]
def valV (kvs : List (κ × V)) (k : κ) : Option V := (kvs.find? fun kv => decide (kv.1 = k)).map (·.2)
def putK (kvs : List (κ × V)) (k : κ) (v : V) : List (κ × V) :=
 if (kvs.any fun kv => decide (kv.1 = k)) = true then kvs.map (fun kv => if kv.1 = k then (kv.1, v) else kv) else kvs ++ [(k, v)]
theorem valV_pos {p : κ × V} {r : List (κ × V)} {k : κ} (e : p.1 = k) : valV (p :: r) k = some p.2 := by simp [valV, List.find?_cons, e]
theorem valV_neg {p : κ × V} {r : List (κ × V)} {k : κ} (e : ¬ p.1 = k) : valV (p :: r) k = valV r k := by simp [valV, List.find?_cons, e]
theorem valV_any (k : κ) : ∀ kvs : List (κ × V), (kvs.any fun kv => decide (kv.1 = k)) = (valV kvs k).isSome
 | [] => rfl
 | p :: r => by
  rw [List.any_cons]
  by_cases e : p.1 = k
  ·simp only [valV_pos e, decide_eq_true e, Bool.true_or, Option.isSome_some]
  ·rw [valV_neg e, decide_eq_false e, Bool.false_or]; exact valV_any k r
theorem valV_map (k j : κ) (y : V) : ∀ kvs : List (κ × V), valV (kvs.map fun kv => if kv.1 = k then (kv.1, y) else kv) j = (valV kvs j).map fun x => if j = k then y else x
 | [] => rfl
 | p :: r => by
  have ih := valV_map k j y r
  rw [List.map_cons]
  by_cases h : p.1 = k
  ·rw [if_pos h]
   by_cases e : p.1 = j
   ·rw [valV_pos (p := (p.1, y)) e, valV_pos e, Option.map_some, if_pos (e.symm.trans h)]
   ·rw [valV_neg (p := (p.1, y)) e, valV_neg e, ih]
  ·rw [if_neg h]
   by_cases e : p.1 = j
   ·rw [valV_pos (p := p) e, valV_pos e, Option.map_some, if_neg (fun z => h (e.trans z))]
   ·rw [valV_neg (p := p) e, valV_neg e, ih]
theorem valV_snoc (k j : κ) (y : V) : ∀ kvs : List (κ × V), valV kvs k = none → valV (kvs ++ [(k, y)]) j = if j = k then some y else valV kvs j
 | [], _ => by
  by_cases e : k = j
  ·rw [if_pos e.symm]; exact valV_pos (p := (k, y)) e
  ·rw [if_neg (fun z => e z.symm)]; exact valV_neg (p := (k, y)) e
 | p :: r, hn => by
  rw [List.cons_append]
  have hk : ¬ p.1 = k := fun z => by rw [valV_pos z] at hn; cases hn
  rw [valV_neg hk] at hn
  have ih := valV_snoc k j y r hn
  by_cases e : p.1 = j
  ·rw [valV_pos e, valV_pos e, if_neg (fun z => hk (e.trans z))]
  ·rw [valV_neg e, valV_neg e, ih]
theorem valV_put (kvs : List (κ × V)) (k j : κ) (y : V) : valV (putK kvs k y) j = if j = k then some y else valV kvs j := by
 unfold putK
 by_cases a : (kvs.any fun kv => decide (kv.1 = k)) = true
 ·rw [if_pos a, valV_map]
  rw [valV_any] at a
  by_cases e : j = k
  ·obtain ⟨x, hx⟩ := Option.isSome_iff_exists.mp a
   rw [if_pos e, e, hx, Option.map_some, if_pos rfl]
  ·rw [if_neg e]
   cases valV kvs j with
   | none => rfl
   | some x => rw [Option.map_some, if_neg e]
 ·rw [if_neg a]
  refine valV_snoc k j y kvs ?_
  rw [valV_any] at a
  cases q : valV kvs k with
  | none => rfl
  | some x => rw [q] at a; exact (a rfl).elim
theorem length_putK (kvs : List (κ × V)) (k : κ) (v : V) : (putK kvs k v).length ≤ kvs.length + 1 := by
 unfold putK
 split
 ·rw [List.length_map]; omega
 ·rw [List.length_append, List.length_cons, List.length_nil]; omega
theorem RelO.isSome_eq {o : Option V} {u : Option Value} (r : RelO o u) : o.isSome = u.isSome := by
 cases o with
 | none => cases u with
  | none => rfl
  | some _ => exact (show False from r).elim
 | some _ => cases u with
  | none => exact (show False from r).elim
  | some _ => rfl
theorem RelO.getD {o : Option V} {u : Option Value} {d : V} {d' : Value} (r : RelO o u) (rd : RelV d d') : RelV (o.getD d) (u.getD d') := by
 cases o with
 | none => cases u with
  | none => exact rd
  | some _ => exact (show False from r).elim
 | some _ => cases u with
  | none => exact (show False from r).elim
  | some _ => exact r
theorem KV.val {kvs : List (κ × V)} {vs : List (κ × Value)} (r : KV kvs vs) (k : κ) : RelO (valV kvs k) (valueAt vs k) := by
 unfold KV at r
 induction r with
 | nil => exact True.intro
 | @cons p q ps qs h t ih =>
  obtain ⟨h1, h2⟩ := h
  by_cases e : p.1 = k
  ·have e' : q.1 = k := h1.symm.trans e
   have b : valueAt (q :: qs) k = some q.2 := by simp [valueAt, List.find?_cons, e']
   rw [valV_pos e, b]; exact h2
  ·have e' : ¬ q.1 = k := fun z => e (h1.trans z)
   have b : valueAt (q :: qs) k = valueAt qs k := by simp [valueAt, List.find?_cons, e']
   rw [valV_neg e, b]; exact ih
theorem KV.any {kvs : List (κ × V)} {vs : List (κ × Value)} (r : KV kvs vs) (k : κ) : (kvs.any fun kv => decide (kv.1 = k)) = vs.any fun kv => decide (kv.1 = k) := by
 unfold KV at r
 induction r with
 | nil => rfl
 | cons h t ih => rw [List.any_cons, List.any_cons, ih, h.1]
theorem KV.repl {kvs : List (κ × V)} {vs : List (κ × Value)} (r : KV kvs vs) (k : κ) {y : V} {u : Value} (ry : RelV y u) :
  KV (kvs.map fun kv => if kv.1 = k then (kv.1, y) else kv) (vs.map fun kv => if kv.1 = k then (kv.1, u) else kv) := by
 unfold KV at r ⊢
 induction r with
 | nil => exact .nil
 | @cons p q ps qs h t ih =>
  rw [List.map_cons, List.map_cons]
  refine .cons ?_ ih
  obtain ⟨h1, h2⟩ := h
  by_cases e : p.1 = k
  ·rw [if_pos e, if_pos (h1.symm.trans e)]; exact ⟨h1, ry⟩
  ·rw [if_neg e, if_neg (fun z => e (h1.trans z))]; exact ⟨h1, h2⟩
theorem KV.put {kvs : List (κ × V)} {vs : List (κ × Value)} (r : KV kvs vs) (k : κ) {y : V} {u : Value} (ry : RelV y u) : KV (putK kvs k y) (stored vs k u) := by
 unfold putK stored
 rw [r.any k]
 by_cases e : (vs.any fun kv => decide (kv.1 = k)) = true
 ·rw [if_pos e, if_pos e]; exact r.repl k ry
 ·rw [if_neg e, if_neg e]; exact Paired.snoc r ⟨rfl, ry⟩
theorem KV.length {kvs : List (κ × V)} {vs : List (κ × Value)} (r : KV kvs vs) : kvs.length = vs.length := Paired.length r
end
theorem kV_is {P : Program} {w : World} {k : Key} {u : Value} (r : RelV (kV k) u) : (mixKind P w).is k u = true := by
 cases k with
 | inl i => have e := (show u = Value.bool i from r); subst e; exact mixKind_bool P w i
 | inr x => obtain ⟨t, e⟩ := (show ∃ t, u = Value.str x t from r); subst e; exact mixKind_str P w x t
theorem items_are {P : Program} {w : World} : ∀ {ks : List Key} {us : List Value}, Vals (ks.map kV) us → ItemsAre (mixKind P w) ks us
 | [], _, r => by rw [List.map_nil] at r; cases r; exact .nil
 | k :: ks, _, r => by
  rw [List.map_cons] at r
  cases r with
  | cons h t => exact .cons (kV_is h) (items_are t)
abbrev KT (H : Hp) : List (List Key × V) → List (List Key × Addr × Value) → Prop := Paired fun p q => p.1 = q.1 ∧ H q.2.1 = some (.tup (p.1.map kV)) ∧ RelV p.2 q.2.2
theorem KT.val {H : Hp} {kvs : List (List Key × V)} {xs : List (List Key × Addr × Value)} (r : KT H kvs xs) (k : List Key) : RelO (valV kvs k) ((atKey xs k).map (·.2)) := by
 induction r with
 | nil => exact True.intro
 | @cons p q ps qs h t ih =>
  obtain ⟨h1, _, h2⟩ := h
  by_cases e : p.1 = k
  ·have e' : q.1 = k := h1.symm.trans e
   have b : atKey (q :: qs) k = some q.2 := by simp [atKey, List.find?_cons, e']
   rw [valV_pos e, b]; exact h2
  ·have e' : ¬ q.1 = k := fun z => e (h1.trans z)
   have b : atKey (q :: qs) k = atKey qs k := by simp [atKey, List.find?_cons, e']
   rw [valV_neg e, b]; exact ih
theorem KT.repl {H : Hp} {kvs : List (List Key × V)} {xs : List (List Key × Addr × Value)} (r : KT H kvs xs) (k : List Key) {y : V} {u : Value} (ry : RelV y u) :
  KT H (kvs.map fun kv => if kv.1 = k then (kv.1, y) else kv) (xs.map (putAt k u)) := by
 induction r with
 | nil => exact .nil
 | @cons p q ps qs h t ih =>
  rw [List.map_cons, List.map_cons]
  refine .cons ?_ ih
  obtain ⟨h1, h2, h3⟩ := h
  unfold putAt
  by_cases e : p.1 = k
  ·rw [if_pos e, if_pos (h1.symm.trans e)]; exact ⟨h1, h2, ry⟩
  ·rw [if_neg e, if_neg (fun z => e (h1.trans z))]; exact ⟨h1, h2, h3⟩
theorem KT.put {H : Hp} {kvs : List (List Key × V)} {xs : List (List Key × Addr × Value)} (r : KT H kvs xs) (k : List Key) {b : Addr} {y : V} {u : Value} (hb : H b = some (.tup (k.map kV))) (ry : RelV y u) :
  KT H (putK kvs k y) (storedH xs k b u) := by
 have e : (kvs.any fun kv => decide (kv.1 = k)) = (atKey xs k).isSome := by
  rw [valV_any, (r.val k).isSome_eq, Option.isSome_map]
 unfold putK storedH
 rw [e]
 by_cases q : (atKey xs k).isSome = true
 ·rw [if_pos q, if_pos q]; exact r.repl k ry
 ·rw [if_neg q, if_neg q]; exact Paired.snoc r ⟨rfl, hb, ry⟩
theorem KT.keeps {H H' : Hp} {kvs : List (List Key × V)} {xs : List (List Key × Addr × Value)} (r : KT H kvs xs) (ht : ∀ b ys, H b = some (.tup ys) → H' b = some (.tup ys)) : KT H' kvs xs :=
 Paired.mapP r fun _ _ z => ⟨z.1, ht _ _ z.2.1, z.2.2⟩
section
variable {P : Program} {w : World} {H : Hp} {h : Heap} {a : Addr}
theorem y75y {u : HO} (ok : HOk P w H h) (e : Rd H a u) : ObjOk P w H h a u := e.ok ok
theorem dk_rd {kvs : List (Key × V)} (ok : HOk P w H h) (e : Rd H a (.dK kvs)) : kvs.length ≤ sizeLine ∧ (a == sysModules) = false ∧ ∃ vs, KV kvs vs ∧ h.DictOf (mixKind P w) a vs :=
 show ObjOk P w H h a (.dK kvs) from y75y ok e
theorem dk_of {kvs : List (Key × V)} (ok : HOk P w H h) (e : H a = some (.dK kvs)) : kvs.length ≤ sizeLine ∧ (a == sysModules) = false ∧ ∃ vs, KV kvs vs ∧ h.DictOf (mixKind P w) a vs := dk_rd ok (.inl e)
theorem key_of {ks : List Key} (ok : HOk P w H h) (e : H a = some (.tup (ks.map kV))) : (tupleKind (mixKind P w)).is h ks a := by
 obtain ⟨_, its, r, o, h1, h2, n, h3⟩ := (show ObjOk P w H h a (.tup (ks.map kV)) from ok a _ e)
 exact ⟨o, its.toArray, n, h1, h2, h3, by simpa using items_are r⟩
theorem dt_rd {kvs : List (List Key × V)} (ok : HOk P w H h) (e : Rd H a (.dT kvs)) : kvs.length ≤ sizeLine ∧ (a == sysModules) = false ∧
  ∃ xs, KT H kvs xs ∧ h.DictOfH (tupleKind (mixKind P w)) a xs := by
 obtain ⟨z, y, xs, r, o, es, ep, h1, h2, h3, h4, h5⟩ := (show ObjOk P w H h a (.dT kvs) from y75y ok e)
 refine ⟨z, y, xs, r, o, es, ep, h1, h2, h3, h4, fun x hx => ?_, h5⟩
 have all : ∀ {l : List (List Key × V)} {m : List (List Key × Addr × Value)}, KT H l m → ∀ x ∈ m, (tupleKind (mixKind P w)).is h x.1 x.2.1 := by
  intro l m q
  induction q with
  | nil => intro x hx; exact nomatch hx
  | @cons p q ps qs hq t ih =>
   intro x hx
   rcases List.mem_cons.mp hx with e | hx
   ·subst e
    exact key_of ok (by rw [← hq.1]; exact hq.2.1)
   ·exact ih x hx
 exact all r x hx
theorem dt_of {kvs : List (List Key × V)} (ok : HOk P w H h) (e : H a = some (.dT kvs)) : kvs.length ≤ sizeLine ∧ (a == sysModules) = false ∧
  ∃ xs, KT H kvs xs ∧ h.DictOfH (tupleKind (mixKind P w)) a xs := dt_rd ok (.inl e)
end
def DGet (H : Hp) (a : Addr) (y : V) (r : Option V) : Prop :=
 (∃ kvs k, Rd H a (.dK kvs) ∧ y = kV k ∧ r = valV kvs k) ∨ ∃ kvs k b, Rd H a (.dT kvs) ∧ y = .ref b ∧ H b = some (.tup (k.map kV)) ∧ r = valV kvs k
def DPut (H : Hp) (a : Addr) (y v : V) (H' : Hp) : Prop :=
 (∃ kvs k, H a = some (.dK kvs) ∧ y = kV k ∧ kvs.length < sizeLine ∧ H' = upd H a (.dK (putK kvs k v))) ∨
 ∃ kvs k b, H a = some (.dT kvs) ∧ y = .ref b ∧ H b = some (.tup (k.map kV)) ∧ kvs.length < sizeLine ∧ H' = upd H a (.dT (putK kvs k v))
theorem DGet.k {H : Hp} {a : Addr} {kvs : List (Key × V)} {k : Key} (e : H a = some (.dK kvs)) : DGet H a (kV k) (valV kvs k) := .inl ⟨kvs, k, .inl e, rfl, rfl⟩
theorem DPut.k {H : Hp} {a : Addr} {kvs : List (Key × V)} {k : Key} {v : V} (e : H a = some (.dK kvs)) (hl : kvs.length < sizeLine) : DPut H a (kV k) v (upd H a (.dK (putK kvs k v))) := .inl ⟨kvs, k, e, rfl, hl, rfl⟩
section
variable {X : Cx} {pins : List (Addr × Obj)} {σ : St} {H : Hp} {s : Shared} {a : Addr} {y v : V} {u r : Value} {o : Option V} {A : Around} {E : Value → Shared → Prop}
theorem Inv.big (I : Inv X pins σ H s) : sysModules < s.heap.objs.size := by
 have h : mainGlobals < s.heap.objs.size := (I.mod.glob.keeps I.bk).lt
 exact Nat.lt_trans (by decide) h
theorem d_getItem {Q : Value → Shared → Prop} (hu : A.units + 1 < cLine) (I : Inv X pins σ H s) (g : DGet H a y (some v)) (ry : RelV y u) (h : ∀ w' s', Inv X pins σ H s' → RelV v w' → Q w' s') :
  wpAny (model X.prog X.w) A (getItem (.ref a) u) Q E s := by
 rcases g with ⟨kvs, k, e, ey, l⟩ | ⟨kvs, k, b, e, ey, eb, l⟩
 ·subst ey
  obtain ⟨z, hd, vs, rel, dd⟩ := dk_rd I.hok e
  obtain ⟨w', hw, rw'⟩ := RelO.some_of (v := v) (o := valueAt vs k) (by rw [l]; exact rel.val k)
  exact wpAny_getItem_of (kV_is ry) dd.mapOf hw (h w' _ (I.tok _) rw')
 ·subst ey
  cases (show u = Value.ref b from ry)
  obtain ⟨z, hd, xs, rel, dd⟩ := dt_rd I.hok e
  obtain ⟨w', hw, rw'⟩ := RelO.some_of (v := v) (o := (atKey xs k).map (·.2)) (by rw [l]; exact rel.val k)
  obtain ⟨p, hp, hp2⟩ := Option.map_eq_some_iff.mp hw
  refine wpAny_getItem_heap (tupleKind_room_in1 hu) (key_of I.hok eb) dd hp ?_
  rw [hp2]
  exact h w' _ (I.tok _) rw'
theorem d_in {Q : Value → Shared → Prop} (hu : A.units + 1 < cLine) (I : Inv X pins σ H s) (g : DGet H a y o) (ry : RelV y u) (h : ∀ s', Inv X pins σ H s' → Q (.bool o.isSome) s') :
  wpAny (model X.prog X.w) A (compareOp .In u (.ref a)) Q E s := by
 rcases g with ⟨kvs, k, e, ey, l⟩ | ⟨kvs, k, b, e, ey, eb, l⟩
 ·subst ey
  obtain ⟨z, hd, vs, rel, dd⟩ := dk_rd I.hok e
  refine wpAny_in_of (kV_is ry) hd dd.mapOf ?_
  rw [← (rel.val k).isSome_eq, ← l]
  exact h _ (I.tok _)
 ·subst ey
  cases (show u = Value.ref b from ry)
  obtain ⟨z, hd, xs, rel, dd⟩ := dt_rd I.hok e
  refine wpAny_in_heap (tupleKind_room_in1 hu) (key_of I.hok eb) hd dd ?_
  have q := (rel.val k).isSome_eq
  rw [Option.isSome_map] at q
  rw [← q, ← l]
  exact h _ (I.tok _)
theorem d_notIn {Q : Value → Shared → Prop} (hu : A.units + 1 < cLine) (I : Inv X pins σ H s) (g : DGet H a y o) (ry : RelV y u) (h : ∀ s', Inv X pins σ H s' → Q (.bool (!o.isSome)) s') :
  wpAny (model X.prog X.w) A (compareOp .NotIn u (.ref a)) Q E s := by
 rcases g with ⟨kvs, k, e, ey, l⟩ | ⟨kvs, k, b, e, ey, eb, l⟩
 ·subst ey
  obtain ⟨z, hd, vs, rel, dd⟩ := dk_rd I.hok e
  refine wpAny_notIn_of (kV_is ry) hd dd.mapOf ?_
  rw [← (rel.val k).isSome_eq, ← l]
  exact h _ (I.tok _)
 ·subst ey
  cases (show u = Value.ref b from ry)
  obtain ⟨z, hd, xs, rel, dd⟩ := dt_rd I.hok e
  refine wpAny_notIn_heap (tupleKind_room_in1 hu) (key_of I.hok eb) hd dd ?_
  have q := (rel.val k).isSome_eq
  rw [Option.isSome_map] at q
  rw [← q, ← l]
  exact h _ (I.tok _)
theorem d_write {h' : Heap} {t' : Nat} {ob : HO} (I : Inv X pins σ H s) (mu : Mut (H a)) (hs : Heap.SameBut a s.heap h') (he : ∃ q, h'.get? a = some q) (new : ObjOk X.prog X.w (upd H a ob) h' a ob) :
  Inv X pins σ (upd H a ob) { s with heap := h', toks := t' } :=
 I.write (x := a) (e := a) mu (.inl rfl) (fun b q hb z => (hs.2 b hb).trans z) he new
theorem dk_new {P : Program} {w : World} {H' : Hp} {h' : Heap} {kvs : List (Key × V)} {vs : List (Key × Value)} (z : kvs.length ≤ sizeLine) (hd : (a == sysModules) = false) (rel : KV kvs vs) (dd : h'.DictOf (mixKind P w) a vs) :
  ObjOk P w H' h' a (.dK kvs) := ⟨z, hd, vs, rel, dd⟩
theorem d_setItem {H' : Hp} {Q : Unit → Shared → Prop} (hu : A.units + 1 < cLine) (I : Inv X pins σ H s) (g : DPut H a y v H') (ry : RelV y u) (rv : RelV v r) (h : ∀ s', Inv X pins σ H' s' → Q () s') :
  wpAny (model X.prog X.w) A (setItem (.ref a) u r) Q E s := by
 rcases g with ⟨kvs, k, e, ey, l, eH⟩ | ⟨kvs, k, b, e, ey, eb, l, eH⟩
 ·subst ey eH
  obtain ⟨z, hd, vs, rel, dd⟩ := dk_of I.hok e
  have hz : vs.length ≤ sizeLine := by rw [← rel.length]; exact z
  have hl : (putK kvs k v).length ≤ sizeLine := by have := length_putK kvs k v; omega
  refine wpAny_setItem_pairs (hsz := hz) (kV_is ry) dd fun h' dd' hs => h _ ?_
  have he : ∃ q, h'.get? a = some q := let ⟨q, _, _, hq, _⟩ := dd'; ⟨q, hq⟩
  exact d_write I (by rw [e]; exact True.intro) hs he (dk_new hl hd (rel.put k rv) dd')
 ·subst ey eH
  cases (show u = Value.ref b from ry)
  obtain ⟨z, hd, xs, rel, dd⟩ := dt_of I.hok e
  have hz : xs.length ≤ sizeLine := by rw [← Paired.length rel]; exact z
  have hl : (putK kvs k v).length ≤ sizeLine := by have := length_putK kvs k v; omega
  refine wpAny_setItem_heap (hsz := hz) (tupleKind_room_in1 hu) (key_of I.hok eb) dd fun h' dd' hs => h _ ?_
  obtain ⟨q, es, ep, hq, h2, h3, h4, _, h5⟩ := dd'
  refine d_write I (by rw [e]; exact True.intro) hs ⟨q, hq⟩ ⟨hl, hd, _, (rel.put k eb rv).keeps fun c ys ec => ?_, q, es, ep, hq, h2, h3, h4, h5⟩
  rw [upd_ne (ne_of ec e (fun z => nomatch z))]
  exact ec
end
section
variable {X : Cx} {pins : List (Addr × Obj)} {σ : St} {H : Hp} {s : Shared} {a : Addr} {kvs : List (Key × V)} {k : Key} {u : Value} {A : Around} {E : Value → Shared → Prop}
end
def NoSl (i : Expr) : Prop := ∀ ov iv, subscripted i false ov iv = operate [ov, iv] (getItem ov iv)
theorem subD_of {prog : Program} {w : World} {A : Around} {E : Value → Shared → Prop} {s : Shared} {env : Env} {value slice : Expr} {pos : Pos} {T id : String} {Q : Value → Shared → Prop}
  (hl : typeLookup (.type T) "__getitem__" = pure (some (.builtin id))) (hs : NoSl slice)
  (h : wpAny (model prog w) A (eval value env) (fun o s₁ => wpAny (model prog w) A (eval slice env) (fun i s₂ => s₂.TypeIs o T ∧ wpAny (model prog w) A (getItem o i) Q E s₂) E s₁) E s) :
  wpAny (model prog w) A (eval (.Subscript value slice pos) env) Q E s := by
 refine Subscript_ (wpAny_mono h (fun o s₁ h₁ => wpAny_mono h₁ (fun i s₂ h₂ => ?_) fun _ _ x => x) fun _ _ x => x)
 obtain ⟨hT, h₂⟩ := h₂
 unfold subscriptTail
 refine wpAny_bind ?_
 rw [getitemInPython_of_ne hT.not_modules]
 refine wpAny_bind (wpAny_specialOf hT hl ?_)
 have fin : wpAny (model prog w) A (subscripted slice false o i) (fun r s₃ => wpAny (model prog w) A (letTemporaryGo value o r >>= fun _ => pure r) Q E s₃) E s₂ := by
  rw [hs o i]
  exact wpAny_operating (wpAny_mono h₂ (fun r s₃ h₃ => wpAny_bind (wpAny_letTemporaryGo (wpAny_pure h₃))) fun _ _ x => x)
 first
  | exact wpAny_pure (wpAny_bind fin)
  | exact wpAny_bind (wpAny_pure (wpAny_bind fin))
  | exact wpAny_bind fin
theorem dict_typeIs {X : Cx} {pins : List (Addr × Obj)} {σ : St} {H : Hp} {s : Shared} {a : Addr} {y : V} {o : Option V} (I : Inv X pins σ H s) (g : DGet H a y o) : s.TypeIs (.ref a) "dict" := by
 rcases g with ⟨kvs, k, e, _, _⟩ | ⟨kvs, k, b, e, _, _, _⟩
 ·obtain ⟨_, _, vs, _, dd⟩ := dk_rd I.hok e
  exact dd.typeIs
 ·obtain ⟨_, _, xs, _, dd⟩ := dt_rd I.hok e
  exact dd.typeIs
def tDGet (td ty : TE) : TE := fun σ H Q => td σ H fun x H1 => ty σ H1 fun y H2 => ∃ a v, x = .ref a ∧ DGet H2 a y (some v) ∧ Q v H2
def tDIn (ty td : TE) : TE := fun σ H Q => ty σ H fun y H1 => td σ H1 fun x H2 => ∃ a o, x = .ref a ∧ DGet H2 a y o ∧ Q (.bl o.isSome) H2
def tDNotIn (ty td : TE) : TE := fun σ H Q => ty σ H fun y H1 => td σ H1 fun x H2 => ∃ a o, x = .ref a ∧ DGet H2 a y o ∧ Q (.bl (!o.isSome)) H2
def sDPut (td ty tv : TE) : TS := fun D σ H => tv σ H fun v H1 => td σ H1 fun x H2 => ty σ H2 fun y H3 => ∃ a H4, x = .ref a ∧ DPut H3 a y v H4 ∧ D.nx σ H4
section
variable {X : Cx} {o i e value : Expr} {pos pos' tpos : Pos} {td ty tv : TE}
theorem pe_dget (hu : X.A.units + 1 < cLine) (ho : PE X o td) (hi : PE X i ty) (hs : NoSl i) : PE X (.Subscript o i pos) (tDGet td ty) := by
 intro pins s σ H Q I h
 refine subD_of PySem.F.slot_dict_getitem.lookup hs (thn (ho pins s σ H _ I h) fun u s1 ⟨x, H1, I1, rx, q1⟩ => thn (hi pins s1 σ H1 _ I1 q1) fun iv s2 ⟨y, H2, I2, ry, a, v, ex, g, q2⟩ => ?_)
 subst ex
 obtain rfl : u = Value.ref a := rx
 exact ⟨dict_typeIs I2 g, d_getItem hu I2 g ry fun w' s3 I3 rw' => ⟨v, H2, I3, rw', q2⟩⟩
theorem pc_din (hu : X.A.units + 1 < cLine) (hi : PE X i ty) (ho : PE X o td) : PC X .In i o (tDIn ty td) := by
 intro pins s σ H Q I h
 refine thn (hi pins s σ H _ I h) fun iv s1 ⟨y, H1, I1, ry, q1⟩ => thn (ho pins s1 σ H1 _ I1 q1) fun u s2 ⟨x, H2, I2, rx, a, ov, ex, g, q2⟩ => ?_
 subst ex
 obtain rfl : u = Value.ref a := rx
 exact d_in hu I2 g ry fun s3 I3 => ⟨.bl ov.isSome, H2, I3, rfl, q2⟩
theorem pc_dnotin (hu : X.A.units + 1 < cLine) (hi : PE X i ty) (ho : PE X o td) : PC X .NotIn i o (tDNotIn ty td) := by
 intro pins s σ H Q I h
 refine thn (hi pins s σ H _ I h) fun iv s1 ⟨y, H1, I1, ry, q1⟩ => thn (ho pins s1 σ H1 _ I1 q1) fun u s2 ⟨x, H2, I2, rx, a, ov, ex, g, q2⟩ => ?_
 subst ex
 obtain rfl : u = Value.ref a := rx
 exact d_notIn hu I2 g ry fun s3 I3 => ⟨.bl (!ov.isSome), H2, I3, rfl, q2⟩
theorem ps_dput (hu : X.A.units + 1 < cLine) (ho : PE X o td) (hi : PE X i ty) (hv : PE X value tv) (hs : swapsWith value (some (.Subscript o i pos')) pos.line X.env = pure false) :
  PS X (.Assign [.Subscript o i pos'] value pos) (sDPut td ty tv) := by
 intro pins s σ H D I h
 refine wpAny_Assign_Subscript (thn (hv pins s σ H _ I h) fun r s1 ⟨v, H1, I1, rv, q1⟩ => thn (ho pins s1 σ H1 _ I1 q1) fun u s2 ⟨x, H2, I2, rx, q2⟩ => thn (hi pins s2 σ H2 _ I2 q2) fun iv s3 ⟨y, H3, I3, ry, a, H4, ex, g, q3⟩ => ?_) hs
 subst ex
 obtain rfl : u = Value.ref a := rx
 exact d_setItem hu I3 g ry rv fun s4 I4 => ⟨σ, H4, I4, q3⟩
end
theorem dk_empty {P : Program} {w : World} {H : Hp} (h : Heap) (hb : sysModules < h.objs.size) : ObjOk P w H (h.push { cls := .type "dict", data := .dict #[] }) h.objs.size (.dK []) :=
 ⟨Nat.zero_le _, beq_eq_false_iff_ne.mpr (Ne.symm (Nat.ne_of_lt hb)), [], .nil, Heap.DictOf.new h⟩
def tDNewK : TE := fun _ H Q => ∀ p, H p = none → Q (.ref p) (upd H p (.dK []))
def tDNewT : TE := fun _ H Q => ∀ p, H p = none → Q (.ref p) (upd H p (.dT []))
section
variable {X : Cx} {pos : Pos}
theorem pe_dnewK : PE X (.Dict [] [] pos) tDNewK := fun pins s σ H Q I h =>
 wpAny_Dict_empty ⟨.ref s.heap.objs.size, _, I.laid (a := s.heap.objs.size) (o := .dK []) (t' := s.toks) (fun _ _ q => Heap.get?_push_of_some _ q) (Nat.le_refl _) (dk_empty s.heap I.big), rfl, h _ (I.hok.fresh (Nat.le_refl _))⟩
end
def tPairs : List (TE × TE) → St → Hp → (List (V × V) → Hp → Prop) → Prop
 | [], _, H, Q => Q [] H
 | (tk, tv) :: r, σ, H, Q => tk σ H fun x H1 => tv σ H1 fun y H2 => tPairs r σ H2 fun ps H3 => Q ((x, y) :: ps) H3
abbrev VV : List (V × V) → List (Value × Value) → Prop := Paired fun p q => RelV p.1 q.1 ∧ RelV p.2 q.2
def PPs (X : Cx) (pos : Pos) (keys : List (Option Expr)) (values : List Expr) (trs : List (TE × TE)) : Prop :=
 ∀ (pins : List (Addr × Obj)) (s : Shared) (σ : St) (H : Hp) (Q : List (V × V) → Hp → Prop), Inv X pins σ H s → tPairs trs σ H Q →
  wpAny (model X.prog X.w) X.A (evalPairs (pairTrees keys values X.env pos)) (fun vs s' => ∃ ps H', Inv X pins σ H' s' ∧ VV ps vs ∧ Q ps H') X.xe s
theorem pps_nil {X : Cx} {pos : Pos} : PPs X pos [] [] [] := fun pins s σ H Q I h => pairTrees_nil_walk ⟨[], H, I, .nil, h⟩
theorem pps_cons {X : Cx} {pos : Pos} {k v : Expr} {ks : List (Option Expr)} {vs : List Expr} {tk tv : TE} {trs : List (TE × TE)} (hk : PE X k tk) (hv : PE X v tv) (hr : PPs X pos ks vs trs) :
  PPs X pos (some k :: ks) (v :: vs) ((tk, tv) :: trs) := fun pins s σ H Q I h =>
 pairTrees_cons_walk (thn (hk pins s σ H _ I h) fun u s1 ⟨x, H1, I1, rx, q1⟩ => thn (hv pins s1 σ H1 _ I1 q1) fun w2 s2 ⟨y, H2, I2, ry, q2⟩ =>
  thn (hr pins s2 σ H2 _ I2 q2) fun ws s3 ⟨ps, H3, I3, rel, q3⟩ => ⟨(x, y) :: ps, H3, I3, .cons ⟨rx, ry⟩ rel, q3⟩)
def mergeK (kvs more : List (Key × V)) : List (Key × V) := more.foldl (fun acc kv => putK acc kv.1 kv.2) kvs
theorem KV.merge : ∀ {more : List (Key × V)} {rs : List (Key × Value)} {kvs : List (Key × V)} {vs : List (Key × Value)}, KV more rs → KV kvs vs → KV (mergeK kvs more) (merged vs rs) := by
 intro more rs kvs vs r
 unfold KV at r
 induction r generalizing kvs vs with
 | nil => intro q; exact q
 | @cons p q ps qs h t ih =>
  intro r0
  have e : KV (putK kvs p.1 p.2) (stored vs q.1 q.2) := by
   have := r0.put p.1 h.2
   rw [← h.1]; exact this
  exact ih e
theorem length_mergeK : ∀ (more kvs : List (Key × V)), (mergeK kvs more).length ≤ kvs.length + more.length
 | [], kvs => by show kvs.length ≤ kvs.length + 0; omega
 | p :: r, kvs => by
  have h1 := length_mergeK r (putK kvs p.1 p.2)
  have h2 := length_putK kvs p.1 p.2
  show (mergeK (putK kvs p.1 p.2) r).length ≤ _
  rw [List.length_cons]; omega
theorem carries_of {P : Program} {w : World} : ∀ {kvs : List (Key × V)} {ws : List (Value × Value)}, VV (kvs.map fun kv => (kV kv.1, kv.2)) ws → ∃ rs, Carries (mixKind P w) ws rs ∧ KV kvs rs
 | [], _, r => by rw [List.map_nil] at r; cases r; exact ⟨[], True.intro, .nil⟩
 | p :: kvs, _, r => by
  rw [List.map_cons] at r
  cases r with
  | @cons a b as bs h t =>
   obtain ⟨rs, c, q⟩ := carries_of (P := P) (w := w) t
   obtain ⟨b1, b2⟩ := b
   exact ⟨(p.1, b2) :: rs, ⟨kV_is h.1, rfl, c⟩, .cons ⟨rfl, h.2⟩ q⟩
def tDisp (trs : List (TE × TE)) : TE := fun σ H Q => ∀ p, H p = none → tPairs trs σ (upd H p (.dK [])) fun ps H2 => H2 p = some (.dK []) ∧ ∃ kvs : List (Key × V), ps = kvs.map (fun kv => (kV kv.1, kv.2)) ∧ kvs.length ≤ 15 ∧ Q (.ref p) (upd H2 p (.dK (mergeK [] kvs)))
theorem pe_disp {X : Cx} {pos : Pos} {keys : List (Option Expr)} {values : List Expr} {trs : List (TE × TE)} (h : PPs X pos keys values trs) (hall : keys.all (·.isSome) = true) (hl : keys.length = values.length) (h0 : keys ≠ [])
  (h15 : keys.length ≤ 15) : PE X (.Dict keys values pos) (tDisp trs) := by
 intro pins s σ H Q I q
 have hn := I.hok.fresh (Nat.le_refl s.heap.objs.size)
 have I1 := I.laid (a := s.heap.objs.size) (o := .dK []) (h' := s.heap.push { cls := .type "dict", data := .dict #[] }) (t' := s.toks) (fun _ _ q => Heap.get?_push_of_some _ q) (Nat.le_refl _) (dk_empty s.heap I.big)
 refine wpAny_Dict_walk (knd := mixKind X.prog X.w) hall hl h0 h15 (thn (h pins _ σ _ _ I1 (q _ hn)) fun ws s2 ⟨ps, H2, I2, rel, e, kvs, ep, lk, q2⟩ => ?_)
 subst ep
 obtain ⟨rs, c, rk⟩ := carries_of (P := X.prog) (w := X.w) rel
 obtain ⟨z, hd, vs0, r0, dd⟩ := dk_of I2.hok e
 cases r0
 refine ⟨rs, c, dd, fun h' dd' hs => ⟨.ref s.heap.objs.size, _, ?_, rfl, q2⟩⟩
 have hz : (mergeK [] kvs).length ≤ sizeLine := by
  have h1 := length_mergeK kvs []
  rw [List.length_nil] at h1
  rw [sizeLine_eq]; omega
 have he : ∃ q, h'.get? s.heap.objs.size = some q := let ⟨q, _, _, hq, _⟩ := dd'; ⟨q, hq⟩
 exact d_write I2 (by rw [e]; exact True.intro) hs he (dk_new hz hd (rk.merge .nil) dd')
structure M1 (X : Cx) (o : Expr) (m : Str) (apos : Pos) (e : Expr) (cpos : Pos) : Prop where
 base : attributeBase o m X.env (eval o X.env) = eval o X.env
 few : ((backTo cpos (starEach [e] X.env)).all (fun x => !x.1) && (backToKw cpos (keywordEach [] X.env)).all (fun x => x.1.isSome)
  && decide (([e] : List Expr).length + ([] : List Keyword).length + (if ([] : List Keyword).isEmpty then 0 else 1) < 30)) = true
 line : (apos.endLine == cpos.line) = true
 trees : backTo cpos (starEach [e] X.env) = [(false, eval e X.env)]
structure M2 (X : Cx) (o : Expr) (m : Str) (apos : Pos) (e f : Expr) (cpos : Pos) : Prop where
 base : attributeBase o m X.env (eval o X.env) = eval o X.env
 few : ((backTo cpos (starEach [e, f] X.env)).all (fun x => !x.1) && (backToKw cpos (keywordEach [] X.env)).all (fun x => x.1.isSome)
  && decide (([e, f] : List Expr).length + ([] : List Keyword).length + (if ([] : List Keyword).isEmpty then 0 else 1) < 30)) = true
 line : (apos.endLine == cpos.line) = true
 trees : backTo cpos (starEach [e, f] X.env) = [(false, eval e X.env), (false, eval f X.env)]
def IsD (H : Hp) (a : Addr) : Prop := (∃ kvs, Rd H a (.dK kvs)) ∨ ∃ kvs, Rd H a (.dT kvs)
theorem isD_at {X : Cx} {pins : List (Addr × Obj)} {σ : St} {H : Hp} {s : Shared} {a : Addr} (I : Inv X pins σ H s) (d : IsD H a) :
  s.TypeIs (.ref a) "dict" ∧ (∀ b, Value.ref a = .ref b → ∃ ob, s.heap.get? b = some ob ∧ ob.dict = none) ∧ (a == sysModules) = false := by
 rcases d with ⟨kvs, e⟩ | ⟨kvs, e⟩
 ·obtain ⟨_, hd, vs, _, dd⟩ := dk_rd I.hok e
  refine ⟨dd.typeIs, fun b q => ?_, hd⟩
  cases q
  obtain ⟨ob, _, _, h1, h2, _⟩ := dd
  exact ⟨ob, h1, h2.2.1⟩
 ·obtain ⟨_, hd, xs, _, dd⟩ := dt_rd I.hok e
  refine ⟨dd.typeIs, fun b q => ?_, hd⟩
  cases q
  obtain ⟨ob, _, _, h1, h2, _⟩ := dd
  exact ⟨ob, h1, h2.2.1⟩
section
variable {X : Cx} {pins : List (Addr × Obj)} {σ : St} {H : Hp} {s : Shared} {a : Addr} {y d : V} {u r : Value} {o : Option V} {A : Around} {E : Value → Shared → Prop}
theorem d_get1 {Q : Value → Shared → Prop} (hu : A.units + 1 < cLine) (I : Inv X pins σ H s) (g : DGet H a y o) (ry : RelV y u) (h : ∀ w' s', Inv X pins σ H s' → RelV (o.getD .non) w' → Q w' s') :
  wpAny (model X.prog X.w) A (call (.builtin "dict.get") [.ref a, u]) Q E s := by
 rcases g with ⟨kvs, k, e, ey, l⟩ | ⟨kvs, k, b, e, ey, eb, l⟩
 ·subst ey
  obtain ⟨z, hd, vs, rel, dd⟩ := dk_rd I.hok e
  refine call_meetsIn PySem.F.slot_dict_get dd.typeIs PySem.F.entry_dict_get (PySem.F.args_dict_get_2 _ _) (meets_dict_get (mixKind X.prog X.w) a (kV_is ry) hd) ⟨_, dd.mapOf, h _ _ (I.tok _) ?_⟩
  rw [l]
  exact (rel.val k).getD rfl
 ·subst ey
  cases (show u = Value.ref b from ry)
  obtain ⟨z, hd, xs, rel, dd⟩ := dt_rd I.hok e
  refine call_meetsIn PySem.F.slot_dict_get dd.typeIs PySem.F.entry_dict_get (PySem.F.args_dict_get_2 _ _) (meetsH_dict_get (tupleKind (mixKind X.prog X.w)) a b hd) ⟨tupleKind_room_in1 hu, k, xs, key_of I.hok eb, dd, h _ _ (I.tok _) ?_⟩
  rw [l]
  exact (rel.val k).getD rfl
theorem d_get2 {Q : Value → Shared → Prop} (hu : A.units + 1 < cLine) (I : Inv X pins σ H s) (g : DGet H a y o) (ry : RelV y u) (rd : RelV d r) (h : ∀ w' s', Inv X pins σ H s' → RelV (o.getD d) w' → Q w' s') :
  wpAny (model X.prog X.w) A (call (.builtin "dict.get") [.ref a, u, r]) Q E s := by
 rcases g with ⟨kvs, k, e, ey, l⟩ | ⟨kvs, k, b, e, ey, eb, l⟩
 ·subst ey
  obtain ⟨z, hd, vs, rel, dd⟩ := dk_rd I.hok e
  refine call_meetsIn PySem.F.slot_dict_get dd.typeIs PySem.F.entry_dict_get (PySem.F.args_dict_get_3 _ _ _) (meets_dict_get_default (mixKind X.prog X.w) a (kV_is ry) hd r) ⟨_, dd.mapOf, h _ _ (I.tok _) ?_⟩
  rw [l]
  exact (rel.val k).getD rd
 ·subst ey
  cases (show u = Value.ref b from ry)
  obtain ⟨z, hd, xs, rel, dd⟩ := dt_rd I.hok e
  refine call_meetsIn PySem.F.slot_dict_get dd.typeIs PySem.F.entry_dict_get (PySem.F.args_dict_get_3 _ _ _) (meetsH_dict_get_default (tupleKind (mixKind X.prog X.w)) a b hd r) ⟨tupleKind_room_in1 hu, k, xs, key_of I.hok eb, dd, h _ _ (I.tok _) ?_⟩
  rw [l]
  exact (rel.val k).getD rd
end
def tDGet1 (td ty : TE) : TE := fun σ H Q => td σ H fun x H1 => ∃ a, x = .ref a ∧ IsD H1 a ∧ ty σ H1 fun y H2 => ∃ o, DGet H2 a y o ∧ Q (o.getD .non) H2
def tDGet2 (td ty tx : TE) : TE := fun σ H Q => td σ H fun x H1 => ∃ a, x = .ref a ∧ IsD H1 a ∧ ty σ H1 fun y H2 => tx σ H2 fun z H3 => ∃ o, DGet H3 a y o ∧ Q (o.getD z) H3
section
variable {X : Cx} {o e f : Expr} {apos cpos : Pos} {td ty tx : TE}
theorem pe_dget1 (hu : X.A.units + 1 < cLine) (ho : PE X o td) (he : PE X e ty) (m : M1 X o "get" apos e cpos) : PE X (.Call (.Attribute o "get" apos) [e] [] cpos) (tDGet1 td ty) := by
 intro pins s σ H Q I h
 refine wpAny_Call_method m.base m.few m.line PySem.F.plainAttrs_dict PySem.F.slot_dict_get PySem.F.type_dict_get (thn (ho pins s σ H _ I h) fun u s1 ⟨x, H1, I1, rx, a, ex, d, q1⟩ => ?_)
 subst ex
 obtain rfl : u = Value.ref a := rx
 obtain ⟨t1, t2, _⟩ := isD_at I1 d
 refine ⟨t1, t2, ?_⟩
 rw [m.trees]
 refine Calls.callWith_builtin rfl (Calls.evalArgs_plain (Calls.spliced_cons (thn (he pins s1 σ H1 _ I1 q1) fun iv s2 ⟨y, H2, I2, ry, ov, g, q2⟩ => Calls.spliced_nil ?_)))
 exact d_get1 hu I2 g ry fun w' s3 I3 rw' => ⟨_, H2, I3, rw', q2⟩
theorem pe_dget2 (hu : X.A.units + 1 < cLine) (ho : PE X o td) (he : PE X e ty) (hf : PE X f tx) (m : M2 X o "get" apos e f cpos) : PE X (.Call (.Attribute o "get" apos) [e, f] [] cpos) (tDGet2 td ty tx) := by
 intro pins s σ H Q I h
 refine wpAny_Call_method m.base m.few m.line PySem.F.plainAttrs_dict PySem.F.slot_dict_get PySem.F.type_dict_get (thn (ho pins s σ H _ I h) fun u s1 ⟨x, H1, I1, rx, a, ex, d, q1⟩ => ?_)
 subst ex
 obtain rfl : u = Value.ref a := rx
 obtain ⟨t1, t2, _⟩ := isD_at I1 d
 refine ⟨t1, t2, ?_⟩
 rw [m.trees]
 refine Calls.callWith_builtin rfl (Calls.evalArgs_plain (Calls.spliced_cons (thn (he pins s1 σ H1 _ I1 q1) fun iv s2 ⟨y, H2, I2, ry, q2⟩ =>
  Calls.spliced_cons (thn (hf pins s2 σ H2 _ I2 q2) fun fv s3 ⟨z, H3, I3, rz, ov, g, q3⟩ => Calls.spliced_nil ?_))))
 exact d_get2 hu I3 g ry rz fun w' s4 I4 rw' => ⟨_, H3, I4, rw', q3⟩
end
section
variable {X : Cx} {pins : List (Addr × Obj)} {σ : St} {H : Hp} {s : Shared} {a : Addr} {kvs : List (Key × V)} {A : Around} {E : Value → Shared → Prop}
end
section
variable {X : Cx} {pins : List (Addr × Obj)} {σ : St} {H : Hp} {s : Shared} {a : Addr} {y : V} {u : Value} {A : Around} {E : Value → Shared → Prop}
end
end L2
namespace L2
open PySem PySem.Spec PyProof.Rows
section
variable {κ : Type} [DecidableEq κ]
end
end L2
set_option Elab.async false
set_option linter.all false
set_option maxRecDepth 100000
set_option maxHeartbeats 4000000
namespace L2
open PySem PySem.Spec PyProof.Rows
theorem ObjOk.is_there {P : Program} {w : World} {H : Hp} {h : Heap} {a : Addr} {o : HO} (x : ObjOk P w H h a o) : ∃ ob, h.get? a = some ob := by
 cases o with
 | lst xs => obtain ⟨_, _, _, _, e⟩ := x; exact ⟨_, e⟩
 | tup xs => obtain ⟨_, _, _, p⟩ := x; obtain ⟨o, e, _⟩ := p; exact ⟨_, e⟩
 | dK kvs => obtain ⟨_, _, _, _, o, _, _, e, _⟩ := x; exact ⟨_, e⟩
 | dT kvs => obtain ⟨_, _, _, _, o, _, _, e, _⟩ := x; exact ⟨_, e⟩
 | set S n =>
  obtain ⟨o, _, _, _, e, _⟩ := x
  exact ⟨_, e⟩
 | ins C dx fs => obtain ⟨_, _, _, e, _⟩ := x; exact ⟨_, e⟩
 | own y => exact x
 | xd fs => obtain ⟨mA, n, _⟩ := x; obtain ⟨od, e, _⟩ := lookIn_ns n; exact ⟨_, e⟩
 | rng lo hi => obtain ⟨_, _, _, e⟩ := x; exact ⟨_, e⟩
 | frz ob u => exact ⟨_, x.1⟩
 | tbl ps => exact ⟨_, x⟩
 | met f y => exact ⟨_, x⟩
 | ext φ => exact x.2.1
theorem HOk.isnone {P : Program} {w : World} {H : Hp} {h : Heap} {a : Addr} (x : HOk P w H h) (e : h.get? a = none) : H a = none := by
 cases q : H a with
 | none => rfl
 | some u =>
  obtain ⟨ob, z⟩ := (x a u q).is_there
  rw [e] at z
  cases z
structure Fly (l : List Env) (H' : Hp) (h0 : Heap) (ea : Addr) (cls a0 : Value) (B h : Heap) : Prop where
 fly : Heap.FlyingW B l ea cls a0 h
 free : H' ea = none
 new : h0.get? ea = none
 kept : ∀ b o, h.get? b = some o → ((∃ o', h0.get? b = some o') ∨ ∃ u, H' b = some u) → b ∉ frs l → B.get? b = some o
def CX1 (P : Program) (w : World) : CXT := fun outer H s E e s' =>
 ∃ (ea : Addr) (cls a0 : Value) (B : Heap) (H' : Hp), e = .ref ea ∧ s'.os = s.os ∧ AllBare s'.gens ∧ Un (frs outer) [] H H' s.heap s'.heap ∧ HOk P w H' s'.heap ∧
  Fly outer H' s.heap ea cls a0 B s'.heap ∧ E cls none H'
section
variable {P : Program} {w : World} {l l' : List Env} {H H' : Hp} {h0 h h' B : Heap} {ea : Addr} {cls a0 : Value}
theorem Fly.next (u : Un (frs l) [] H H' h0 h) (hok : HOk P w H' h) (F : Fly l H' h0 ea cls a0 B h) (fr : ∀ b ∈ frs l, H' b = none) (k : B.StaysIn h') (sl : h.UpToSlots h') :
  HOk P w H' h' ∧ Un (frs l) [] H H' h0 h' ∧ ∀ b o, h.get? b = some o → ((∃ o', h0.get? b = some o') ∨ ∃ u, H' b = some u) → b ∉ frs l → h'.get? b = some o := by
 have keepB : ∀ b o, h.get? b = some o → ((∃ o', h0.get? b = some o') ∨ ∃ u, H' b = some u) → b ∉ frs l → h'.get? b = some o := fun b o q r n => k b o (F.kept b o q r n)
 have frame : ∀ b o, b ∈ frs l → h.get? b = some o → ∃ s2, h'.get? b = some { o with slots := s2 } := fun b o m q => by
  obtain ⟨_, o', q', nf⟩ := F.fly.2.2.1.mem m
  rw [q] at q'
  cases q'
  exact sl b o q nf
 refine ⟨fun a o e => ?_, ⟨fun b o q n nb _ => ?_, fun b o q n m _ => ?_, u.free, fun b o q nx => ?_, u.tups, u.frzs, u.tbls⟩, keepB⟩
 ·have tr : ∀ b u, H' b = some u → b ∉ frs l := fun b u q m => by
   rw [fr b m] at q
   cases q
  refine (hok a o e).stay (fun b v hb q => ?_) (fun _ r => r) (fun _ _ r => r)
  rcases hb with rfl | hb
  ·exact keepB _ _ q (.inr ⟨_, e⟩) (tr _ _ e)
  ·exact keepB _ _ q (.inr ⟨_, hb⟩) (tr _ _ hb)
 ·exact keepB b o (u.keep b o q n nb (by simp)) (.inl ⟨o, q⟩) nb
 ·obtain ⟨s1, e1⟩ := u.slot b o q n m (by simp)
  obtain ⟨s2, e2⟩ := frame b _ m e1
  exact ⟨s2, e2⟩
 ·obtain ⟨o', e1⟩ := u.there b o q (by simp)
  by_cases m : b ∈ frs l
  ·obtain ⟨s2, e2⟩ := frame b _ m e1
   exact ⟨_, e2⟩
  ·exact ⟨o', keepB b o' e1 (.inl ⟨o, q⟩) m⟩
end
section
variable {X : Cx} {pins : List (Addr × Obj)} {σ : St} {H H' : Hp} {s : Shared} {h h' B : Heap} {ea : Addr} {cls a0 : Value}
theorem Inv.out (I : Inv X pins σ H s) (hex : X.ex = []) (u : Un (frs X.stack) [] H H' s.heap h') : Un X.fs [] X.H₀ H' X.s₀.heap h' := by
 have J := I.base
 rw [hex] at J
 have nL : ∀ b o, X.s₀.heap.get? b = some o → b ≠ X.env.locals := fun b o q z => by
  have h1 := Heap.lt_size q
  have h2 := I.ok.above
  rw [z] at h1
  exact absurd (Nat.lt_of_lt_of_le h1 h2) (Nat.lt_irrefl _)
 have nS : ∀ b o, X.s₀.heap.get? b = some o → b ∉ X.fs → b ∉ frs X.stack := fun b o q nb m => by
  rcases List.mem_cons.mp (I.stkSub b m) with z | z
  ·exact nL b o q z
  ·exact nb z
 refine ⟨fun b o q n nb _ => ?_, fun b o q n m _ => ?_, fun b o q n _ => ?_, fun b o q _ => ?_, fun b xs q => u.tups b xs (J.tups b xs q), fun b o v q => u.frzs b o v (J.frzs b o v q), fun b ps q => ?_⟩
 ·exact u.keep b o (J.keep b o q n nb (by simp)) (J.free b o q n (by simp)) (nS b o q nb) (by simp)
 ·obtain ⟨s1, e1⟩ := J.slot b o q n m (by simp)
  obtain ⟨s2, e2⟩ := u.any e1 (J.free b o q n (by simp)) (by simp)
  exact ⟨s2, e2⟩
 ·obtain ⟨o', e1⟩ := J.there b o q (by simp)
  exact u.free b o' e1 (J.free b o q n (by simp)) (by simp)
 ·obtain ⟨o', e1⟩ := J.there b o q (by simp)
  exact u.there b o' e1 (by simp)
 ·obtain ⟨m1, e1⟩ := J.tbls b ps q
  obtain ⟨m2, e2⟩ := u.tbls b _ e1
  exact ⟨m1 ++ m2, by rw [e2, Array.append_assoc]⟩
theorem Inv.stkFree' (I : Inv X pins σ H s) (u : Un (frs X.stack) [] H H' s.heap h) : ∀ b ∈ frs X.stack, H' b = none := fun b m => by
 obtain ⟨_, o, q, _⟩ := I.stack.mem m
 exact u.free b o q (I.stkFree b m) (by simp)
end
section
variable {P : Program} {w : World} {K : PySem.W.Frag} {mg : Str → Option Value} {base : Heap} {N : List Str} {qual : Str} {scope : Scope} {f : Addr} {cdv : Value} {A : Around} {outer : List Env} {s0 : Shared} {H0 : Hp} {E : XK}
theorem pass1 : Passes (CX1 P w) (cxOf (CX1 P w) P w K mg base N qual scope f cdv A outer s0 H0 E) E := by
 intro pins σ H s e s' I hx
 obtain ⟨ea, cls, a0, B, H', rfl, hos, hg, u, hok, F, he⟩ := hx
 have fr := I.stkFree' u
 show wpAny (model P w) (A.deeper (envOfC qual scope s0.heap.objs.size f cdv)) (leaving (envOfC qual scope s0.heap.objs.size f cdv) (.ref ea)) (fun _ s'' => CX1 P w outer H0 s0 E (.ref ea) s'') (fun e' s'' => CX1 P w outer H0 s0 E e' s'') s'
 refine wpAny_leaves_onW (base := B) (cls := cls) (a0 := a0) I.ok.frames rfl F.fly fun h' hfl hup => ?_
 obtain ⟨hok', u', kB⟩ := F.next u hok fr hfl.1 hup
 have new0 : s0.heap.get? ea = none := by
  cases q : s0.heap.get? ea with
  | none => rfl
  | some o =>
   obtain ⟨o', e1⟩ := I.base.there ea o q (by intro z; cases z)
   have := F.new
   rw [e1] at this
   cases this
 refine ⟨ea, cls, a0, B, H', rfl, hos.trans I.os, hg, I.out rfl u', hok', ⟨hfl, F.free, new0, fun b o q r nb => ?_⟩, he⟩
 have nL : b ≠ s0.heap.objs.size := fun z => by
  rcases r with ⟨o', q'⟩ | ⟨v, q'⟩
  ·have := Heap.lt_size q'
   rw [z] at this
   exact absurd this (Nat.lt_irrefl _)
  ·have e0 := fr s0.heap.objs.size (by
    show s0.heap.objs.size ∈ frs (envOfC qual scope s0.heap.objs.size f cdv :: outer)
    exact List.mem_filterMap.mpr ⟨_, List.mem_cons_self .., rfl⟩)
   rw [z, e0] at q'
   cases q'
 have nS : b ∉ frs (envOfC qual scope s0.heap.objs.size f cdv :: outer) := fun m => by
  rcases List.mem_cons.mp (I.stkSub b m) with z | z
  ·exact nL z
  ·exact nb z
 have r' : (∃ o', s.heap.get? b = some o') ∨ ∃ v, H' b = some v := by
  rcases r with ⟨o', q'⟩ | r
  ·exact .inl (I.base.there b o' q' (by intro z; cases z))
  ·exact .inr r
 have there' : ∃ o', s'.heap.get? b = some o' := by
  rcases r' with ⟨o', q'⟩ | ⟨v, q'⟩
  ·exact u.there b o' q' (by simp)
  ·exact (hok b v q').is_there
 obtain ⟨o', q'⟩ := there'
 have z := F.kept b o' q' r' nS
 have z2 := hfl.1 b o' z
 rw [show h'.get? b = some o from q] at z2
 cases z2
 exact z
end
theorem passF {P : Program} {w : World} {X : Cx} : Passes (CX1 P w) X E0 := fun _ _ _ _ _ _ _ h => by
 obtain ⟨_, _, _, _, _, _, _, _, _, _, _, z⟩ := h
 exact False.elim z
theorem exc_obj {K : PySem.W.Frag} {h : Heap} {C : Addr} {bmB : List Value} {newId : String} (X : K.In h) (q : PySem.W.excIn K C bmB newId = true) :
  ∃ (bm : List Value) (N : Addr) (nm qn : Str) (bs : List Value) (hdct : Bool) (sn : List Str) (sub : List Value) (ab : Bool) (col : Option Bool) (dd : Option Addr) (k0 k1 k2 k3 k5 : Option Value) (mN : Str → Option Value),
   h.get? C = some (excClassObj nm qn C N bs bm hdct sn sub ab col dd k0 k1 k2 k3 k5 newId) ∧ h.Ns N mN ∧ mN "__init__" = none ∧ OwnTail h bmB bm := by
 unfold PySem.W.excIn at q
 split at q
 next dd cd sl ho =>
  split at q
  next C' bm k0 k1 k2 k3 n k5 hm hs =>
   have q' : ((((C' = C ∧ n = newId) ∧ cd.hasDel = false) ∧ PySem.W.tailIn K bmB bm = true) ∧ PySem.W.nsOkIn K cd.ns = true) ∧ PySem.W.nsIn K cd.ns "__init__" = some none := by simpa using q
   obtain ⟨⟨⟨⟨⟨e1, e2⟩, e3⟩, e4⟩, e5⟩, e6⟩ := q'
   obtain ⟨nm, bs, mro, ns, qn, hd, sn, sub, ab, col, del⟩ := cd
   have hl : sl = #[k0, k1, k2, k3, some (.builtin n), k5] := by
    cases sl
    exact congrArg Array.mk hs
   subst e1
   subst e2
   subst hl
   have hm' : mro = .ref C' :: bm := hm
   subst hm'
   have hd' : del = false := e3
   subst hd'
   exact ⟨bm, ns, nm, qn, bs, hd, sn, sub, ab, col, dd, k0, k1, k2, k3, k5, _, X _ _ ho, .of_isNs (PySem.W.isNs_of_in X e5), PySem.W.nsMap_none_of_in X e5 e6, PySem.W.tail_of_in X e4⟩
  next => cases q
 next => cases q
section
variable {P : Program} {w : World} {K : PySem.W.Frag} {mg : Str → Option Value} {base : Heap} {N : List Str} {qual : Str} {scope : Scope} {f : Addr} {cdv : Value} {A : Around} {outer : List Env} {s0 : Shared} {H0 : Hp} {E : XK}
theorem leave1 {pins : List (Addr × Obj)} {σ : St} {H : Hp} {s : Shared} {h' : Heap} {e : Addr} {cls : Value} {us : List Value}
  (I : Inv (cxOf (CX1 P w) P w K mg base N qual scope f cdv A outer s0 H0 E) pins σ H s) (hm : Heap.MadeExcOf s.heap h' e cls us) (q : E cls none H) :
  (cxOf (CX1 P w) P w K mg base N qual scope f cdv A outer s0 H0 E).xe (.ref e) { s with heap := h' } := by
 show wpAny (model P w) (A.deeper (envOfC qual scope s0.heap.objs.size f cdv)) (leaving (envOfC qual scope s0.heap.objs.size f cdv) (.ref e)) (fun _ s'' => CX1 P w outer H0 s0 E (.ref e) s'') (fun e' s'' => CX1 P w outer H0 s0 E e' s'') { s with heap := h' }
 have fr := I.stkFree
 have hin : ∀ env ∈ (envOfC qual scope s0.heap.objs.size f cdv :: outer), ∀ b, env.frame = some b → b ∈ frs (envOfC qual scope s0.heap.objs.size f cdv :: outer) := fun env he b hb => List.mem_filterMap.mpr ⟨env, he, hb⟩
 refine wpAny_leaves_madeW (base := PySem.W.hideAll s.heap (frs (envOfC qual scope s0.heap.objs.size f cdv :: outer))) (h := s.heap) (cls := cls) (args := us) I.ok.frames rfl (fun b o z => PySem.W.of_hideAll _ z) (PySem.W.funFrames_hide I.stack hin) hm fun h2 t hfl _ _ hup => ?_
 have enone : H e = none := I.hok.isnone hm.new
 have keepB : ∀ b o, s.heap.get? b = some o → b ∉ frs (envOfC qual scope s0.heap.objs.size f cdv :: outer) → h2.get? b = some o := fun b o z n => hfl.1 b o (PySem.W.hideAll_get _ z n)
 have u : Un (frs (envOfC qual scope s0.heap.objs.size f cdv :: outer)) [] H H s.heap h2 := by
  refine ⟨fun b o z _ n _ => keepB b o z n, fun b o z _ m _ => ?_, fun _ _ _ n _ => n, fun b o z _ => ?_, fun _ _ z => z, fun _ _ _ z => z, fun _ ps z => ⟨#[], by rw [z]; simp⟩⟩
  ·obtain ⟨_, o', z', nf⟩ := I.stack.mem m
   rw [z] at z'
   cases z'
   exact hup b o (hm.keeps b o z) nf
  ·by_cases m : b ∈ frs (envOfC qual scope s0.heap.objs.size f cdv :: outer)
   ·obtain ⟨_, o', z', nf⟩ := I.stack.mem m
    rw [z] at z'
    cases z'
    obtain ⟨s2, e2⟩ := hup b o (hm.keeps b o z) nf
    exact ⟨_, e2⟩
   ·exact ⟨o, keepB b o z m⟩
 have tr : ∀ b v, H b = some v → b ∉ frs (envOfC qual scope s0.heap.objs.size f cdv :: outer) := fun b v z m => by
  rw [fr b m] at z
  cases z
 have hok : HOk P w H h2 := fun a o z => by
  refine (I.hok a o z).stay (fun b v hb z2 => ?_) (fun _ r => r) (fun _ _ r => r)
  rcases hb with rfl | hb
  ·exact keepB _ _ z2 (tr _ _ z)
  ·exact keepB _ _ z2 (tr _ _ hb)
 have new0 : s0.heap.get? e = none := by
  cases z : s0.heap.get? e with
  | none => rfl
  | some o =>
   obtain ⟨o', e1⟩ := I.base.there e o z (by intro z; cases z)
   have := hm.new
   rw [e1] at this
   cases this
 refine ⟨e, cls, .ref t, _, H, rfl, I.os, I.bare, I.out rfl u, hok, ⟨hfl, enone, new0, fun b o z r nb => ?_⟩, q⟩
 have r' : ∃ o', s.heap.get? b = some o' := by
  rcases r with ⟨o', z'⟩ | ⟨v, z'⟩
  ·exact I.base.there b o' z' (by intro z; cases z)
  ·exact (I.hok b v z').is_there
 have nS : b ∉ frs (envOfC qual scope s0.heap.objs.size f cdv :: outer) := fun m => by
  rcases List.mem_cons.mp (I.stkSub b m) with y | y
  ·rcases r with ⟨o', z'⟩ | ⟨v, z'⟩
   ·have h1 := Heap.lt_size z'
    rw [y] at h1
    exact absurd h1 (Nat.lt_irrefl _)
   ·exact tr b v z' m
  ·exact nb y
 obtain ⟨o', z'⟩ := r'
 have z2 := keepB b o' z' nS
 rw [show h2.get? b = some o from z] at z2
 cases z2
 exact PySem.W.hideAll_get _ z' nS
def tRaise (E : XK) (C : Addr) (ta : TA) : TS := fun _ σ H => ta σ H fun vs H1 => vs.length ≤ sizeLine ∧ E (.ref C) none H1
theorem ps_raise {x : Str} {np cpos pos : Pos} {e : Expr} {es : List Expr} {C : Addr} {B newId initId : String} {bmB : List Value} {ta : TA} (FB : ExcBaseFacts B newId initId bmB) (hx : PySem.W.excIn K C bmB newId = true)
  (hg : Gl (cxOf (CX1 P w) P w K mg base N qual scope f cdv A outer s0 H0 E) x) (hm : mg x = some (.ref C)) (ha : PA (cxOf (CX1 P w) P w K mg base N qual scope f cdv A outer s0 H0 E) (e :: es) ta)
  (he : starEach (e :: es) (envOfC qual scope s0.heap.objs.size f cdv) = (false, eval e (envOfC qual scope s0.heap.objs.size f cdv)) :: starEach es (envOfC qual scope s0.heap.objs.size f cdv) := by rfl)
  (hpl : (backTo cpos (starEach es (envOfC qual scope s0.heap.objs.size f cdv))).any (·.1) = false := by rfl) (hdb : (x == ("__debug__" : Str)) = false := by decide) :
  PS (cxOf (CX1 P w) P w K mg base N qual scope f cdv A outer s0 H0 E) (.Raise (some (.Call (.Name x np) (e :: es) [] cpos)) none pos) (tRaise E C ta) := by
 intro pins s σ H D I h
 obtain ⟨bm, N', nm, qn, bs, hdct, sn, sub, ab, col, dd, k0, k1, k2, k3, k5, mN, hC, hN, hni, T⟩ := exc_obj I.mod.kin hx
 have hh : (A.deeper (envOfC qual scope s0.heap.objs.size f cdv)).handled = none := I.ok.hd rfl
 refine wpAny_Raise_call_subT (C := C) (nm := nm) (q := qn) (N := N') (bs := bs) (bm := bm) (hdct := hdct) (sn := sn) (sub := sub) (ab := ab) (col := col) (dd := dd) (k0 := k0) (k1 := k1) (k2 := k2) (k3 := k3) (k5 := k5)
  FB (mN := mN) (T.hasType FB.hasBase) hh ?_ hni (ld_glob I hg hm ⟨rfl, ?_⟩ hdb)
 ·show (backTo cpos (starEach (e :: es) (envOfC qual scope s0.heap.objs.size f cdv))).any (·.1) = false
  rw [he]
  show (false || (backTo cpos (starEach es (envOfC qual scope s0.heap.objs.size f cdv))).any (·.1)) = false
  rw [hpl]
  rfl
 ·have z := ha cpos pins s σ H _ I h
  show wpAny _ _ (evalArgs (.ref C) true (backTo cpos (starEach (e :: es) (envOfC qual scope s0.heap.objs.size f cdv))) []) _ _ _
  have he' := he
  rw [he]
  refine Calls.evalArgs_plain ?_
  have z' : wpAny (model P w) (A.deeper (envOfC qual scope s0.heap.objs.size f cdv)) (spliced (backTo cpos (starEach (e :: es) (envOfC qual scope s0.heap.objs.size f cdv)))) _ _ s := z
  rw [he] at z'
  refine thn z' fun us s2 ⟨vs, H1, I1, r, hl, q⟩ => ?_
  exact ⟨rfl, by rw [← r.length]; exact hl, I1.bk _ _ hC, hN.keeps I1.bk, T.keeps I1.bk, fun h' e hm => leave1 I1 hm q⟩
end
end L2
set_option Elab.async false
set_option linter.all false
set_option maxRecDepth 100000
set_option maxHeartbeats 4000000
namespace L2
open PySem PySem.Spec PyProof.Rows
def PEx (X : Cx) (e : Expr) (t : St → Hp → VK → XK → Prop) : Prop :=
 ∀ (pins : List (Addr × Obj)) (s : Shared) (σ : St) (H : Hp) (Q : VK) (E : XK), Inv X pins σ H s → t σ H Q E →
  wpAny (model X.prog X.w) X.A (eval e X.env) (EP X pins σ Q) (fun ev s' => ∃ H1 s1, Inv X pins σ H1 s1 ∧ CX1 X.prog X.w X.stack H1 s1 E ev s') s
def xCall (sp : Sp) (dvs : List V) (t : TA) : St → Hp → VK → XK → Prop := fun σ H Q E => t σ H fun vs H1 => sp (vs ++ dvs) H1 Q E
section
variable {X : Cx} {k : Nat} {f C : Addr} {fd : FuncData} {ps : List Str} {sp : Sp} {dvs : List V} {ds : List Value} {E : XK} {x m : Str} {p pos apos : Pos} {e o : Expr} {es : List Expr} {ta : TE} {t : TA}
theorem run_fnx {pins : List (Addr × Obj)} {σ : St} {H : Hp} {s : Shared} {Q : VK} {us : List Value} {vs : List V} (F : FnOk X.prog X.w X.K X.mg X.base (CX1 X.prog X.w) k f fd ps sp) (hr : Room k X.A) (hb : Binds X.K fd ps ds) (hd : Vals dvs ds)
  (I : Inv X pins σ H s) (r : Vals vs us) (h : sp (vs ++ dvs) H Q E) : wpAny (model X.prog X.w) X.A (call (.ref f) us) (EP X pins σ Q) (fun ev s' => ∃ H1 s1, Inv X pins σ H1 s1 ∧ CX1 X.prog X.w X.stack H1 s1 E ev s') s := by
 have r2 : Vals (vs ++ dvs) (us ++ ds) := r.append hd
 have hl : (us ++ ds).length = ps.length := (r2.length.symm).trans (F.len _ _ _ _ h)
 have go := F.run X.A X.stack s H ⟨us, []⟩ (us ++ ds) (vs ++ dvs) Q E hr I.env0 (hb s us I.kIn hl) r2 h
 refine wpAny_call (codeAny_mono go fun res s' hq => ?_)
 match res, hq with
 | .error e, hq => exact ⟨H, s, I, hq⟩
 | .ok (.ret u), hq => exact I.after hq
 | .ok .next, hq => exact hq.elim
 | .ok .brk, hq => exact hq.elim
 | .ok .cont, hq => exact hq.elim
theorem pex_call (F : FnOk X.prog X.w X.K X.mg X.base (CX1 X.prog X.w) k f fd ps sp) (hr : Room k X.A) (hg : Gl X x) (hm : X.mg x = some (.ref f)) (hk : PySem.W.keepIn X.K (.ref f) = true) (hb : Binds X.K fd ps ds) (hd : Vals dvs ds)
  (ha : PA X.nox (e :: es) t) (hdb : (x == ("__debug__" : Str)) = false := by decide) (he : starEach (e :: es) X.env = (false, eval e X.env) :: starEach es X.env := by rfl) (hpl : (backTo pos (starEach es X.env)).any (·.1) = false := by rfl) :
  PEx X (.Call (.Name x p) (e :: es) [] pos) (xCall sp dvs t) := by
 intro pins s σ H Q E I h
 refine wpAny_Call_Name_kw (ld_glob I hg hm ?_ hdb)
 have z := ha pos pins s σ H _ (I.wish _) h
 refine PySem.W.callWith_K (h₀ := X.base) I.ok.mod.kin hk (wpAny_mono z (fun us s1 ⟨vs, H1, I1, r, q⟩ => ⟨I1.unwish.kIn, ?_⟩) fun _ _ y => y.elim) he hpl
 exact run_fnx F hr hb hd I1.unwish r q
end
section
variable {X : Cx} {pins : List (Addr × Obj)} {σ : St} {H H' : Hp} {s s' : Shared} {h' B : Heap} {ea : Addr} {cls a0 : Value}
theorem Inv.track {a : Addr} {o : HO} (I : Inv X pins σ H s) (hn : H a = none) (h1 : X.s₀.heap.get? a = none) (h2 : a ≠ X.env.locals) (h3 : ∀ x c, X.env.cells.lookup x = some c → c ≠ a) (h4 : ∀ p ∈ X.pn ++ pins, p.1 ≠ a)
  (ok : ObjOk X.prog X.w (upd H a o) s.heap a o) : Inv X pins σ (upd H a o) s := by
 have ne : ∀ b u, H b = some u → b ≠ a := fun b u q => ne_of_none q hn
 refine ⟨I.ok, I.os, I.bare, ⟨I.base.keep, I.base.slot, fun b ob q n hx => ?_, I.base.there, fun b xs q => ?_, fun b ob u q => ?_, fun b ps q => ?_⟩, I.loc, I.cell, ?_, fun x c e => ?_, fun p hp => ?_, fun b u q => ?_, I.len⟩
 ·have : b ≠ a := fun z => by rw [z, h1] at q; cases q
  rw [upd_ne this]
  exact I.base.free b ob q n hx
 ·have z := I.base.tups b xs q
  rw [upd_ne (ne _ _ z)]
  exact z
 ·have z := I.base.frzs b ob u q
  rw [upd_ne (ne _ _ z)]
  exact z
 ·obtain ⟨mo, z⟩ := I.base.tbls b ps q
  exact ⟨mo, by rw [upd_ne (ne _ _ z)]; exact z⟩
 ·rw [upd_ne (Ne.symm h2)]
  exact I.free
 ·rw [upd_ne (h3 x c e)]
  exact I.freeC x c e
 ·obtain ⟨e, n, r⟩ := I.pin p hp
  exact ⟨e, by rw [upd_ne (h4 p hp)]; exact n, r⟩
 ·by_cases hb : b = a
  ·subst hb
   rw [upd_same] at q
   cases q
   exact ok
  ·rw [upd_ne hb] at q
   exact (I.hok b u q).stay (fun _ _ _ z => z) (fun c z => by rw [upd_ne (ne _ _ z)]; exact z) (fun c xs z => by rw [upd_ne (ne _ _ z)]; exact z)
def ExcO (e C : Addr) : HO := .ext fun h => ∃ ox vs, h.get? e = some ox ∧ ox.cls = .ref C ∧ ox.data = .fields vs
theorem Inv.landed {C : Addr} {sF : Shared} (I : Inv X pins σ H s) (hex : X.ex = []) (u : Un (frs X.stack) [] H H' s.heap s'.heap) (hok : HOk X.prog X.w H' s'.heap) (F : Fly X.stack H' s.heap ea (.ref C) a0 B s'.heap) (hos : s'.os = s.os) (hg : AllBare s'.gens)
  (hfl : Heap.FlyingW B X.stack ea (.ref C) a0 h') (hup : s'.heap.UpToSlots h') (hs : sF = { s' with heap := h' }) : Inv X pins σ (upd H' ea (ExcO ea C)) sF := by
 subst hs
 obtain ⟨hok', u', _⟩ := F.next u hok (I.stkFree' u) hfl.1 hup
 have I2 : Inv X pins σ H' { s' with heap := h' } := I.call' (s' := { s' with heap := h' }) hos u' hok' hg (fun b z => absurd z (by simp))
 have there : ∀ b o, s.heap.get? b = some o → b ≠ ea := fun b o q z => by
  have := F.new
  rw [← z, q] at this
  cases this
 obtain ⟨m, hn, _⟩ := I.loc
 obtain ⟨oL, _, _, hoL, _⟩ := hn
 refine I2.track F.free ?_ (Ne.symm (there _ _ hoL)) (fun x c e z => ?_) (fun p hp z => ?_) ?_
 ·cases q : X.s₀.heap.get? ea with
  | none => rfl
  | some o =>
   obtain ⟨o', e1⟩ := I.base.there ea o q (by rw [hex]; simp)
   exact absurd rfl (there _ _ e1)
 ·obtain ⟨v, hc⟩ := I.cell x c e
  obtain ⟨oc, hoc, _⟩ := hc
  exact there _ _ hoc z
 ·obtain ⟨e, _⟩ := I.pin p hp
  exact there _ _ e z
 ·obtain ⟨oe, vs, he, hc, hd, _⟩ := hfl.first
  exact ⟨⟨oe, vs, he, hc, hd⟩, ⟨_, he⟩, fun h1 h2 ⟨ox, ws, e1, e2, e3⟩ k => ⟨ox, ws, k _ e1, e2, e3⟩⟩
abbrev Cx.inx (X : Cx) (e : Addr) : Cx := { X with A := X.A.mark (some (.ref e)), calm := false, xe := fun _ _ => False }
theorem Cx.Ok.inx {X : Cx} (ok : X.Ok) (e : Addr) : (X.inx e).Ok :=
 ⟨ok.mod, ok.kind, ok.glob, ok.blt, ok.above, ok.inj, ok.has, ok.cab, fun z => (by cases z), ok.frames, ok.stk, ok.exf, ok.bs, ok.bsz, ok.noex, ok.exfs, ok.funs, ok.frf⟩
theorem Inv.inx (I : Inv X pins σ H s) (e : Addr) : Inv (X.inx e) pins σ H s :=
 ⟨I.ok.inx e, I.os, I.bare, I.base, I.loc, I.cell, I.free, I.freeC, I.pin, I.hok, I.len⟩
theorem Inv.outx {e : Addr} (I : Inv (X.inx e) pins σ H s) (ok : X.Ok) : Inv X pins σ H s :=
 ⟨ok, I.os, I.bare, I.base, I.loc, I.cell, I.free, I.freeC, I.pin, I.hok, I.len⟩
theorem Inv.goes {i : Nat} {x : Str} {t' : Nat} {m m' : Str → Option Value} (I : Inv X pins σ H s) (hN : X.N.Nodup) (hi : X.N[i]? = some x) (hs : Heap.SameBut X.env.locals s.heap h')
  (hn : s.heap.Ns X.env.locals m) (hn' : h'.Ns X.env.locals m') (hm : ∀ y, y ≠ x → m' y = m y) : Inv X pins (σ.set i none) H { s with heap := h', toks := t' } := by
 obtain ⟨m0, hn0, hl⟩ := I.loc
 have em : m0 = m := (Heap.Ns.eq_nsMap hn0).trans (Heap.Ns.eq_nsMap hn).symm
 subst em
 have nL : ∀ b o, X.s₀.heap.get? b = some o → b ≠ X.env.locals := fun b o e => Nat.ne_of_lt (Nat.lt_of_lt_of_le (Heap.lt_size e) I.ok.above)
 refine ⟨I.ok, I.os, I.bare, ⟨fun b o e n hb hx => ?_, fun b o e n hb hx => ?_, I.base.free, fun b o e hx => ?_, I.base.tups, I.base.frzs, I.base.tbls⟩, ⟨m', hn', fun j y v e1 e2 e3 => ?_⟩, fun y c e => ?_, I.free, I.freeC, fun p hp => ?_, fun a o e => ?_, by rw [List.length_set]; exact I.len⟩
 ·exact (hs.2 b (nL b o e)).trans (I.base.keep b o e n hb hx)
 ·obtain ⟨sl, e1⟩ := I.base.slot b o e n hb hx
  exact ⟨sl, (hs.2 b (nL b o e)).trans e1⟩
 ·obtain ⟨o', e1⟩ := I.base.there b o e hx
  exact ⟨o', (hs.2 b (nL b o e)).trans e1⟩
 ·have hj : j ≠ i := fun z => by
   subst z
   by_cases hl : j < σ.length
   ·rw [List.getElem?_set_self hl] at e2; cases e2
   ·rw [List.getElem?_eq_none (by rw [List.length_set]; omega)] at e2; cases e2
  rw [List.getElem?_set_ne (Ne.symm hj)] at e2
  obtain ⟨u, r, q⟩ := hl j y v e1 e2 e3
  have hy : y ≠ x := fun z => hj (nodup_ix hN e1 (z ▸ hi))
  refine ⟨u, r, ?_⟩
  rcases q with ⟨k, e⟩ | ⟨k, c, e, z⟩
  ·exact .inl ⟨k, (hm y hy).trans e⟩
  ·exact .inr ⟨k, c, e, z.sameBut hs (I.cne y c e)⟩
 ·obtain ⟨v, z⟩ := I.cell y c e
  exact ⟨v, z.sameBut hs (I.cne y c e)⟩
 ·obtain ⟨e, n, ne, nf, d⟩ := I.pin p hp
  exact ⟨(hs.2 p.1 ne).trans e, n, ne, nf, d⟩
 ·refine (I.hok a o e).stay (fun c v hc q => (hs.2 c ?_).trans q) (fun _ q => q) fun _ _ q => q
  rintro rfl
  rcases hc with z | hc
  ·rw [← z] at e
   rw [I.free] at e
   cases e
  ·rw [I.free] at hc
   cases hc
end
structure Catches (K : PySem.W.Frag) (C D : Addr) : Prop where
 cl : PySem.W.hasDictIn K D = true
 ty : PySem.W.typeIn K (.ref D) = some (.type "type")
 ex : PySem.W.mroIn K D (.type "BaseException") = some true
 ab : PySem.W.mroIn K C (.ref D) = some true
theorem isType_of {K : PySem.W.Frag} {M : Model} {h : Heap} {D : Addr} (X : K.In h) (c : PySem.W.hasDictIn K D = true) : PySem.W.Looks M h (isType (.ref D)) true := by
 obtain ⟨cd, hc, _⟩ := PySem.W.any_some c
 unfold PySem.W.clsIn at hc
 split at hc
 next c' d' cd' sl' ho =>
  intro A' Q' E' s' k q
  unfold isType loadHead
  exact wpAny_bind (wpAny_loadPart (k _ _ (X _ _ ho)) (wpAny_pure q))
 next => cases hc
theorem excMatches_K {K : PySem.W.Frag} {M : Model} {A : Around} {E : Value → Shared → Prop} {s : Shared} {e C D : Addr} {oe : Obj} {Q : Bool → Shared → Prop} (X : K.In s.heap) (he : s.heap.get? e = some oe) (hc : oe.cls = .ref C) (c : Catches K C D) (h : Q true s) :
  wpAny M A (excMatches (.ref e) (.ref D)) Q E s := by
 obtain ⟨hp, g, d, t, os⟩ := s
 have L0 : PySem.W.Looks M hp (typeOf (.ref e)) (.ref C) := hc ▸ (PySem.W.Looks.ld he).andThen .now
 have L1 := PySem.W.looks_typeIn (M := M) X c.ty
 have L2 := PySem.W.looks_mroIn (M := M) X c.ex
 have L3 := PySem.W.looks_mroIn (M := M) X c.ab
 have L4 := isType_of (M := M) X c.cl
 have f := tc_notTuple
 unfold excMatches isInstance isExcClass
 repeat (first | lk | wp_step)
 exact h
section
variable {X : Cx} {ce : Expr} {epos pos hpos np : Pos} {x n : Str} {b0 : Stmt} {suite : List Stmt} {D : Addr} {t : St → Hp → VK → XK → Prop} {ts : TS}
def tTryAs (K : PySem.W.Frag) (D : Addr) (i : Nat) (t : St → Hp → VK → XK → Prop) (ts : TS) : TS := fun Dn σ H => t σ H (fun _ H1 => Dn.nx σ H1) fun cls _ H1 => ∃ C, cls = .ref C ∧ Catches K C D ∧
 ∀ ea, H1 ea = none → ts { nx := fun σ' H' => Dn.nx (σ'.set i none) H', rt := Dn.rt, bk := fun σ' H' => Dn.bk (σ'.set i none) H', ct := fun σ' H' => Dn.ct (σ'.set i none) H' } (σ.set i (some (.ref ea))) (upd H1 ea (ExcO ea C))
end
end L2
set_option Elab.async false
set_option linter.all false
set_option maxRecDepth 100000
set_option maxHeartbeats 4000000
namespace L2
open PySem PySem.Spec PyProof.Rows
inductive D where
 | non | bl (b : Bool) | int (i : Int) | str (x : Str) | tup (xs : List D) | lst (xs : List D)
mutual
def Rep (K : PySem.W.Frag) (H : Hp) : D → V → Prop
 | .non, v => v = .non
 | .bl b, v => v = .bl b
 | .int i, v => v = .int i
 | .str x, v => v = .str x
 | .tup ds, v => ∃ a xs, v = .ref a ∧ SqT K H a xs ∧ RepL K H ds xs
 | .lst ds, v => ∃ a xs, v = .ref a ∧ SqL K H a xs ∧ RepL K H ds xs
def RepL (K : PySem.W.Frag) (H : Hp) : List D → List V → Prop
 | [], vs => vs = []
 | d :: ds, vs => ∃ v r, vs = v :: r ∧ Rep K H d v ∧ RepL K H ds r
end
mutual
def eqD : D → D → Bool
 | .non, .non => true
 | .bl a, .bl b => a == b
 | .int a, .int b => a == b
 | .bl a, .int b => (if a then 1 else 0) == b
 | .int a, .bl b => a == (if b then 1 else 0)
 | .str a, .str b => a == b
 | .tup xs, .tup ys => eqL xs ys
 | .lst xs, .lst ys => eqL xs ys
 | _, _ => false
def eqL : List D → List D → Bool
 | [], [] => true
 | x :: xs, y :: ys => eqD x y && eqL xs ys
 | _, _ => false
end
mutual
def depD : D → Nat
 | .tup xs => depL xs + 1
 | .lst xs => depL xs + 1
 | _ => 0
def depL : List D → Nat
 | [] => 0
 | x :: xs => max (depD x) (depL xs)
end
theorem eqL_length : ∀ {xs ys : List D}, eqL xs ys = true → xs.length = ys.length
 | [], [], _ => rfl
 | [], _ :: _, h => by simp [eqL] at h
 | _ :: _, [], h => by simp [eqL] at h
 | x :: xs, y :: ys, h => by
  simp only [eqL, Bool.and_eq_true] at h
  simp only [List.length_cons, eqL_length h.2]
mutual
theorem eqD_refl : ∀ d : D, eqD d d = true
 | .non => by simp [eqD]
 | .bl b => by simp [eqD]
 | .int i => by simp [eqD]
 | .str x => by simp [eqD]
 | .tup xs => by simp only [eqD]; exact eqL_refl xs
 | .lst xs => by simp only [eqD]; exact eqL_refl xs
theorem eqL_refl : ∀ d : List D, eqL d d = true
 | [] => by simp [eqL]
 | x :: xs => by simp only [eqL, Bool.and_eq_true]; exact ⟨eqD_refl x, eqL_refl xs⟩
end
theorem RepL.length {K : PySem.W.Frag} {H : Hp} : ∀ {ds : List D} {vs : List V}, RepL K H ds vs → ds.length = vs.length
 | [], vs, h => by
  simp only [RepL] at h
  rw [h]; rfl
 | d :: ds, vs, h => by
  simp only [RepL] at h
  obtain ⟨v, r, rfl, _, h2⟩ := h
  simp only [List.length_cons, RepL.length h2]
theorem RepL.get {K : PySem.W.Frag} {H : Hp} : ∀ {ds : List D} {vs : List V} {i : Nat} {d : D}, RepL K H ds vs → ds[i]? = some d → ∃ v, vs[i]? = some v ∧ Rep K H d v
 | [], _, _, _, _, e => by simp at e
 | d :: ds, vs, i, d', h, e => by
  simp only [RepL] at h
  obtain ⟨v, r, rfl, h1, h2⟩ := h
  cases i with
  | zero => simp at e; subst e; exact ⟨v, rfl, h1⟩
  | succ i =>
   obtain ⟨v', e', h'⟩ := RepL.get h2 (by simpa using e)
   exact ⟨v', by simpa using e', h'⟩
theorem SqL.same {K : PySem.W.Frag} {H H' : Hp} {a : Addr} {xs : List V} (e : Same H H') (h : SqL K H a xs) : SqL K H' a xs := e.seq h
theorem SqT.same {K : PySem.W.Frag} {H H' : Hp} {a : Addr} {xs : List V} (e : Same H H') (h : SqT K H a xs) : SqT K H' a xs := by
 rcases h with (h | ⟨o, h⟩) | h
 ·exact .inl (.inl (e _ _ h))
 ·exact .inl (.inr ⟨o, e _ _ h⟩)
 ·exact .inr h
mutual
theorem Rep.same {K : PySem.W.Frag} {H H' : Hp} (e : Same H H') : ∀ {d : D} {v : V}, Rep K H d v → Rep K H' d v
 | .non, _, h => by simpa only [Rep] using h
 | .bl _, _, h => by simpa only [Rep] using h
 | .int _, _, h => by simpa only [Rep] using h
 | .str _, _, h => by simpa only [Rep] using h
 | .tup ds, _, h => by
  simp only [Rep] at h ⊢
  obtain ⟨a, xs, h1, h2, h3⟩ := h
  exact ⟨a, xs, h1, h2.same e, RepL.same e h3⟩
 | .lst ds, _, h => by
  simp only [Rep] at h ⊢
  obtain ⟨a, xs, h1, h2, h3⟩ := h
  exact ⟨a, xs, h1, h2.same e, RepL.same e h3⟩
theorem RepL.same {K : PySem.W.Frag} {H H' : Hp} (e : Same H H') : ∀ {d : List D} {v : List V}, RepL K H d v → RepL K H' d v
 | [], _, h => by simpa only [RepL] using h
 | x :: xs, _, h => by
  simp only [RepL] at h ⊢
  obtain ⟨v, r, h1, h2, h3⟩ := h
  exact ⟨v, r, h1, Rep.same e h2, RepL.same e h3⟩
end
section
variable {X : Cx} {pins : List (Addr × Obj)} {σ : St} {H : Hp} {s : Shared}
theorem Inv.list_tuple (I : Inv X pins σ H s) {a : Addr} {xs ys : List V} (h : SqL X.K H a xs) (h' : SqT X.K H a ys) : False := by
 obtain ⟨_, _, p, _⟩ := I.list h
 obtain ⟨_, _, q, _⟩ := I.tuple h'
 obtain ⟨o, _, e1, c1, _⟩ := p
 obtain ⟨o', e2, c2, _⟩ := q
 rw [e1] at e2
 cases e2
 rw [c1] at c2
 exact absurd c2 (by decide)
mutual
theorem Inv.rep_inj (I : Inv X pins σ H s) : ∀ {d e : D} {v : V}, Rep X.K H d v → Rep X.K H e v → d = e
 | .non, e, v, h, h' => by
  simp only [Rep] at h; subst h
  cases e <;> simp [Rep] at h' ⊢
 | .bl _, e, v, h, h' => by
  simp only [Rep] at h; subst h
  cases e <;> simp [Rep] at h' ⊢
  exact h'
 | .int _, e, v, h, h' => by
  simp only [Rep] at h; subst h
  cases e <;> simp [Rep] at h' ⊢
  exact h'
 | .str _, e, v, h, h' => by
  simp only [Rep] at h; subst h
  cases e <;> simp [Rep] at h' ⊢
  exact h'
 | .tup ds, e, v, h, h' => by
  simp only [Rep] at h
  obtain ⟨a, xs, rfl, h2, h3⟩ := h
  cases e with
  | tup es =>
   simp only [Rep] at h'
   obtain ⟨a', ys, q, g2, g3⟩ := h'
   cases q
   have := I.tuple_inj h2 g2
   subst this
   rw [Inv.repL_inj I h3 g3]
  | lst es =>
   simp only [Rep] at h'
   obtain ⟨a', ys, q, g2, g3⟩ := h'
   cases q
   exact (I.list_tuple g2 h2).elim
  | _ => simp [Rep] at h'
 | .lst ds, e, v, h, h' => by
  simp only [Rep] at h
  obtain ⟨a, xs, rfl, h2, h3⟩ := h
  cases e with
  | lst es =>
   simp only [Rep] at h'
   obtain ⟨a', ys, q, g2, g3⟩ := h'
   cases q
   have := I.list_inj h2 g2
   subst this
   rw [Inv.repL_inj I h3 g3]
  | tup es =>
   simp only [Rep] at h'
   obtain ⟨a', ys, q, g2, g3⟩ := h'
   cases q
   exact (I.list_tuple h2 g2).elim
  | _ => simp [Rep] at h'
theorem Inv.repL_inj (I : Inv X pins σ H s) : ∀ {d e : List D} {v : List V}, RepL X.K H d v → RepL X.K H e v → d = e
 | [], e, v, h, h' => by
  simp only [RepL] at h; subst h
  cases e <;> simp [RepL] at h' ⊢
 | x :: xs, e, v, h, h' => by
  simp only [RepL] at h
  obtain ⟨u, r, rfl, h1, h2⟩ := h
  cases e with
  | nil => simp [RepL] at h'
  | cons y ys =>
   simp only [RepL] at h'
   obtain ⟨u', r', q, g1, g2⟩ := h'
   cases q
   rw [Inv.rep_inj I h1 g1, Inv.repL_inj I h2 g2]
end
end
def zipAll {α β : Type} (f : α → β → Bool) : List α → List β → Bool
 | [], [] => true
 | x :: xs, y :: ys => f x y && zipAll f xs ys
 | _, _ => false
def atB {α β : Type} (f : α → β → Bool) (xs : List α) (ys : List β) (j : Nat) : Bool := match xs[j]?, ys[j]? with
 | some x, some y => f x y
 | _, _ => true
theorem zipAll_range {α β : Type} (f : α → β → Bool) : ∀ (xs : List α) (ys : List β),
  ((List.range (min xs.length ys.length)).all (atB f xs ys) && (xs.length == ys.length)) = zipAll f xs ys
 | [], [] => by simp [zipAll]
 | [], _ :: _ => by simp [zipAll]
 | _ :: _, [] => by simp [zipAll]
 | x :: xs, y :: ys => by
  have ih := zipAll_range f xs ys
  simp only [zipAll, List.length_cons]
  rw [← ih, Nat.succ_min_succ, List.range_succ_eq_map, List.all_cons, List.all_map]
  have e : ((List.range (min xs.length ys.length)).all (atB f (x :: xs) (y :: ys) ∘ Nat.succ)) = (List.range (min xs.length ys.length)).all (atB f xs ys) := by
   congr 1
  rw [e]
  have e0 : atB f (x :: xs) (y :: ys) 0 = f x y := by unfold atB; simp
  rw [e0, Bool.and_assoc]
  congr 2
  simp
theorem eqL_zip : ∀ xs ys : List D, eqL xs ys = zipAll eqD xs ys
 | [], [] => by simp [eqL, zipAll]
 | [], _ :: _ => by simp [eqL, zipAll]
 | _ :: _, [] => by simp [eqL, zipAll]
 | x :: xs, y :: ys => by simp only [eqL, zipAll, eqL_zip xs ys]
theorem depD_mem : ∀ {ds : List D} {d : D}, d ∈ ds → depD d ≤ depL ds
 | [], _, h => by simp at h
 | x :: xs, d, h => by
  simp only [depL]
  rcases List.mem_cons.mp h with rfl | h
  ·exact Nat.le_max_left ..
  ·exact Nat.le_trans (depD_mem h) (Nat.le_max_right ..)
def flatD : D → Bool
 | .tup _ => false
 | .lst _ => false
 | _ => true
def valD : D → V
 | .bl b => .bl b
 | .int i => .int i
 | .str x => .str x
 | _ => .non
theorem rep_flat {K : PySem.W.Frag} {H : Hp} {d : D} {v : V} (f : flatD d = true) (h : Rep K H d v) : v = valD d := by
 cases d <;> simp_all [flatD, Rep, valD]
theorem flat_val {d : D} (f : flatD d = true) : flatV (valD d) = true := by
 cases d <;> simp_all [flatD, valD, flatV]
theorem eqV_val {d e : D} (f : flatD d = true) (g : flatD e = true) : eqV (valD d) (valD e) = eqD d e := by
 cases d <;> cases e <;> simp_all [flatD, valD, eqV, eqD]
section
variable {X : Cx} {pins : List (Addr × Obj)} {σ : St} {H : Hp} {s : Shared}
theorem in1_units (A : Around) : A.in1.units = A.units + 1 := rfl
def EqP (X : Cx) (H : Hp) (s : Shared) (n : Nat) : Prop := ∀ (d e : D) (A : Around) (x y : V) (u v : Value), depD d ≤ n → Rep X.K H d x → Rep X.K H e y → RelV x u → RelV y v → A.units + n < cLine → SeqAt.EqAt A s u v (eqD d e)
theorem items_eq {n : Nat} (ih : EqP X H s n) {ds es : List D} {xs ys : List V} {its jts : List Value} (h3 : RepL X.K H ds xs) (g3 : RepL X.K H es ys) (vi : Vals xs its) (vj : Vals ys jts) (hds : depL ds ≤ n) {A : Around} (hA : A.units + n < cLine) :
  ∀ j (p1 : j < its.toArray.size) (p2 : j < jts.toArray.size), SeqAt.EqAt A s its.toArray[j] jts.toArray[j] (atB eqD ds es j) := by
 intro j p1 p2
 have l1 : its.length = ds.length := by rw [h3.length, vi.length]
 have l2 : jts.length = es.length := by rw [g3.length, vj.length]
 have q1 : j < ds.length := by rw [← l1]; simpa using p1
 have q2 : j < es.length := by rw [← l2]; simpa using p2
 obtain ⟨v1, e1, r1⟩ := h3.get (List.getElem?_eq_getElem q1)
 obtain ⟨v2, e2, r2⟩ := g3.get (List.getElem?_eq_getElem q2)
 obtain ⟨u1, f1, s1⟩ := vi.get e1
 obtain ⟨u2, f2, s2⟩ := vj.get e2
 have z1 : its.toArray[j] = u1 := by
  have := f1
  rw [List.getElem?_eq_getElem (by simpa using p1)] at this
  simpa using this
 have z2 : jts.toArray[j] = u2 := by
  have := f2
  rw [List.getElem?_eq_getElem (by simpa using p2)] at this
  simpa using this
 rw [z1, z2]
 have eb : atB eqD ds es j = eqD ds[j] es[j] := by
  unfold atB
  rw [List.getElem?_eq_getElem q1, List.getElem?_eq_getElem q2]
 rw [eb]
 exact ih _ _ _ _ _ _ _ (Nat.le_trans (depD_mem (List.getElem_mem q1)) hds) r1 r2 s1 s2 hA
theorem tup_eq (I : Inv X pins σ H s) {n : Nat} (ih : EqP X H s n) {ds es : List D} {a b : Addr} {xs ys : List V} (h2 : SqT X.K H a xs) (h3 : RepL X.K H ds xs) (g2 : SqT X.K H b ys) (g3 : RepL X.K H es ys) (hds : depL ds ≤ n) {A : Around} (hA : A.units + (n + 1) < cLine) :
  SeqAt.RcAt A s (.ref a) (.ref b) (eqD (.tup ds) (.tup es)) ∧ SeqAt.RcNeAt A s (.ref a) (.ref b) (!eqD (.tup ds) (.tup es)) := by
 obtain ⟨its, vi, ht, _⟩ := I.tuple h2
 obtain ⟨jts, vj, hu, _⟩ := I.tuple g2
 have l1 : its.length = ds.length := by rw [h3.length, vi.length]
 have l2 : jts.length = es.length := by rw [g3.length, vj.length]
 have it := items_eq ih h3 g3 vi vj hds (A := A.in1) (by rw [in1_units]; omega)
 have eb : eqD (.tup ds) (.tup es) = ((List.range (min its.toArray.size jts.toArray.size)).all (atB eqD ds es) && its.toArray.size == jts.toArray.size) := by
  simp only [eqD, eqL_zip]
  rw [← zipAll_range]
  simp only [List.size_toArray, l1, l2]
 rw [eb]
 exact ⟨SeqAt.RcAt.tuples ht hu (by omega) it, SeqAt.RcNeAt.tuples ht hu (by omega) it⟩
theorem lst_eq (I : Inv X pins σ H s) {n : Nat} (ih : EqP X H s n) {ds es : List D} {a b : Addr} {xs ys : List V} (h2 : SqL X.K H a xs) (h3 : RepL X.K H ds xs) (g2 : SqL X.K H b ys) (g3 : RepL X.K H es ys) (hds : depL ds ≤ n) {A : Around} (hA : A.units + (n + 1) < cLine) :
  SeqAt.RcAt A s (.ref a) (.ref b) (eqD (.lst ds) (.lst es)) ∧ SeqAt.RcNeAt A s (.ref a) (.ref b) (!eqD (.lst ds) (.lst es)) := by
 obtain ⟨its, vi, ht, _⟩ := I.list h2
 obtain ⟨jts, vj, hu, _⟩ := I.list g2
 have l1 : its.length = ds.length := by rw [h3.length, vi.length]
 have l2 : jts.length = es.length := by rw [g3.length, vj.length]
 have it := items_eq ih h3 g3 vi vj hds (A := A.in1) (by rw [in1_units]; omega)
 by_cases hl : ds.length = es.length
 ·have eb : eqD (.lst ds) (.lst es) = (List.range its.toArray.size).all (atB eqD ds es) := by
   simp only [eqD, eqL_zip]
   rw [← zipAll_range]
   simp [l1, hl]
  rw [eb]
  exact ⟨SeqAt.RcAt.lists ht.isList hu.isList (by simp [l1, l2, hl]) (by omega) it, SeqAt.RcNeAt.lists ht.isList hu.isList (by simp [l1, l2, hl]) (by omega) it⟩
 ·have eb : eqD (.lst ds) (.lst es) = false := by
   cases q : eqD (.lst ds) (.lst es) with
   | false => rfl
   | true => simp only [eqD] at q; exact absurd (eqL_length q) hl
  rw [eb]
  exact ⟨SeqAt.RcAt.lists_lengths ht.isList hu.isList (by simp [l1, l2, hl]) (by omega), SeqAt.RcNeAt.lists_lengths ht.isList hu.isList (by simp [l1, l2, hl]) (by omega)⟩
theorem rep_ref {K : PySem.W.Frag} {d : D} {x : V} (h : Rep K H d x) : (flatD d = true ∧ x = valD d) ∨ (∃ ds a xs, d = .tup ds ∧ x = .ref a ∧ SqT K H a xs ∧ RepL K H ds xs) ∨ ∃ ds a xs, d = .lst ds ∧ x = .ref a ∧ SqL K H a xs ∧ RepL K H ds xs := by
 cases d with
 | tup ds => simp only [Rep] at h; obtain ⟨a, xs, h1, h2, h3⟩ := h; exact .inr (.inl ⟨ds, a, xs, rfl, h1, h2, h3⟩)
 | lst ds => simp only [Rep] at h; obtain ⟨a, xs, h1, h2, h3⟩ := h; exact .inr (.inr ⟨ds, a, xs, rfl, h1, h2, h3⟩)
 | _ => exact .inl ⟨rfl, rep_flat rfl h⟩
theorem mixed_eq (I : Inv X pins σ H s) {d e : D} {x y : V} {u v : Value} (hd : Rep X.K H d x) (he : Rep X.K H e y) (ru : RelV x u) (rv : RelV y v) (m : flatD d = !flatD e) {A : Around} (hA : A.units < cLine) :
  eqD d e = false ∧ SeqAt.EqAt A s u v false ∧ SeqAt.RcAt A s u v false ∧ SeqAt.RcNeAt A s u v true := by
 rcases rep_ref hd with ⟨fd, rfl⟩ | ⟨ds, a, xs, rfl, rfl, h2, h3⟩ | ⟨ds, a, xs, rfl, rfl, h2, h3⟩
 ·rcases rep_ref he with ⟨fe, rfl⟩ | ⟨es, b, ys, rfl, rfl, g2, g3⟩ | ⟨es, b, ys, rfl, rfl, g2, g3⟩
  ·rw [fd, fe] at m; cases m
  ·obtain rfl : v = Value.ref b := rv
   obtain ⟨jts, vj, hu, _⟩ := I.tuple g2
   refine ⟨by cases d <;> simp [eqD, flatD] at fd ⊢, ?_⟩
   cases d <;> simp only [valD, RelV] at ru <;> first | (simp [flatD] at fd; done) | skip
   ·subst ru; exact ⟨SeqAt.EqAt.none_tuple hu hA, SeqAt.RcAt.none_tuple hu hA, SeqAt.RcNeAt.none_tuple hu hA⟩
   ·subst ru; exact ⟨SeqAt.EqAt.bool_tuple _ hu hA, SeqAt.RcAt.bool_tuple _ hu hA, SeqAt.RcNeAt.bool_tuple _ hu hA⟩
   ·obtain ⟨t, rfl⟩ := ru; exact ⟨SeqAt.EqAt.int_tuple _ _ hu hA, SeqAt.RcAt.int_tuple _ _ hu hA, SeqAt.RcNeAt.int_tuple _ _ hu hA⟩
   ·obtain ⟨t, rfl⟩ := ru; exact ⟨SeqAt.EqAt.str_tuple _ _ hu hA, SeqAt.RcAt.str_tuple _ _ hu hA, SeqAt.RcNeAt.str_tuple _ _ hu hA⟩
  ·obtain rfl : v = Value.ref b := rv
   obtain ⟨jts, vj, hu, _⟩ := I.list g2
   have hu := hu.isList
   refine ⟨by cases d <;> simp [eqD, flatD] at fd ⊢, ?_⟩
   cases d <;> simp only [valD, RelV] at ru <;> first | (simp [flatD] at fd; done) | skip
   ·subst ru; exact ⟨SeqAt.EqAt.none_list hu hA, SeqAt.RcAt.none_list hu hA, SeqAt.RcNeAt.none_list hu hA⟩
   ·subst ru; exact ⟨SeqAt.EqAt.bool_list _ hu hA, SeqAt.RcAt.bool_list _ hu hA, SeqAt.RcNeAt.bool_list _ hu hA⟩
   ·obtain ⟨t, rfl⟩ := ru; exact ⟨SeqAt.EqAt.int_list _ _ hu hA, SeqAt.RcAt.int_list _ _ hu hA, SeqAt.RcNeAt.int_list _ _ hu hA⟩
   ·obtain ⟨t, rfl⟩ := ru; exact ⟨SeqAt.EqAt.str_list _ _ hu hA, SeqAt.RcAt.str_list _ _ hu hA, SeqAt.RcNeAt.str_list _ _ hu hA⟩
 ·rcases rep_ref he with ⟨fe, rfl⟩ | ⟨es, b, ys, rfl, rfl, g2, g3⟩ | ⟨es, b, ys, rfl, rfl, g2, g3⟩
  ·obtain rfl : u = Value.ref a := ru
   obtain ⟨jts, vj, hu, _⟩ := I.tuple h2
   refine ⟨by cases e <;> simp [eqD, flatD] at fe ⊢, ?_⟩
   cases e <;> simp only [valD, RelV] at rv <;> first | (simp [flatD] at fe; done) | skip
   ·subst rv; exact ⟨SeqAt.EqAt.tuple_none hu hA, SeqAt.RcAt.tuple_none hu hA, SeqAt.RcNeAt.tuple_none hu hA⟩
   ·subst rv; exact ⟨SeqAt.EqAt.tuple_bool _ hu hA, SeqAt.RcAt.tuple_bool _ hu hA, SeqAt.RcNeAt.tuple_bool _ hu hA⟩
   ·obtain ⟨t, rfl⟩ := rv; exact ⟨SeqAt.EqAt.tuple_int _ _ hu hA, SeqAt.RcAt.tuple_int _ _ hu hA, SeqAt.RcNeAt.tuple_int _ _ hu hA⟩
   ·obtain ⟨t, rfl⟩ := rv; exact ⟨SeqAt.EqAt.tuple_str _ _ hu hA, SeqAt.RcAt.tuple_str _ _ hu hA, SeqAt.RcNeAt.tuple_str _ _ hu hA⟩
  ·simp [flatD] at m
  ·simp [flatD] at m
 ·rcases rep_ref he with ⟨fe, rfl⟩ | ⟨es, b, ys, rfl, rfl, g2, g3⟩ | ⟨es, b, ys, rfl, rfl, g2, g3⟩
  ·obtain rfl : u = Value.ref a := ru
   obtain ⟨jts, vj, hu, _⟩ := I.list h2
   have hu := hu.isList
   refine ⟨by cases e <;> simp [eqD, flatD] at fe ⊢, ?_⟩
   cases e <;> simp only [valD, RelV] at rv <;> first | (simp [flatD] at fe; done) | skip
   ·subst rv; exact ⟨SeqAt.EqAt.list_none hu hA, SeqAt.RcAt.list_none hu hA, SeqAt.RcNeAt.list_none hu hA⟩
   ·subst rv; exact ⟨SeqAt.EqAt.list_bool _ hu hA, SeqAt.RcAt.list_bool _ hu hA, SeqAt.RcNeAt.list_bool _ hu hA⟩
   ·obtain ⟨t, rfl⟩ := rv; exact ⟨SeqAt.EqAt.list_int _ _ hu hA, SeqAt.RcAt.list_int _ _ hu hA, SeqAt.RcNeAt.list_int _ _ hu hA⟩
   ·obtain ⟨t, rfl⟩ := rv; exact ⟨SeqAt.EqAt.list_str _ _ hu hA, SeqAt.RcAt.list_str _ _ hu hA, SeqAt.RcNeAt.list_str _ _ hu hA⟩
  ·simp [flatD] at m
  ·simp [flatD] at m
theorem seq_eq (I : Inv X pins σ H s) {n : Nat} (ih : EqP X H s n) {d e : D} {x y : V} {u v : Value} (hn : depD d ≤ n + 1) (hd : Rep X.K H d x) (he : Rep X.K H e y) (ru : RelV x u) (rv : RelV y v) (fd : flatD d = false) (fe : flatD e = false) {A : Around} (hA : A.units + (n + 1) < cLine) :
  SeqAt.EqAt A s u v (eqD d e) ∧ SeqAt.RcAt A s u v (eqD d e) ∧ SeqAt.RcNeAt A s u v (!eqD d e) := by
 have hd0 := hd
 have he0 := he
 rcases rep_ref hd with ⟨f, _⟩ | ⟨ds, a, xs, rfl, rfl, h2, h3⟩ | ⟨ds, a, xs, rfl, rfl, h2, h3⟩
 ·rw [f] at fd; cases fd
 ·obtain rfl : u = Value.ref a := ru
  have hds : depL ds ≤ n := by simp only [depD] at hn; omega
  rcases rep_ref he with ⟨f, _⟩ | ⟨es, b, ys, rfl, rfl, g2, g3⟩ | ⟨es, b, ys, rfl, rfl, g2, g3⟩
  ·rw [f] at fe; cases fe
  ·obtain rfl : v = Value.ref b := rv
   have R := tup_eq I ih h2 h3 g2 g3 hds hA
   refine ⟨?_, R.1, R.2⟩
   by_cases hab : a = b
   ·subst hab
    rw [I.rep_inj hd0 he0, eqD_refl]
    exact SeqAt.EqAt.same _
   ·exact SeqAt.EqAt.of_refs hab R.1
  ·obtain rfl : v = Value.ref b := rv
   obtain ⟨its, _, ht, _⟩ := I.tuple h2
   obtain ⟨jts, _, hu, _⟩ := I.list g2
   exact ⟨SeqAt.EqAt.tuple_list ht hu.isList (by omega), SeqAt.RcAt.tuple_list ht hu.isList (by omega), SeqAt.RcNeAt.tuple_list ht hu.isList (by omega)⟩
 ·obtain rfl : u = Value.ref a := ru
  have hds : depL ds ≤ n := by simp only [depD] at hn; omega
  rcases rep_ref he with ⟨f, _⟩ | ⟨es, b, ys, rfl, rfl, g2, g3⟩ | ⟨es, b, ys, rfl, rfl, g2, g3⟩
  ·rw [f] at fe; cases fe
  ·obtain rfl : v = Value.ref b := rv
   obtain ⟨its, _, ht, _⟩ := I.list h2
   obtain ⟨jts, _, hu, _⟩ := I.tuple g2
   exact ⟨SeqAt.EqAt.list_tuple ht.isList hu (by omega), SeqAt.RcAt.list_tuple ht.isList hu (by omega), SeqAt.RcNeAt.list_tuple ht.isList hu (by omega)⟩
  ·obtain rfl : v = Value.ref b := rv
   have R := lst_eq I ih h2 h3 g2 g3 hds hA
   refine ⟨?_, R.1, R.2⟩
   by_cases hab : a = b
   ·subst hab
    rw [I.rep_inj hd0 he0, eqD_refl]
    exact SeqAt.EqAt.same _
   ·exact SeqAt.EqAt.of_refs hab R.1
theorem Inv.eqP (I : Inv X pins σ H s) : ∀ n, EqP X H s n
 | 0 => fun d e A x y u v hn hd he ru rv hA => by
  have fd : flatD d = true := by
   cases d <;> simp [depD, flatD] at hn ⊢
  cases fe : flatD e with
  | true =>
   have ex := rep_flat fd hd
   have ey := rep_flat fe he
   subst ex ey
   rw [← eqV_val fd fe]
   exact eqAt_V ru rv (flat_val fd) (flat_val fe)
  | false =>
   obtain ⟨e1, e2, _⟩ := mixed_eq I hd he ru rv (by rw [fd, fe]; rfl) (A := A) (by omega)
   rw [e1]
   exact e2
 | n + 1 => fun d e A x y u v hn hd he ru rv hA => by
  cases fd : flatD d with
  | true =>
   have h0 : depD d ≤ n := by cases d <;> simp [depD, flatD] at fd ⊢
   exact Inv.eqP I n d e A x y u v h0 hd he ru rv (by omega)
  | false =>
   cases fe : flatD e with
   | true =>
    obtain ⟨e1, e2, _⟩ := mixed_eq I hd he ru rv (by rw [fd, fe]; rfl) (A := A) (by omega)
    rw [e1]
    exact e2
   | false => exact (seq_eq I (Inv.eqP I n) hn hd he ru rv fd fe hA).1
def rEqU (K : PySem.W.Frag) : R2 := fun x y H Q => match x, y with
 | .int i, .int j => Q (.bl (decide (i = j))) H
 | .str i, .str j => Q (.bl (decide (i = j))) H
 | .bl i, .bl j => Q (.bl (decide (i = j))) H
 | .non, .non => Q (.bl true) H
 | x, y => ∃ d e, Rep K H d x ∧ Rep K H e y ∧ depD d ≤ 50 ∧ (flatD d && flatD e) = false ∧ Q (.bl (eqD d e)) H
def rNeU (K : PySem.W.Frag) : R2 := fun x y H Q => match x, y with
 | .int i, .int j => Q (.bl (!decide (i = j))) H
 | .str i, .str j => Q (.bl (!decide (i = j))) H
 | .bl i, .bl j => Q (.bl (!decide (i = j))) H
 | .non, .non => Q (.bl false) H
 | x, y => ∃ d e, Rep K H d x ∧ Rep K H e y ∧ depD d ≤ 50 ∧ (flatD d && flatD e) = false ∧ Q (.bl (!eqD d e)) H
theorem op_eqU (hu : X.A.units + 64 < cLine) : OpR X (compareOp .Eq) (rEqU X.K) := fun pins s σ H x y v u Q I rx ry q => by
 unfold rEqU at q
 split at q
 ·rename_i i j; exact op_eq pins s σ H _ _ v u Q I rx ry ⟨rfl, by rw [show decide (V.int i = V.int j) = decide (i = j) from by simp]; exact q⟩
 ·rename_i i j; exact op_eq pins s σ H _ _ v u Q I rx ry ⟨rfl, by rw [show decide (V.str i = V.str j) = decide (i = j) from by simp]; exact q⟩
 ·rename_i i j; exact op_eq pins s σ H _ _ v u Q I rx ry ⟨rfl, by rw [show decide (V.bl i = V.bl j) = decide (i = j) from by simp]; exact q⟩
 ·exact op_eq pins s σ H _ _ v u Q I rx ry ⟨rfl, by simpa using q⟩
 ·obtain ⟨d, e, hd, he, hn, hf, q⟩ := q
  show wpAny (model X.prog X.w) X.A (richCompare .Eq v u) (EP X pins σ Q) X.xe s
  cases fd : flatD d with
  | true =>
   cases fe : flatD e with
   | true => rw [fd, fe] at hf; cases hf
   | false =>
    obtain ⟨e1, _, e3, _⟩ := mixed_eq I hd he rx ry (by rw [fd, fe]; rfl) (A := X.A) (by omega)
    rw [e1] at q
    exact e3 _ _ _ _ ⟨V.bl _, H, I, rfl, q⟩
  | false =>
   cases fe : flatD e with
   | true =>
    obtain ⟨e1, _, e3, _⟩ := mixed_eq I hd he rx ry (by rw [fd, fe]; rfl) (A := X.A) (by omega)
    rw [e1] at q
    exact e3 _ _ _ _ ⟨V.bl _, H, I, rfl, q⟩
   | false => exact (seq_eq I (I.eqP 49) hn hd he rx ry fd fe (by omega)).2.1 _ _ _ _ ⟨V.bl _, H, I, rfl, q⟩
theorem op_neU (hu : X.A.units + 64 < cLine) : OpR X (compareOp .NotEq) (rNeU X.K) := fun pins s σ H x y v u Q I rx ry q => by
 unfold rNeU at q
 split at q
 ·rename_i i j; exact op_ne pins s σ H _ _ v u Q I rx ry ⟨rfl, by rw [show decide (V.int i = V.int j) = decide (i = j) from by simp]; exact q⟩
 ·rename_i i j; exact op_ne pins s σ H _ _ v u Q I rx ry ⟨rfl, by rw [show decide (V.str i = V.str j) = decide (i = j) from by simp]; exact q⟩
 ·rename_i i j; exact op_ne pins s σ H _ _ v u Q I rx ry ⟨rfl, by rw [show decide (V.bl i = V.bl j) = decide (i = j) from by simp]; exact q⟩
 ·exact op_ne pins s σ H _ _ v u Q I rx ry ⟨rfl, by simpa using q⟩
 ·obtain ⟨d, e, hd, he, hn, hf, q⟩ := q
  show wpAny (model X.prog X.w) X.A (richCompare .NotEq v u) (EP X pins σ Q) X.xe s
  cases fd : flatD d with
  | true =>
   cases fe : flatD e with
   | true => rw [fd, fe] at hf; cases hf
   | false =>
    obtain ⟨e1, _, _, e3⟩ := mixed_eq I hd he rx ry (by rw [fd, fe]; rfl) (A := X.A) (by omega)
    rw [e1] at q
    exact e3 _ _ _ _ ⟨V.bl _, H, I, rfl, q⟩
  | false =>
   cases fe : flatD e with
   | true =>
    obtain ⟨e1, _, _, e3⟩ := mixed_eq I hd he rx ry (by rw [fd, fe]; rfl) (A := X.A) (by omega)
    rw [e1] at q
    exact e3 _ _ _ _ ⟨V.bl _, H, I, rfl, q⟩
   | false => exact (seq_eq I (I.eqP 49) hn hd he rx ry fd fe (by omega)).2.2 _ _ _ _ ⟨V.bl _, H, I, rfl, q⟩
end
def DivOk (j : Int) : Prop := j ≠ 0 ∧ j.natAbs.log2 < 9000
section
variable {X : Cx}
def rAddU (K : PySem.W.Frag) : R2 := fun x y H Q => match x, y with
 | .int i, .int j => Q (.int (i + j)) H
 | .str i, .str j => i.length + j.length ≤ sizeLine ∧ Q (.str (i ++ j)) H
 | .ref a, .ref b => rCat (.ref a) (.ref b) H Q ∨ rCatT K (.ref a) (.ref b) H Q
 | _, _ => False
theorem op_addU : OpR X (binaryOp .Add) (rAddU X.K) := fun pins s σ H x y v u Q I rx ry q => by
 unfold rAddU at q
 split at q
 ·exact op_add pins s σ H _ _ v u Q I rx ry ⟨_, _, rfl, rfl, q⟩
 ·exact op_add_str pins s σ H _ _ v u Q I rx ry ⟨_, _, rfl, rfl, q.1, q.2⟩
 ·rcases q with q | q
  ·exact op_cat pins s σ H _ _ v u Q I rx ry q
  ·exact op_catT pins s σ H _ _ v u Q I rx ry q
 ·exact q.elim
def rMulU : R2 := fun x y H Q => match x, y with
 | .int i, .int j => IntMulOk i j ∧ Q (.int (i * j)) H
 | _, _ => False
theorem op_mulI : OpR X (binaryOp .Mult) (rI IntMulOk fun i j => .int (i * j)) := opI fun _ _ _ _ _ _ _ hc q => mul_int q hc
theorem op_mulU : OpR X (binaryOp .Mult) rMulU := fun pins s σ H x y v u Q I rx ry q => by
 unfold rMulU at q
 split at q
 ·exact op_mulI pins s σ H _ _ v u Q I rx ry ⟨_, _, rfl, rfl, q.1, q.2⟩
 ·exact q.elim
def rFdivU : R2 := fun x y H Q => match x, y with
 | .int i, .int j => DivOk j ∧ Q (.int (i.fdiv j)) H
 | _, _ => False
theorem op_fdivI : OpR X (binaryOp .FloorDiv) (rI (fun _ j => DivOk j) fun i j => .int (i.fdiv j)) := opI fun _ _ _ _ _ _ _ hc q => floordiv_int hc.1 q (.inl (PyProof.noPylong_of_log2 hc.2))
theorem op_fdivU : OpR X (binaryOp .FloorDiv) rFdivU := fun pins s σ H x y v u Q I rx ry q => by
 unfold rFdivU at q
 split at q
 ·exact op_fdivI pins s σ H _ _ v u Q I rx ry ⟨_, _, rfl, rfl, q.1, q.2⟩
 ·exact q.elim
def rModU : R2 := fun x y H Q => match x, y with
 | .int i, .int j => j ≠ 0 ∧ Q (.int (i.fmod j)) H
 | _, _ => False
theorem op_modU : OpR X (binaryOp .Mod) rModU := fun pins s σ H x y v u Q I rx ry q => by
 unfold rModU at q
 split at q
 ·exact op_modN pins s σ H _ _ v u Q I rx ry ⟨_, _, rfl, rfl, q.1, q.2⟩
 ·exact q.elim
def rPowU : R2 := fun x y H Q => match x, y with
 | .int i, .int j => CPow i j ∧ Q (.int (i ^ j.toNat)) H
 | _, _ => False
theorem op_powU : OpR X (binaryOp .Pow) rPowU := fun pins s σ H x y v u Q I rx ry q => by
 unfold rPowU at q
 split at q
 ·exact op_pow pins s σ H _ _ v u Q I rx ry ⟨_, _, rfl, rfl, q.1, q.2⟩
 ·exact q.elim
def rCmpU (p : Int → Int → Bool) : R2 := fun x y H Q => match x, y with
 | .int i, .int j => Q (.bl (p i j)) H
 | _, _ => False
theorem op_cmpU {op : CmpOp} {p : Int → Int → Bool} (h : OpR X (compareOp op) (rI0 fun i j => .bl (p i j))) : OpR X (compareOp op) (rCmpU p) := fun pins s σ H x y v u Q I rx ry q => by
 unfold rCmpU at q
 split at q
 ·exact h pins s σ H _ _ v u Q I rx ry ⟨_, _, rfl, rfl, q⟩
 ·exact q.elim
theorem op_ltU : OpR X (compareOp .Lt) (rCmpU fun i j => decide (i < j)) := op_cmpU op_lt
theorem op_gtU : OpR X (compareOp .Gt) (rCmpU fun i j => decide (j < i)) := op_cmpU op_gt
theorem op_geU : OpR X (compareOp .GtE) (rCmpU fun i j => decide (j ≤ i)) := op_cmpU op_ge
def SqA (K : PySem.W.Frag) (H : Hp) (a : Addr) (xs : List V) : Prop := SqL K H a xs ∨ SqT K H a xs
def rIxU (K : PySem.W.Frag) : R2 := fun x y H Q => match x, y with
 | .ref p, .int i => ∃ xs v, SqA K H p xs ∧ atI xs i = some v ∧ Q v H
 | .str z, .int i => ∃ c, z.length ≤ sizeLine ∧ atI z.cps.toList i = some c ∧ Q (.str ⟨#[c]⟩) H
 | _, _ => False
theorem ix_U : IxR X (rIxU X.K) := fun value slice pins s σ H x y v u Q I rx ry q hs => by
 unfold rIxU at q
 split at q
 ·obtain ⟨xs, w, h | h, e, q⟩ := q
  ·exact ix_list value slice pins s σ H _ _ v u Q I rx ry ⟨_, _, _, _, rfl, rfl, h, e, q⟩ hs
  ·exact ix_tup value slice pins s σ H _ _ v u Q I rx ry ⟨_, _, _, _, rfl, rfl, h, e, q⟩ hs
 ·obtain ⟨c, h1, h2, q⟩ := q
  exact ix_str value slice pins s σ H _ _ v u Q I rx ry ⟨_, _, _, rfl, rfl, h1, h2, q⟩ hs
 ·exact q.elim
def rLen (K : PySem.W.Frag) : List V → Hp → VK → Prop := fun xs H Q => match xs with
 | [.ref p] => ∃ ys, SqA K H p ys ∧ Q (.int ys.length) H
 | [.str z] => z.length ≤ sizeLine ∧ Q (.int z.length) H
 | _ => False
theorem call_lenU : CallR X (.builtin "len") (rLen X.K) := fun pins s σ H xs us Q I r q => by
 unfold rLen at q
 split at q
 ·obtain ⟨ys, h, q⟩ := q
  exact call_len_seq pins s σ H _ us Q I r ⟨_, _, rfl, h, q⟩
 ·exact call_len_str pins s σ H _ us Q I r ⟨_, rfl, q.1, q.2⟩
 ·exact q.elim
def rAbs : List V → Hp → VK → Prop := fun xs H Q => match xs with
 | [.int i] => Q (.int (if i < 0 then -i else i)) H
 | _ => False
theorem call_absU : CallR X (.builtin "abs") rAbs := fun pins s σ H xs us Q I r q => by
 unfold rAbs at q
 split at q
 ·exact call_abs pins s σ H _ us Q I r ⟨_, rfl, q⟩
 ·exact q.elim
def rMin : List V → Hp → VK → Prop := fun xs H Q => match xs with
 | [.int i, .int j] => Q (.int (if j < i then j else i)) H
 | _ => False
theorem call_minU (hc : X.calm = true) : CallR X (.builtin "min") rMin := fun pins s σ H xs us Q I r q => by
 unfold rMin at q
 split at q
 ·exact call_min2 hc pins s σ H _ us Q I r ⟨_, _, rfl, q⟩
 ·exact q.elim
def rSlU (K : PySem.W.Frag) : V → Option Int → Option Int → Hp → VK → Prop := fun x lo hi H Q => rSlL K x lo hi H Q ∨ rSlT K x lo hi H Q
theorem sl_U : SlR X (rSlU X.K) := SlR.or sl_list sl_tup
def isiB (t T : String) : Bool := t == T || (t == "bool" && T == "int")
def tyN (K : PySem.W.Frag) (H : Hp) (x : V) (t : String) : Prop := match x with
 | .int _ => t = "int"
 | .str _ => t = "str"
 | .bl _ => t = "bool"
 | .non => t = "NoneType"
 | .ref a => (t = "list" ∧ ∃ xs, SqL K H a xs) ∨ (t = "tuple" ∧ ∃ xs, SqT K H a xs)
 | _ => False
theorem kit_b (K : PySem.W.Frag) {t T : String} (ht : t ∈ ["int", "str", "bool", "NoneType", "list", "tuple"]) (hT : T ∈ ["int", "str", "bool", "list", "tuple"]) : PySem.W.kitOne K (.type t) (.type T) = some (isiB t T) := by
 simp only [List.mem_cons, List.not_mem_nil, or_false] at ht hT
 rcases ht with rfl | rfl | rfl | rfl | rfl | rfl <;> rcases hT with rfl | rfl | rfl | rfl | rfl <;> with_unfolding_all rfl
def rIsi (K : PySem.W.Frag) : List V → Hp → VK → Prop := fun xs H Q => match xs with
 | [x, .ty T] => T ∈ ["int", "str", "bool", "list", "tuple"] ∧ ∃ t, tyN K H x t ∧ Q (.bl (isiB t T)) H
 | _ => False
theorem call_isinstanceU : CallR X (.builtin "isinstance") (rIsi X.K) := fun pins s σ H xs us Q I r q => by
 unfold rIsi at q
 split at q
 ·rename_i x T
  obtain ⟨hT, t, ht, q⟩ := q
  obtain ⟨u, c, rfl, ru, rc⟩ := vals2 r
  obtain rfl : c = Value.type T := rc
  have fin : ∀ tk, EP X pins σ Q (.bool (isiB t T)) { s with toks := tk } := fun tk => ⟨V.bl _, H, I.tok tk, rfl, q⟩
  unfold tyN at ht
  split at ht
  ·subst ht; obtain ⟨_, rfl⟩ := ru; exact PySem.W.kia_one PySem.W.kitx_int I.kIn True.intro (kit_b _ (by decide) hT) (fun z => nomatch z) fin
  ·subst ht; obtain ⟨_, rfl⟩ := ru; exact PySem.W.kia_one PySem.W.kitx_str I.kIn True.intro (kit_b _ (by decide) hT) (fun z => nomatch z) fin
  ·subst ht; cases (show u = Value.bool _ from ru); exact PySem.W.kia_one PySem.W.kitx_bool I.kIn True.intro (kit_b _ (by decide) hT) (fun z => nomatch z) fin
  ·subst ht; cases (show u = Value.none from ru); exact PySem.W.kia_one PySem.W.kitx_none I.kIn True.intro (kit_b _ (by decide) hT) (fun z => nomatch z) fin
  ·rename_i a
   cases (show u = Value.ref a from ru)
   rcases ht with ⟨rfl, ys, h⟩ | ⟨rfl, ys, h⟩
   ·obtain ⟨its, _, p, _⟩ := I.list h
    obtain ⟨o, _, h1, h2, _⟩ := p
    exact PySem.W.kia_one PySem.W.kitx_list I.kIn ⟨o, h1, h2⟩ (kit_b _ (by decide) hT) (fun z => nomatch z) fin
   ·obtain ⟨its, _, p, _⟩ := I.tuple h
    obtain ⟨o, h1, h2, _⟩ := p
    exact PySem.W.kia_one PySem.W.kitx_tuple I.kIn ⟨o, h1, h2⟩ (kit_b _ (by decide) hT) (fun z => nomatch z) fin
  ·exact ht.elim
 ·exact q.elim
end
section
variable {X : Cx} {tg : Expr}
def iAny (K : PySem.W.Frag) (tl : TE) : TI := fun σ H R => tl σ H fun x H1 => ∃ a, x = .ref a ∧ (((∃ xs, SqL K H1 a xs) ∧ R (Itl K a) H1) ∨ ((∃ xs, SqT K H1 a xs) ∧ R (Itt K a) H1))
theorem pi_U {l : Expr} {tl : TE} (hl : PE X l tl) : PI X tg l (iAny X.K tl) := fun pins s σ H R I h => by
 refine thn (hl pins s σ H _ I h) fun v s1 ⟨x, H1, I1, r1, a, ex, q⟩ => ?_
 subst ex
 cases r1
 rcases q with ⟨⟨xs, hq⟩, q⟩ | ⟨⟨xs, hq⟩, q⟩
 ·obtain ⟨its, rv, p, hz⟩ := I1.list hq
  refine wpAny_pyIter_list p.isList ?_
  refine ⟨s1.heap.objs.size, [s1.heap.objs.size], _, _, H1, rfl, I1.kept (t' := s1.toks) fun b o e => Heap.get?_push_of_some _ e, turn_list a _, ⟨_, Heap.get?_push_size _ rfl, rfl, rfl⟩, fun b hb => ?_, q⟩
  have e : b = s1.heap.objs.size := by simpa using hb
  subst e
  exact I1.fpOk (Nat.le_refl _) (I1.hok.fresh (Nat.le_refl _))
 ·obtain ⟨its, rv, p, hz⟩ := I1.tuple hq
  refine wpAny_pyIter_tuple (show s1.heap.IsTuple a its.toArray from p) ?_
  refine ⟨s1.heap.objs.size, [s1.heap.objs.size], _, _, H1, rfl, I1.kept (t' := s1.toks) fun b o e => Heap.get?_push_of_some _ e, turn_tuple a _, ⟨_, Heap.get?_push_size _ rfl, rfl, rfl⟩, fun b hb => ?_, q⟩
  have e : b = s1.heap.objs.size := by simpa using hb
  subst e
  exact I1.fpOk (Nat.le_refl _) (I1.hok.fresh (Nat.le_refl _))
theorem for_any {K : PySem.W.Frag} {a : Addr} {xs : List V} {g : TG} {tb : TS} {D : Ends} {σ : St} {H : Hp} (hA : SqA K H a xs) (Pv : Nat → St → Hp → Prop) (h0 : Pv 0 σ H) (hl : ∀ i σ H', i ≤ xs.length → Pv i σ H' → Same H H')
  (hs : ∀ i x σ H, xs[i]? = some x → Pv i σ H → g x σ H fun σ2 H2 => tb { D with nx := Pv (i + 1), ct := Pv (i + 1), bk := D.nx } σ2 H2) (hd : ∀ σ H, Pv xs.length σ H → D.nx σ H) :
  ((∃ xs, SqL K H a xs) ∧ ∃ W : Nat → Nat → St → Hp → Prop, (∃ m, W 0 m σ H) ∧ ∀ i m σ H, W i m σ H →
   ((Itl K a).stop i H ∧ D.nx σ H) ∨ ((Itl K a).go i H ∧ ∃ N : St → Hp → Prop, (∀ σ' H', N σ' H' → ∃ m', m' < m ∧ W (i + 1) m' σ' H') ∧ ∀ x H', (Itl K a).yld i H x H' → g x σ H' fun σ2 H2 => tb { D with nx := N, ct := N, bk := D.nx } σ2 H2)) ∨
  ((∃ xs, SqT K H a xs) ∧ ∃ W : Nat → Nat → St → Hp → Prop, (∃ m, W 0 m σ H) ∧ ∀ i m σ H, W i m σ H →
   ((Itt K a).stop i H ∧ D.nx σ H) ∨ ((Itt K a).go i H ∧ ∃ N : St → Hp → Prop, (∀ σ' H', N σ' H' → ∃ m', m' < m ∧ W (i + 1) m' σ' H') ∧ ∀ x H', (Itt K a).yld i H x H' → g x σ H' fun σ2 H2 => tb { D with nx := N, ct := N, bk := D.nx } σ2 H2)) := by
 rcases hA with hA | hA
 ·exact .inl ⟨⟨xs, hA⟩, for_list (xs := xs) Pv h0 (fun i σ H' hi hp => hA.same (hl i σ H' hi hp)) hs hd⟩
 ·exact .inr ⟨⟨xs, hA⟩, for_tup (xs := xs) Pv h0 (fun i σ H' hi hp => hA.same (hl i σ H' hi hp)) hs hd⟩
end
structure FunD (K : PySem.W.Frag) (x qual : Str) (st : Stmt) (dV : Value) (f : Addr) (fd : FuncData) : Prop where
 ex : ∃ (oc : Value) (od : Option Addr) (kV doc pm : Value) (an : Option Addr) (cdv ct : Value) (osl : Array (Option Value)),
  fd = PySem.W.fnOf x qual (defArgs st) (defBody st) (defScope st) dV kV doc pm an cdv ct ∧ K.lookup f = some ⟨oc, od, .func fd, osl⟩ ∧ PySem.W.codeIn K cdv qual = true
 kp : PySem.W.keepIn K (.ref f) = true
section
variable {P : Program} {w : World} {K : PySem.W.Frag} {mg : Str → Option Value} {base : Heap}
theorem FunD.okn {x qual : Str} {st : Stmt} {dV : Value} {f : Addr} {fd : FuncData} {N ps : List Str} {k : Nat} {sp : Sp} (F : FunD K x qual st dV f fd) (S : FnScope N ps (defScope st)) (len : ∀ vs H Q E, sp vs H Q E → vs.length = ps.length)
  (hbody : ∀ (cdv : Value) (A : Around) (outer : List Env) (s : Shared) (H : Hp) (vs : List V) (Q : VK) (E : XK), Room k (A.deeper (envOfC qual (defScope st) s.heap.objs.size f cdv)) → sp vs H Q E →
   ∃ t, PSs (cxOf (CX1 P w) P w K mg base N qual (defScope st) f cdv A outer s H E).nox (defBody st) t ∧ t { nx := fun _ H' => Q .non H', rt := Q } (start N vs) H) : FnOk P w K mg base (CX1 P w) (k + 1) f fd ps sp := by
 obtain ⟨oc, od, kV, doc, pm, an, cdv, ct, osl, rfl, lk, hcd⟩ := F.ex
 refine fn_of lk hcd S len fun A outer s H vs Q E hr hsp => ?_
 obtain ⟨t, h, q⟩ := hbody cdv A outer s H vs Q E hr hsp
 exact ⟨t, h.nox, q⟩
theorem FunD.okx {x qual : Str} {st : Stmt} {dV : Value} {f : Addr} {fd : FuncData} {N ps : List Str} {k : Nat} {sp : Sp} (F : FunD K x qual st dV f fd) (S : FnScope N ps (defScope st)) (len : ∀ vs H Q E, sp vs H Q E → vs.length = ps.length)
  (hbody : ∀ (cdv : Value) (A : Around) (outer : List Env) (s : Shared) (H : Hp) (vs : List V) (Q : VK) (E : XK), Room k (A.deeper (envOfC qual (defScope st) s.heap.objs.size f cdv)) → sp vs H Q E →
   ∃ t, PSs (cxOf (CX1 P w) P w K mg base N qual (defScope st) f cdv A outer s H E) (defBody st) t ∧ t { nx := fun _ H' => Q .non H', rt := Q } (start N vs) H) : FnOk P w K mg base (CX1 P w) (k + 1) f fd ps sp := by
 obtain ⟨oc, od, kV, doc, pm, an, cdv, ct, osl, rfl, lk, hcd⟩ := F.ex
 exact fn_of lk hcd S len fun A outer s H vs Q E hr hsp => hbody cdv A outer s H vs Q E hr hsp
theorem FunD.binds {x qual : Str} {st : Stmt} {dV : Value} {f : Addr} {fd : FuncData} {ps : List Str} (F : FunD K x qual st dV f fd)
  (h : ∀ (kV doc pm : Value) (an : Option Addr) (cdv ct : Value) (us : List Value), us.length = ps.length → bindArgs (PySem.W.fnOf x qual (defArgs st) (defBody st) (defScope st) dV kV doc pm an cdv ct) ⟨us, []⟩ = pure (ps.zip us)) : Binds K fd ps [] := by
 obtain ⟨oc, od, kV, doc, pm, an, cdv, ct, osl, rfl, lk, hcd⟩ := F.ex
 exact .all (h kV doc pm an cdv ct)
theorem funD_mk {x qual : Str} {st : Stmt} {dV : Value} {f : Addr} {oc : Value} {od an : Option Addr} {osl : Array (Option Value)} {kV doc pm cdv ct : Value} (l : K.lookup f = some ⟨oc, od, .func (PySem.W.fnOf x qual (defArgs st) (defBody st) (defScope st) dV kV doc pm an cdv ct), osl⟩)
  (c : PySem.W.codeIn K cdv qual = true) (k : PySem.W.keepIn K (.ref f) = true) : FunD K x qual st dV f (PySem.W.fnOf x qual (defArgs st) (defBody st) (defScope st) dV kV doc pm an cdv ct) := ⟨⟨oc, od, kV, doc, pm, an, cdv, ct, osl, rfl, l, c⟩, k⟩
end
structure Cal (P : Program) (w : World) (K : PySem.W.Frag) (mg : Str → Option Value) (base : Heap) (k : Nat) (x : Str) (ps : List Str) (dvs : List V) (sp : Sp) : Prop where
 ex : ∃ (f : Addr) (fd : FuncData) (ds : List Value), FnOk P w K mg base (CX1 P w) k f fd ps sp ∧ mg x = some (.ref f) ∧ PySem.W.keepIn K (.ref f) = true ∧ Binds K fd ps ds ∧ Vals dvs ds
section
variable {X : Cx} {k k' : Nat} {x : Str} {ps : List Str} {dvs : List V} {sp : Sp} {E : XK} {p pos : Pos} {e : Expr} {es : List Expr} {t : TA}
theorem Cal.ev (G : Cal X.prog X.w X.K X.mg X.base k x ps dvs sp) (hr : Room k' X.A) (hk : k ≤ k') (hg : Gl X x) (hx : Passes (CX1 X.prog X.w) X E) (ha : PA X (e :: es) t)
  (hdb : (x == ("__debug__" : Str)) = false := by decide) (he : starEach (e :: es) X.env = (false, eval e X.env) :: starEach es X.env := by rfl) (hpl : (backTo pos (starEach es X.env)).any (·.1) = false := by rfl) :
  PE X (.Call (.Name x p) (e :: es) [] pos) (tCall sp dvs E t) := by
 obtain ⟨f, fd, ds, F, hm, kp, hb, hd⟩ := G.ex
 exact pe_call F (hr.mono hk) hg hm kp hb hd hx ha hdb he hpl
theorem Cal.ev0 (G : Cal X.prog X.w X.K X.mg X.base k x ps dvs sp) (hr : Room k' X.A) (hk : k ≤ k') (hg : Gl X x) (hx : Passes (CX1 X.prog X.w) X E) (hdb : (x == ("__debug__" : Str)) = false := by decide) :
  PE X (.Call (.Name x p) [] [] pos) (tCall sp dvs E tNil) := by
 obtain ⟨f, fd, ds, F, hm, kp, hb, hd⟩ := G.ex
 exact pe_call0 F (hr.mono hk) hg hm kp hb hd hx hdb
theorem Cal.tr (G : Cal X.prog X.w X.K X.mg X.base k x ps dvs sp) (hr : Room k' X.A) (hk : k ≤ k') (hg : Gl X x) (ha : PA X.nox (e :: es) t)
  (hdb : (x == ("__debug__" : Str)) = false := by decide) (he : starEach (e :: es) X.env = (false, eval e X.env) :: starEach es X.env := by rfl) (hpl : (backTo pos (starEach es X.env)).any (·.1) = false := by rfl) :
  PEx X (.Call (.Name x p) (e :: es) [] pos) (xCall sp dvs t) := by
 obtain ⟨f, fd, ds, F, hm, kp, hb, hd⟩ := G.ex
 exact pex_call F (hr.mono hk) hg hm kp hb hd ha hdb he hpl
end
end L2
namespace Mth
def g (a b : Int) : Int := (Int.gcd a b : Nat)
theorem g_zero (a : Int) : g a 0 = (a.natAbs : Int) := by unfold g; rw [Int.gcd_zero_right]
theorem g_pos {a b : Int} (h : b ≠ 0) : 0 < g a b := by
 unfold g
 exact Int.natCast_pos.mpr (Int.gcd_pos_of_ne_zero_right a h)
theorem g_dvd1 (a b : Int) : g a b ∣ a := Int.gcd_dvd_left ..
theorem g_dvd2 (a b : Int) : g a b ∣ b := Int.gcd_dvd_right ..
theorem g_step (a b : Int) : g b (a % b) = g a b := by
 unfold g
 rw [Int.gcd_comm b (a % b)]
 first
  | rw [Int.gcd_emod_left]
  | (rw [Int.emod_def]; simp [Int.gcd_comm])
theorem g_abs (a b : Int) : g (if a < 0 then -a else a) (if b < 0 then -b else b) = g a b := by
 unfold g
 split <;> split <;> simp [Int.neg_gcd, Int.gcd_neg]
theorem abs_nn (a : Int) : 0 ≤ (if a < 0 then -a else a) := by split <;> omega
theorem g_le {a b : Int} (h : b ≠ 0) : g a b ≤ (b.natAbs : Int) := by
 unfold g
 exact Int.ofNat_le.mpr (Nat.le_of_dvd (by omega) (Int.natAbs_dvd_natAbs.mpr (by simpa using Int.gcd_dvd_right (a := a) (b := b)) |> fun z => by simpa using z))
theorem fm {x y : Int} (h : 0 < y) : 0 ≤ x.fmod y ∧ x.fmod y < y := by
 rw [Int.fmod_eq_emod_of_nonneg _ (by omega)]
 exact ⟨Int.emod_nonneg _ (by omega), Int.emod_lt_of_pos _ h⟩
theorem g_fstep {x y : Int} (h : 0 < y) : g y (x.fmod y) = g x y := by
 rw [Int.fmod_eq_emod_of_nonneg _ (by omega)]
 exact g_step x y
def by_ (t b : Int) : Int := if b < 0 then -(g t b) else g t b
def top (t b : Int) : Int := t.fdiv (by_ t b)
def bot (t b : Int) : Int := b.fdiv (by_ t b)
theorem by_ne {t b : Int} (h : b ≠ 0) : by_ t b ≠ 0 := by
 have := g_pos (a := t) h
 unfold by_; split <;> omega
theorem by_dvd1 (t b : Int) : by_ t b ∣ t := by
 unfold by_; split
 ·exact Int.neg_dvd.mpr (g_dvd1 t b)
 ·exact g_dvd1 t b
theorem by_dvd2 (t b : Int) : by_ t b ∣ b := by
 unfold by_; split
 ·exact Int.neg_dvd.mpr (g_dvd2 t b)
 ·exact g_dvd2 t b
theorem fdiv_mul {a d : Int} (h : d ∣ a) (hd : d ≠ 0) : a.fdiv d * d = a := by
 obtain ⟨k, rfl⟩ := h
 rw [Int.mul_comm d k, Int.mul_fdiv_cancel _ hd]
theorem top_mul {t b : Int} (h : b ≠ 0) : top t b * by_ t b = t := fdiv_mul (by_dvd1 t b) (by_ne h)
theorem bot_mul {t b : Int} (h : b ≠ 0) : bot t b * by_ t b = b := fdiv_mul (by_dvd2 t b) (by_ne h)
theorem bot_pos {t b : Int} (h : b ≠ 0) : 1 ≤ bot t b := by
 have h1 := bot_mul (t := t) h
 have h2 := g_pos (a := t) h
 by_cases hb : b < 0
 ·have e : by_ t b = -(g t b) := by unfold by_; rw [if_pos hb]
  rw [e] at h1
  have h3 : bot t b * g t b = -b := by rw [Int.mul_neg] at h1; omega
  rcases Int.lt_trichotomy (bot t b) 0 with z | z | z
  ·have := Int.mul_neg_of_neg_of_pos z h2; omega
  ·rw [z] at h3; omega
  ·omega
 ·have e : by_ t b = g t b := by unfold by_; rw [if_neg hb]
  rw [e] at h1
  rcases Int.lt_trichotomy (bot t b) 0 with z | z | z
  ·have := Int.mul_neg_of_neg_of_pos z h2; omega
  ·rw [z] at h1; omega
  ·omega
theorem cross {t b : Int} (h : b ≠ 0) : top t b * b = t * bot t b := by
 have h1 := top_mul (t := t) h
 have h2 := bot_mul (t := t) h
 calc top t b * b = top t b * (bot t b * by_ t b) := by rw [h2]
  _ = (top t b * by_ t b) * bot t b := by rw [Int.mul_comm (bot t b), Int.mul_assoc]
  _ = t * bot t b := by rw [h1]
theorem natAbs_by (t b : Int) : (by_ t b).natAbs = Int.gcd t b := by
 unfold by_ g; split <;> simp
theorem g_low {t b : Int} (h : b ≠ 0) : g (top t b) (bot t b) = 1 := by
 have hg : 0 < Int.gcd t b := Int.gcd_pos_of_ne_zero_right t h
 have e : Int.gcd (top t b * by_ t b) (bot t b * by_ t b) = Int.gcd (top t b) (bot t b) * (by_ t b).natAbs := Int.gcd_mul_right ..
 rw [top_mul h, bot_mul h, natAbs_by] at e
 have : Int.gcd (top t b) (bot t b) = 1 := by
  rcases Nat.lt_trichotomy (Int.gcd (top t b) (bot t b)) 1 with z | z | z
  ·have : Int.gcd (top t b) (bot t b) = 0 := by omega
   rw [this] at e; omega
  ·exact z
  ·have := Nat.mul_le_mul_right (Int.gcd t b) z
   omega
 unfold g; rw [this]; rfl
theorem top_le {t b : Int} (h : b ≠ 0) : (top t b).natAbs ≤ t.natAbs := by
 have h1 := top_mul (t := t) h
 have h2 : (by_ t b).natAbs ≠ 0 := by have := by_ne (t := t) h; omega
 have h3 := congrArg Int.natAbs h1
 rw [Int.natAbs_mul] at h3
 rw [← h3]
 exact Nat.le_mul_of_pos_right _ (by omega)
theorem bot_le {t b : Int} (h : b ≠ 0) : (bot t b).natAbs ≤ b.natAbs := by
 have h1 := bot_mul (t := t) h
 have h2 : (by_ t b).natAbs ≠ 0 := by have := by_ne (t := t) h; omega
 have h3 := congrArg Int.natAbs h1
 rw [Int.natAbs_mul] at h3
 calc (bot t b).natAbs ≤ (bot t b).natAbs * (by_ t b).natAbs := Nat.le_mul_of_pos_right _ (by omega)
  _ = b.natAbs := h3
theorem log2_le {n k : Nat} (h : n < 2 ^ k) (hk : k < 9000) : n.log2 < 9000 := by
 by_cases z : n = 0
 ·rw [z]; decide
 ·exact Nat.lt_trans ((Nat.log2_lt z).mpr h) hk
def Sz (n : Nat) (i : Int) : Prop := i.natAbs < 2 ^ n
theorem Sz.mono {m n : Nat} {i : Int} (h : Sz m i) (k : m ≤ n) : Sz n i := Nat.lt_of_lt_of_le h (Nat.pow_le_pow_right (by decide) k)
theorem Sz.mul {m n : Nat} {i j : Int} (h : Sz m i) (k : Sz n j) : Sz (m + n) (i * j) := by
 unfold Sz at *
 rw [Int.natAbs_mul, Nat.pow_add]
 exact Nat.mul_lt_mul'' h k
theorem Sz.add {n : Nat} {i j : Int} (h : Sz n i) (k : Sz n j) : Sz (n + 1) (i + j) := by
 unfold Sz at *
 have := Int.natAbs_add_le i j
 rw [Nat.pow_succ]
 omega
theorem Sz.top {n : Nat} {t b : Int} (hb : b ≠ 0) (h : Sz n t) : Sz n (Mth.top t b) := Nat.lt_of_le_of_lt (top_le hb) h
theorem Sz.bot {n : Nat} {t b : Int} (hb : b ≠ 0) (h : Sz n b) : Sz n (Mth.bot t b) := Nat.lt_of_le_of_lt (bot_le hb) h
theorem Sz.lit {n : Nat} {i : Int} (h1 : -(2 ^ n) < i) (h2 : i < 2 ^ n) : Sz n i := by
 unfold Sz
 have e : ((2 ^ n : Nat) : Int) = 2 ^ n := by simp
 omega
end Mth
set_option maxHeartbeats 4000000
namespace Mth
end Mth
set_option maxHeartbeats 4000000
namespace Mth
end Mth
set_option Elab.async false
set_option linter.all false
set_option maxRecDepth 100000
set_option maxHeartbeats 4000000
namespace L2
open PySem PySem.Spec PyProof.Rows
section
variable {D : Ends} {σ : St} {H : Hp} {Q : VK} {t u : TS} {ta tb te : TE} {g : TG} {tA : TA} {r : R2} {E : XK} {sp : Sp} {K : PySem.W.Frag}
theorem y80y : tSeq t u D σ H = t { D with nx := u D } σ H := rfl
theorem y6fy : tNext D σ H = D.nx σ H := rfl
theorem y2ay : tAsg te g D σ H = te σ H fun x H1 => g x σ H1 D.nx := rfl
theorem y6ay {i : Nat} {v : V} {R : St → Hp → Prop} : gName i v σ H R = R (σ.set i (some v)) H := rfl
theorem y7dy : tRet te D σ H = te σ H D.rt := rfl
theorem y7ey : tRetN D σ H = D.rt .non H := rfl
theorem y44y : tDrop te D σ H = te σ H fun _ H1 => D.nx σ H1 := rfl
theorem y2dy {v : V} : tC v σ H Q = Q v H := rfl
theorem y76y : tOp r ta tb σ H Q = ta σ H fun x H1 => tb σ H1 fun y H2 => r x y H2 Q := rfl
theorem y8cy {f : V → Hp → VK → Prop} : tUn f ta σ H Q = ta σ H fun x H1 => f x H1 Q := rfl
theorem y2fy {f : List V → Hp → VK → Prop} : tCB f tA σ H Q = tA σ H fun vs H1 => f vs H1 Q := rfl
theorem y39y {R : List V → Hp → Prop} : tCons ta tA σ H R = ta σ H fun x H1 => tA σ H1 fun xs H2 => R (x :: xs) H2 := rfl
theorem y70y {R : List V → Hp → Prop} : tNil σ H R = R [] H := rfl
theorem y2ey {dvs : List V} : tCall sp dvs E tA σ H Q = tA σ H fun vs H1 => sp (vs ++ dvs) H1 Q E := rfl
theorem y85y {R : Bool → Hp → Prop} : tTest te σ H R = te σ H fun x H' => ∃ k, x = .bl k ∧ R k H' := rfl
theorem y23y {R : Bool → Hp → Prop} : tB te σ H R = te σ H fun x H' => ∃ k, x = .bl k ∧ R k H' := rfl
theorem y28y {a b : TT} {R : Bool → Hp → Prop} : tAnd a b σ H R = a σ H fun c H1 => if c = true then b σ H1 R else R false H1 := rfl
theorem y77y {a b : TT} {R : Bool → Hp → Prop} : tOr a b σ H R = a σ H fun c H1 => if c = true then R true H1 else b σ H1 R := rfl
theorem y72y {a : TT} {R : Bool → Hp → Prop} : tNot a σ H R = a σ H fun c H1 => R (!c) H1 := rfl
theorem y29y : tAndV ta tb σ H Q = ta σ H fun x H1 => ∃ c, x = .bl c ∧ if c = true then tb σ H1 Q else Q (.bl false) H1 := rfl
theorem y78y : tOrV ta tb σ H Q = ta σ H fun x H1 => ∃ c, x = .bl c ∧ if c = true then Q (.bl true) H1 else tb σ H1 Q := rfl
theorem y74y : tNotV ta σ H Q = ta σ H fun x H1 => ∃ c, x = .bl c ∧ Q (.bl (!c)) H1 := rfl
theorem y58y {c : TT} : tIfS c t u D σ H = c σ H fun b H1 => if b = true then t D σ H1 else u D σ H1 := rfl
theorem y8ey {i : Nat} : tVar i σ H Q = ∃ v, σ[i]? = some (some v) ∧ Q v H := rfl
theorem y26y {i j : Int} : rAddU K (.int i) (.int j) H Q = Q (.int (i + j)) H := rfl
theorem y27y {i j : Str} : rAddU K (.str i) (.str j) H Q = (i.length + j.length ≤ sizeLine ∧ Q (.str (i ++ j)) H) := rfl
theorem y84y {f : Int → Int → V} {i j : Int} : rI0 f (.int i) (.int j) H Q = Q (f i j) H := by
 unfold rI0; simp
theorem y6ey {f : Int → V} {i : Int} : rU f (.int i) H Q = Q (f i) H := by
 unfold rU; simp
theorem y67y {i j : Int} : rMulU (.int i) (.int j) H Q = (IntMulOk i j ∧ Q (.int (i * j)) H) := rfl
theorem y49y {i j : Int} : rFdivU (.int i) (.int j) H Q = (DivOk j ∧ Q (.int (i.fdiv j)) H) := rfl
theorem y66y {i j : Int} : rModU (.int i) (.int j) H Q = (j ≠ 0 ∧ Q (.int (i.fmod j)) H) := rfl
theorem y7by {i j : Int} : rPowU (.int i) (.int j) H Q = (CPow i j ∧ Q (.int (i ^ j.toNat)) H) := rfl
theorem y32y {p : Int → Int → Bool} {i j : Int} : rCmpU p (.int i) (.int j) H Q = Q (.bl (p i j)) H := rfl
theorem y47y {i j : Int} : rEqU K (.int i) (.int j) H Q = Q (.bl (decide (i = j))) H := rfl
theorem y6cy {i j : Int} : rNeU K (.int i) (.int j) H Q = Q (.bl (!decide (i = j))) H := rfl
theorem y48y {i j : Str} : rEqU K (.str i) (.str j) H Q = Q (.bl (decide (i = j))) H := rfl
theorem y6dy {i j : Str} : rNeU K (.str i) (.str j) H Q = Q (.bl (!decide (i = j))) H := rfl
theorem y46y {i j : Bool} : rEqU K (.bl i) (.bl j) H Q = Q (.bl (decide (i = j))) H := rfl
theorem y6by {i j : Bool} : rNeU K (.bl i) (.bl j) H Q = Q (.bl (!decide (i = j))) H := rfl
theorem y87y : tTup tA σ H Q = tA σ H fun xs H1 => xs.length ≤ sizeLine ∧ ∀ p, H1 p = none → Q (.ref p) (upd H1 p (.tup xs)) := rfl
theorem y62y : tLst tA σ H Q = tA σ H fun xs H1 => xs.length ≤ sizeLine ∧ ∀ p, H1 p = none → Q (.ref p) (upd H1 p (.lst xs)) := rfl
theorem y5ey {x : V} {T : String} : rIsi K [x, .ty T] H Q = (T ∈ ["int", "str", "bool", "list", "tuple"] ∧ ∃ t, tyN K H x t ∧ Q (.bl (isiB t T)) H) := rfl
theorem y25y {i : Int} : rAbs [.int i] H Q = Q (.int (if i < 0 then -i else i)) H := rfl
theorem y65y {i j : Int} : rMin [.int i, .int j] H Q = Q (.int (if j < i then j else i)) H := rfl
theorem y89y {i : Int} {s : String} : tyN K H (.int i) s = (s = "int") := rfl
theorem y8by {i : Str} {s : String} : tyN K H (.str i) s = (s = "str") := rfl
theorem y88y {i : Bool} {s : String} : tyN K H (.bl i) s = (s = "bool") := rfl
theorem y8ay {s : String} : tyN K H .non s = (s = "NoneType") := rfl
end
theorem bt_abs : bootBuiltins "abs" = some (.builtin "abs") := by decide +kernel
theorem bt_len : bootBuiltins "len" = some (.builtin "len") := by decide +kernel
theorem bt_min : bootBuiltins "min" = some (.builtin "min") := by decide +kernel
theorem bt_sorted : bootBuiltins "sorted" = some (.builtin "sorted") := by decide +kernel
theorem bt_isinstance : bootBuiltins "isinstance" = some (.builtin "isinstance") := by decide +kernel
theorem bt_all : bootBuiltins "all" = some (.builtin "all") := by decide +kernel
theorem bt_int : bootBuiltins "int" = some (.type "int") := by decide +kernel
theorem bt_str : bootBuiltins "str" = some (.type "str") := by decide +kernel
theorem bt_bool : bootBuiltins "bool" = some (.type "bool") := by decide +kernel
theorem bt_list : bootBuiltins "list" = some (.type "list") := by decide +kernel
theorem bt_tuple : bootBuiltins "tuple" = some (.type "tuple") := by decide +kernel
theorem bt_range : bootBuiltins "range" = some (.type "range") := by decide +kernel
theorem bt_ValueError : bootBuiltins "ValueError" = some (.type "ValueError") := by decide +kernel
theorem yby : isiB "int" "int" = true := by decide
theorem ydy : isiB "int" "str" = false := by decide
theorem yay : isiB "int" "bool" = false := by decide
theorem ycy : isiB "int" "list" = false := by decide
theorem yey : isiB "int" "tuple" = false := by decide
theorem y15y : isiB "str" "int" = false := by decide
theorem y17y : isiB "str" "str" = true := by decide
theorem y14y : isiB "str" "bool" = false := by decide
theorem y16y : isiB "str" "list" = false := by decide
theorem y18y : isiB "str" "tuple" = false := by decide
theorem y6y : isiB "bool" "int" = true := by decide
theorem y8y : isiB "bool" "str" = false := by decide
theorem y5y : isiB "bool" "bool" = true := by decide
theorem y7y : isiB "bool" "list" = false := by decide
theorem y9y : isiB "bool" "tuple" = false := by decide
theorem y1y : isiB "NoneType" "int" = false := by decide
theorem y3y : isiB "NoneType" "str" = false := by decide
theorem y0y : isiB "NoneType" "bool" = false := by decide
theorem y2y : isiB "NoneType" "list" = false := by decide
theorem y4y : isiB "NoneType" "tuple" = false := by decide
theorem y10y : isiB "list" "int" = false := by decide
theorem y12y : isiB "list" "str" = false := by decide
theorem yfy : isiB "list" "bool" = false := by decide
theorem y11y : isiB "list" "list" = true := by decide
theorem y13y : isiB "list" "tuple" = false := by decide
theorem y1ay : isiB "tuple" "int" = false := by decide
theorem y1cy : isiB "tuple" "str" = false := by decide
theorem y19y : isiB "tuple" "bool" = false := by decide
theorem y1by : isiB "tuple" "list" = false := by decide
theorem y1dy : isiB "tuple" "tuple" = true := by decide
theorem y1fy : ("int" ∈ ["int", "str", "bool", "list", "tuple"]) = True := by simp
theorem y21y : ("str" ∈ ["int", "str", "bool", "list", "tuple"]) = True := by simp
theorem y1ey : ("bool" ∈ ["int", "str", "bool", "list", "tuple"]) = True := by simp
theorem y20y : ("list" ∈ ["int", "str", "bool", "list", "tuple"]) = True := by simp
theorem y22y : ("tuple" ∈ ["int", "str", "bool", "list", "tuple"]) = True := by simp
theorem y24y {CX : CXT} {P : Program} {w : World} {K : PySem.W.Frag} {mg : Str → Option Value} {base : Heap} {N : List Str} {qual : Str} {scope : Scope} {f : Addr} {cd : Value} {A : Around} {outer : List Env} {s : Shared} {H : Hp} {E : XK} : (cxOf CX P w K mg base N qual scope f cd A outer s H E).K = K := rfl
def ForR (lo : Int) (n : Nat) (g : TG) (tb : TS) (D : Ends) (σ : St) (H : Hp) : Prop := ∃ W : Nat → Nat → St → Hp → Prop, (∃ m, W 0 m σ H) ∧ ∀ i m σ H, W i m σ H →
 ((Itr lo n).stop i H ∧ D.nx σ H) ∨ ((Itr lo n).go i H ∧ ∃ N : St → Hp → Prop, (∀ σ' H', N σ' H' → ∃ m', m' < m ∧ W (i + 1) m' σ' H') ∧ ∀ x H', (Itr lo n).yld i H x H' → g x σ H' fun σ2 H2 => tb { D with nx := N, ct := N, bk := D.nx } σ2 H2)
def ForA (K : PySem.W.Frag) (a : Addr) (g : TG) (tb : TS) (D : Ends) (σ : St) (H : Hp) : Prop :=
 ((∃ xs, SqL K H a xs) ∧ ∃ W : Nat → Nat → St → Hp → Prop, (∃ m, W 0 m σ H) ∧ ∀ i m σ H, W i m σ H →
  ((Itl K a).stop i H ∧ D.nx σ H) ∨ ((Itl K a).go i H ∧ ∃ N : St → Hp → Prop, (∀ σ' H', N σ' H' → ∃ m', m' < m ∧ W (i + 1) m' σ' H') ∧ ∀ x H', (Itl K a).yld i H x H' → g x σ H' fun σ2 H2 => tb { D with nx := N, ct := N, bk := D.nx } σ2 H2)) ∨
 ((∃ xs, SqT K H a xs) ∧ ∃ W : Nat → Nat → St → Hp → Prop, (∃ m, W 0 m σ H) ∧ ∀ i m σ H, W i m σ H →
  ((Itt K a).stop i H ∧ D.nx σ H) ∨ ((Itt K a).go i H ∧ ∃ N : St → Hp → Prop, (∀ σ' H', N σ' H' → ∃ m', m' < m ∧ W (i + 1) m' σ' H') ∧ ∀ x H', (Itt K a).yld i H x H' → g x σ H' fun σ2 H2 => tb { D with nx := N, ct := N, bk := D.nx } σ2 H2))
theorem y4cy {ta : TA} {g : TG} {tb : TS} {D : Ends} {σ : St} {H : Hp} : tFor (iRng1 ta) g tb D σ H = ta σ H fun vs H1 => ∃ j : Int, vs = [.int j] ∧ -(2 ^ 62) ≤ j ∧ j < 2 ^ 62 ∧ ForR 0 j.toNat g tb D σ H1 := rfl
theorem y4dy {ta : TA} {g : TG} {tb : TS} {D : Ends} {σ : St} {H : Hp} : tFor (iRng2 ta) g tb D σ H = ta σ H fun vs H1 => ∃ i j : Int, vs = [.int i, .int j] ∧ (-(2 ^ 62) ≤ i ∧ i < 2 ^ 62 ∧ -(2 ^ 62) ≤ j ∧ j < 2 ^ 62) ∧ ForR i (j - i).toNat g tb D σ H1 := rfl
theorem y4ey {K : PySem.W.Frag} {tl : TE} {g : TG} {tb : TS} {D : Ends} {σ : St} {H : Hp} : tFor (iAny K tl) g tb D σ H = tl σ H fun x H1 => ∃ a, x = .ref a ∧ ForA K a g tb D σ H1 := rfl
theorem ForR.by {lo : Int} {n : Nat} {g : TG} {tb : TS} {D : Ends} {σ : St} {H : Hp} (Pv : Nat → St → Hp → Prop) (h0 : Pv 0 σ H)
  (hs : ∀ i σ H, i < n → Pv i σ H → g (.int (lo + i)) σ H fun σ2 H2 => tb { D with nx := Pv (i + 1), ct := Pv (i + 1), bk := D.nx } σ2 H2) (hd : ∀ σ H, Pv n σ H → D.nx σ H) : ForR lo n g tb D σ H := for_range Pv h0 hs hd
theorem ForA.by {K : PySem.W.Frag} {a : Addr} {xs : List V} {g : TG} {tb : TS} {D : Ends} {σ : St} {H : Hp} (hA : SqA K H a xs) (Pv : Nat → St → Hp → Prop) (h0 : Pv 0 σ H) (hl : ∀ i σ H', i ≤ xs.length → Pv i σ H' → Same H H')
  (hs : ∀ i x σ H, xs[i]? = some x → Pv i σ H → g x σ H fun σ2 H2 => tb { D with nx := Pv (i + 1), ct := Pv (i + 1), bk := D.nx } σ2 H2) (hd : ∀ σ H, Pv xs.length σ H → D.nx σ H) : ForA K a g tb D σ H := for_any hA Pv h0 hl hs hd
theorem new_obj {H : Hp} {o : HO} {R : V → Hp → Prop} (h : ∀ p H1, Same H H1 → H1 p = some o → R (.ref p) H1) : ∀ p, H p = none → R (.ref p) (upd H p o) := fun p hp =>
 h p _ (fun b u q => by rw [upd_ne (ne_of_none q hp)]; exact q) upd_same
theorem newS {H H' : Hp} {p : Addr} {o : HO} (h : H p = none) (e : upd H p o = H') : Same H H' := fun b u q => by rw [← e, upd_ne (ne_of_none q h)]; exact q
theorem newE {H H' : Hp} {p : Addr} {o : HO} (e : upd H p o = H') : H' p = some o := by rw [← e, upd_same]
theorem bits_sz {n : Nat} {i : Int} (h : Mth.Sz n i) : Builtin.Int.intBits i ≤ n := by
 unfold Builtin.Int.intBits
 split
 ·exact Nat.zero_le _
 ·rename_i z
  have : i.natAbs.log2 < n := (Nat.log2_lt (by simpa using z)).mpr h
  omega
theorem mulOk {m n : Nat} {i j : Int} (h : Mth.Sz m i) (k : Mth.Sz n j) (hm : m ≤ 2 ^ 20 := by decide) (hn : n ≤ 2 ^ 20 := by decide) : IntMulOk i j := IntMulOk.of_bits (Nat.le_trans (bits_sz h) hm) (Nat.le_trans (bits_sz k) hn)
theorem mulOkR {i j : Int} (h : Mth.Sz 64 j) : IntMulOk i j := IntMulOk.of_right (bits_sz h)
theorem divOk {n : Nat} {j : Int} (h : j ≠ 0) (k : Mth.Sz n j) (hn : n < 9000 := by decide) : DivOk j := ⟨h, Mth.log2_le k hn⟩
theorem len0 : ([] : List V).length ≤ sizeLine := by decide
theorem len2 {a b : V} : [a, b].length ≤ sizeLine := by show 2 ≤ sizeLine; decide
theorem len5 {a b c d e : V} : [a, b, c, d, e].length ≤ sizeLine := by show 5 ≤ sizeLine; decide
theorem divOkL {j : Int} (h : decide (j ≠ 0 ∧ j.natAbs < 2 ^ 64) = true) : DivOk j := by
 have z := of_decide_eq_true h
 exact divOk z.1 (n := 64) z.2
theorem mulOkL {i j : Int} (h : decide (j.natAbs < 2 ^ 64) = true) : IntMulOk i j := by
 have z : j.natAbs < 2 ^ 64 := of_decide_eq_true h
 exact mulOkR z
theorem mulOkL' {i j : Int} (h : decide (i.natAbs < 2 ^ 64) = true) : IntMulOk i j := by
 have z : i.natAbs < 2 ^ 64 := of_decide_eq_true h
 exact IntMulOk.of_left (bits_sz (n := 64) z)
theorem powOkL {i j : Int} (h : decide (0 ≤ j ∧ j ≤ 1000000 ∧ i.natAbs < 2 ^ 64) = true) : CPow i j := by
 have z : 0 ≤ j ∧ j ≤ 1000000 ∧ i.natAbs < 2 ^ 64 := of_decide_eq_true h
 exact z
def FrV (K : PySem.W.Frag) (H : Hp) (v : V) (a b : Int) : Prop := ∃ p, v = .ref p ∧ SqT K H p [.int a, .int b]
theorem FrV.same {K : PySem.W.Frag} {H H' : Hp} {v : V} {a b : Int} (S : Same H H') (h : FrV K H v a b) : FrV K H' v a b := by
 obtain ⟨p, e, q⟩ := h
 exact ⟨p, e, q.same S⟩
theorem FrV.of {K : PySem.W.Frag} {H : Hp} {p : Addr} {a b : Int} (h : H p = some (.tup [.int a, .int b])) : FrV K H (.ref p) a b := ⟨p, rfl, SqT.of h⟩
theorem ixT0 {K : PySem.W.Frag} {H : Hp} {p : Addr} {x : V} {r : List V} {Q : VK} (h : SqT K H p (x :: r)) (q : Q x H) : rIxU K (.ref p) (.int 0) H Q := ⟨_, x, .inr h, atI_nat (j := 0) rfl, q⟩
theorem ixT1 {K : PySem.W.Frag} {H : Hp} {p : Addr} {x y : V} {r : List V} {Q : VK} (h : SqT K H p (x :: y :: r)) (q : Q y H) : rIxU K (.ref p) (.int 1) H Q := ⟨_, y, .inr h, atI_nat (j := 1) rfl, q⟩
theorem ixF0 {K : PySem.W.Frag} {H : Hp} {v : V} {a b : Int} {Q : VK} (h : FrV K H v a b) (q : Q (.int a) H) : rIxU K v (.int 0) H Q := by
 obtain ⟨p, rfl, z⟩ := h
 exact ixT0 z q
theorem ixF1 {K : PySem.W.Frag} {H : Hp} {v : V} {a b : Int} {Q : VK} (h : FrV K H v a b) (q : Q (.int b) H) : rIxU K v (.int 1) H Q := by
 obtain ⟨p, rfl, z⟩ := h
 exact ixT1 z q
theorem FrV.rep {K : PySem.W.Frag} {H : Hp} {v : V} {a b : Int} (h : FrV K H v a b) : Rep K H (.tup [.int a, .int b]) v := by
 obtain ⟨p, rfl, z⟩ := h
 simp only [Rep, RepL]
 exact ⟨p, _, rfl, z, _, _, rfl, rfl, _, _, rfl, rfl, rfl⟩
theorem ixT {K : PySem.W.Frag} {H : Hp} {p : Addr} {xs : List V} {i : Nat} {v : V} {Q : VK} (h : SqT K H p xs) (e : xs[i]? = some v) (q : Q v H) : rIxU K (.ref p) (.int (i : Int)) H Q := ⟨xs, v, .inr h, atI_nat e, q⟩
theorem ixL {K : PySem.W.Frag} {H : Hp} {p : Addr} {xs : List V} {i : Nat} {v : V} {Q : VK} (h : SqL K H p xs) (e : xs[i]? = some v) (q : Q v H) : rIxU K (.ref p) (.int (i : Int)) H Q := ⟨xs, v, .inl h, atI_nat e, q⟩
end L2
set_option Elab.async false
set_option linter.all false
set_option maxRecDepth 100000
set_option maxHeartbeats 4000000
namespace L2
open PySem PySem.Spec PyProof.Rows
section
open PySem.W PySem.Builtin PySem.Builtin.ObjectAttr PySem.Builtin.Getset_descriptor
variable {prog : Program} {w : World} {A : Around} {E : Value → Shared → Prop} {s : Shared} {K : Frag} {x D : Addr} {ox : Obj}
theorem xc_type {M : Model} {h : Heap} (hx : h.get? x = some ox) (hc : ox.cls = .ref D) : Looks M h (typeOf (.ref x)) (.ref D) := hc ▸ (Looks.ld hx).andThen .now
structure ExcC (K : PySem.W.Frag) (D : Addr) : Prop where
 cl : PySem.W.hasDictIn K D = true
 ga : PySem.W.findIn K (.ref D) "__getattribute__" = some (some (.builtin "BaseException.__getattribute__"))
 gh : PySem.W.findIn K (.ref D) "__getattr__" = some none
 ca : PySem.W.findIn K (.ref D) "__class__" = some (some (.builtin "object.__class__"))
 cg : PySem.W.specialIn K (.builtin "object.__class__") "__get__" = some (some (.builtin "getset_descriptor.__get__"))
 ct : PySem.W.takesIn K (.builtin "object.__class__") = some true
 mo : PySem.W.mroIn K D (.type "object") = some true
 mb : PySem.W.mroIn K D (.type "BaseException") = some true
theorem xc_find {M : Model} {h : Heap} (X : K.In h) (c : ExcC K D) : Looks M h (find (.ref x) (.ref D) "__class__") (.bind (.builtin "getset_descriptor.__get__") (.builtin "object.__class__")) := by
 have L1 := looks_findIn (M := M) X c.ca
 have L2 : Looks M h (getOf (some (.builtin "object.__class__"))) (some (.builtin "getset_descriptor.__get__")) := looks_specialIn X c.cg
 have L3 := looks_takesIn (M := M) X c.ct
 refine L1.andThen (L2.andThen ((show Looks M h (dataDescriptor? (some (.builtin "object.__class__")) (some (.builtin "getset_descriptor.__get__"))) (some (.builtin "getset_descriptor.__get__", .builtin "object.__class__")) from L3.andThen .now).andThen (Looks.tag .now)))
theorem xc_get {tp : Value} {R : Result → Shared → Prop} (X : K.In s.heap) (hx : s.heap.get? x = some ox) (hc : ox.cls = .ref D) (c : ExcC K D) (q : R (.ok (.ret (.ref D))) s) :
  codeAny (model prog w) A (.call (.builtin "getset_descriptor.__get__") ⟨[.builtin "object.__class__", .ref x, tp], []⟩) R s := by
 obtain ⟨hh, gg, dw, tt, oo⟩ := s
 have T0 := xc_type (M := model prog w) hx hc
 have T1 := looks_mroIn (M := model prog w) X c.mo
 refine codeAny_call_builtin (KF.slot_gs.plain) (KF.entry_gs) (KF.slot_gs.check _ _ _ _ _ _ _ _ (KF.type_class) (KF.args_gs _ _ _) ?_)
 (unfold Builtin.«getset_descriptor.__get__»; unfold descrGet)
 (rw [dga_obj]; refine wpAny_bind (wpAny_pure ?_))
 (unfold descrGetter; unfold descrCheckInstance; unfold descrNameAndClass; unfold isInstance)
 (simp only [KF.owner_class]; repeat lk)
 refine And.intro (Code.quiet_builtin _ (by decide +kernel)) (codeAny_builtin (KF.entry_class) ?_)
 (unfold Builtin.«object.__class__»; unfold shownTypeOf; repeat lk)
 exact q
theorem xc_attr {Q : Option Value → Shared → Prop} (X : K.In s.heap) (hx : s.heap.get? x = some ox) (hc : ox.cls = .ref D) (c : ExcC K D) (q : Q (some (.ref D)) { s with toks := s.toks + 1 }) :
  wpAny (model prog w) A (getAttr? (.ref x) "__class__") Q E s := by
 obtain ⟨hh, gg, dw, tt, oo⟩ := s
 have T0 := xc_type (M := model prog w) hx hc
 have T1 := looks_findIn (M := model prog w) X c.ga
 have T2 := looks_findIn (M := model prog w) X c.gh
 have T3 := xc_find (M := model prog w) (x := x) X c
 have T4 := looks_mroIn (M := model prog w) X c.mb
 have f3 : bindSpecial (.builtin "BaseException.__getattribute__") (.ref x) = pure (.builtin "BaseException.__getattribute__", [.ref x]) := by kernel_rfl
 unfold getAttr? getAttrBy? getAttrBy
 refine wpAny_bind (wpAny_mkText (wpAny_bind (wpAny_attempt (wpAny_holding (wpAny_bind (T0.at (wpAny_bind (T1.at ?_))))))))
 have e2 : (onTheHeap (Value.ref D) && Value.builtin "BaseException.__getattribute__" == Value.builtin "object.__getattribute__") = false := Bool.and_eq_false_iff.mpr (.inr (by decide +kernel))
 show wpAny _ _ (if (onTheHeap (Value.ref D) && Value.builtin "BaseException.__getattribute__" == Value.builtin "object.__getattribute__") = true then _ else getAttrByItsOwn _ _ _ _ _ _) _ _ _
 rw [if_neg (by rw [e2]; decide)]
 unfold getAttrByItsOwn hookBefore
 refine wpAny_bind ?_
 rw [if_pos (show onTheHeap (Value.ref D) = true from rfl)]
 refine T2.at ?_
 refine wpAny_bind (wpAny_attempt (wpAny_holding ?_))
 unfold callGetattribute boundAndCalled
 rw [if_neg (by decide), f3]
 refine wpAny_bind (wpAny_pure ?_)
 refine wpAny_call (codeAny_call_builtin (by decide +kernel) F.entry_bexc_ga ?_)
 have bk : builtinKind "BaseException.__getattribute__" = some .slot := by decide +kernel
 have bs : splitId "BaseException.__getattribute__" = some ("BaseException", "__getattribute__") := by decide +kernel
 have ba := F.args_bexc_ga (.ref x) (.str "__class__" tt)
 (simp only [checkBuiltinCall, bk, bs]; refine wpAny_bind ?_)
 unfold isInstance
 repeat (first | lk | wp_step)
 refine wpAny_run (xc_get X hx hc c ?_)
 repeat (first | lk | wp_step)
 exact q
theorem kitx_exc (c : ExcC K D) : KitX K (.ref x) (.ref D) (fun h => ∃ ox, h.get? x = some ox ∧ ox.cls = .ref D) where
 ty := fun _ _ _ ⟨ox, hx, hc⟩ => xc_type hx hc
 it := fun _ _ X _ => isType_of X c.cl
 ne := fun h tp dd its n sl X htp => by
  refine Bool.eq_false_iff.mpr fun q => ?_
  obtain rfl : D = tp := Value.ref.inj (beq_iff_eq.mp q)
  obtain ⟨cd, hcd, _⟩ := any_some c.cl
  (unfold clsIn at hcd; split at hcd)
  next ho => have z := X _ _ ho; rw [htp] at z; cases z
  next => cases hcd
 ca := fun X ⟨ox, hx, hc⟩ q => xc_attr X hx hc c q
end
section
variable {X : Cx}
def clsV : V → Value
 | .ty T => .type T
 | .ref C => .ref C
 | _ => .none
inductive TyU (K : PySem.W.Frag) (H : Hp) : V → Value → Prop where
 | of {x : V} {t : Value} (h : TyOf K H x t) : TyU K H x t
 | sql {a : Addr} {xs : List V} (h : SqL K H a xs) : TyU K H (.ref a) (.type "list")
 | sqt {a : Addr} {xs : List V} (h : SqT K H a xs) : TyU K H (.ref a) (.type "tuple")
 | exc {a C : Addr} (e : H a = some (ExcO a C)) (c : ExcC K C) : TyU K H (.ref a) (.ref C)
def rIsiC (K : PySem.W.Frag) : List V → Hp → VK → Prop := fun xs H Q => ∃ x c t b, xs = [x, c] ∧ ((∃ T, c = .ty T) ∨ ∃ C, c = .ref C) ∧ TyU K H x t ∧ PySem.W.kitOne K t (clsV c) = some b ∧ Q (.bl b) H
theorem call_isinstanceC : CallR X (.builtin "isinstance") (rIsiC X.K) := fun pins s σ H xs us Q I r q => by
 obtain ⟨x, c, t, b, rfl, hc, ty, e, q⟩ := q
 obtain ⟨u, cv, rfl, ru, rc⟩ := vals2 r
 have ec : cv = clsV c := by
  rcases hc with ⟨T, rfl⟩ | ⟨C, rfl⟩
  ·exact rc
  ·exact rc
 subst ec
 have fin : ∀ tk, EP X pins σ Q (.bool b) { s with toks := tk } := fun tk => ⟨V.bl _, H, I.tok tk, rfl, q⟩
 cases ty with
 | of h => exact isinst_ok I ru h e fin
 | @sql a xs h =>
  cases (show u = Value.ref a from ru)
  obtain ⟨its, _, p, _⟩ := I.list h
  obtain ⟨o, _, h1, h2, _⟩ := p
  exact PySem.W.kia_one PySem.W.kitx_list I.kIn ⟨o, h1, h2⟩ e (fun z => nomatch z) fin
 | @sqt a xs h =>
  cases (show u = Value.ref a from ru)
  obtain ⟨its, _, p, _⟩ := I.tuple h
  obtain ⟨o, h1, h2, _⟩ := p
  exact PySem.W.kia_one PySem.W.kitx_tuple I.kIn ⟨o, h1, h2⟩ e (fun z => nomatch z) fin
 | @exc a C ea cc =>
  cases (show u = Value.ref a from ru)
  have ok := I.hok a _ ea
  obtain ⟨⟨ob, vs, h1, h2, _⟩, _⟩ := ok
  exact PySem.W.kia_one (kitx_exc cc) I.kIn ⟨ob, h1, h2⟩ e (fun z => nomatch z) fin
def tChain3 (r r' r'' : R2) (ta tb tc td : TE) : TE := fun σ H Q => ta σ H fun x H1 => tb σ H1 fun y H2 => r x y H2 fun z H3 => ∃ k, z = .bl k ∧
 (if k = true then tc σ H3 fun w' H4 => r' y w' H4 fun z' H5 => ∃ k', z' = .bl k' ∧ (if k' = true then td σ H5 fun u' H6 => r'' w' u' H6 Q else Q (.bl false) H5) else Q (.bl false) H3)
def rFmt : V → Hp → VK → Prop := fun x H Q => match x with
 | .int i => i.natAbs.log2 < 1920 ∧ Q (.str (toString i)) H
 | _ => False
def TJ := St → Hp → Str → VK → Prop
def jNil : TJ := fun _ H acc Q => acc.length ≤ sizeLine ∧ Q (.str acc) H
def jCons (te : TE) (t : TJ) : TJ := fun σ H acc Q => te σ H fun x H1 => ∃ y, x = .str y ∧ (acc ++ y).length ≤ sizeLine ∧ t σ H1 (acc ++ y) Q
def tFstr (t : TJ) : TE := fun σ H Q => t σ H Str.empty Q
def rStrI : List V → Hp → VK → Prop := fun xs H Q => match xs with
 | [.int i] => i.natAbs.log2 < 1920 ∧ Q (.str (toString i)) H
 | _ => False
end
end L2
set_option Elab.async false
set_option linter.all false
set_option maxRecDepth 100000
set_option maxHeartbeats 4000000
namespace L2
open PySem PySem.Spec PyProof.Rows
section
variable {En : Ends} {σ : St} {H : Hp} {Q : VK} {t u : TS} {ta tb te tc td : TE} {g : TG} {gs : TGs} {tA : TA} {E : XK} {sp : Sp} {K : PySem.W.Frag}
theorem y82y {r : V → Option Int → Option Int → Hp → VK → Prop} {tl th : TO} : tSl r te tl th σ H Q = te σ H fun x H1 => tl σ H1 fun l H2 => th σ H2 fun u H3 => r x l u H3 Q := rfl
theorem y7ay {R : Option Int → Hp → Prop} : tPart te σ H R = te σ H fun x H1 => ∃ i, x = .int i ∧ R (some i) H1 := rfl
theorem y71y {R : Option Int → Hp → Prop} : tNoPart σ H R = R none H := rfl
theorem y30y {r r' : R2} : tChain r r' ta tb tc σ H Q = ta σ H fun x H1 => tb σ H1 fun y H2 => r x y H2 fun z H3 => ∃ k, z = .bl k ∧ (if k = true then tc σ H3 fun w' H4 => r' y w' H4 Q else Q (.bl false) H3) := rfl
theorem y31y {r r' r'' : R2} : tChain3 r r' r'' ta tb tc td σ H Q = ta σ H fun x H1 => tb σ H1 fun y H2 => r x y H2 fun z H3 => ∃ k, z = .bl k ∧
 (if k = true then tc σ H3 fun w' H4 => r' y w' H4 fun z' H5 => ∃ k', z' = .bl k' ∧ (if k' = true then td σ H5 fun u' H6 => r'' w' u' H6 Q else Q (.bl false) H5) else Q (.bl false) H3) := rfl
theorem y52y {tj : TJ} : tFstr tj σ H Q = tj σ H Str.empty Q := rfl
theorem y60y {tj : TJ} {acc : Str} : jCons te tj σ H acc Q = te σ H fun x H1 => ∃ y, x = .str y ∧ (acc ++ y).length ≤ sizeLine ∧ tj σ H1 (acc ++ y) Q := rfl
theorem y61y {acc : Str} : jNil σ H acc Q = (acc.length ≤ sizeLine ∧ Q (.str acc) H) := rfl
theorem y4by {i : Int} : rFmt (.int i) H Q = (i.natAbs.log2 < 1920 ∧ Q (.str (toString i)) H) := rfl
theorem y83y {i : Int} : rStrI [.int i] H Q = (i.natAbs.log2 < 1920 ∧ Q (.str (toString i)) H) := rfl
theorem y86y {D0 : Addr} {i : Nat} {tx : St → Hp → VK → XK → Prop} {ts : TS} : tTryAs K D0 i tx ts En σ H = tx σ H (fun _ H1 => En.nx σ H1) fun cls _ H1 => ∃ C, cls = .ref C ∧ Catches K C D0 ∧
 ∀ ea, H1 ea = none → ts { nx := fun σ' H' => En.nx (σ'.set i none) H', rt := En.rt, bk := fun σ' H' => En.bk (σ'.set i none) H', ct := fun σ' H' => En.ct (σ'.set i none) H' } (σ.set i (some (.ref ea))) (upd H1 ea (ExcO ea C)) := rfl
theorem y8fy {dvs : List V} {Qx : VK} {Ex : XK} : xCall sp dvs tA σ H Qx Ex = tA σ H fun vs H1 => sp (vs ++ dvs) H1 Qx Ex := rfl
theorem y7cy {C : Addr} : tRaise E C tA En σ H = tA σ H fun vs H1 => vs.length ≤ sizeLine ∧ E (.ref C) none H1 := rfl
theorem isiX {a C : Addr} {c : V} {b : Bool} (e : H a = some (ExcO a C)) (x : ExcC K C) (hc : (∃ T, c = .ty T) ∨ ∃ C, c = .ref C) (k : PySem.W.kitOne K (.ref C) (clsV c) = some b) (q : Q (.bl b) H) : rIsiC K [.ref a, c] H Q :=
 ⟨_, _, _, b, rfl, hc, .exc e x, k, q⟩
theorem isiXr {a C c : Addr} {b : Bool} (e : H a = some (ExcO a C)) (x : ExcC K C) (k : PySem.W.kitOne K (.ref C) (.ref c) = some b) (q : Q (.bl b) H) : rIsiC K [.ref a, .ref c] H Q := isiX e x (.inr ⟨_, rfl⟩) k q
theorem isiXt {a C : Addr} {T : String} {b : Bool} (e : H a = some (ExcO a C)) (x : ExcC K C) (k : PySem.W.kitOne K (.ref C) (.type T) = some b) (q : Q (.bl b) H) : rIsiC K [.ref a, .ty T] H Q := isiX e x (.inl ⟨_, rfl⟩) k q
theorem repL_bl : ∀ bs : List Bool, RepL K H (bs.map D.bl) (bs.map V.bl)
 | [] => by simp only [List.map_nil, RepL]
 | b :: bs => by simp only [List.map_cons, RepL, Rep]; exact ⟨_, _, rfl, rfl, repL_bl bs⟩
theorem eqL_bl : ∀ as bs : List Bool, eqL (as.map D.bl) (bs.map D.bl) = decide (as = bs)
 | [], [] => by simp [eqL]
 | [], _ :: _ => by simp [eqL]
 | _ :: _, [] => by simp [eqL]
 | a :: as, b :: bs => by
  simp only [List.map_cons, eqL, eqD, eqL_bl as bs, List.cons.injEq]
  cases a <;> cases b <;> simp
theorem depL_bl : ∀ bs : List Bool, depL (bs.map D.bl) = 0
 | [] => by simp [depL]
 | b :: bs => by simp [depL, depD, depL_bl bs]
theorem eqBL {l m : Addr} {as bs : List Bool} (h : H l = some (.lst (as.map V.bl))) (g : H m = some (.lst (bs.map V.bl))) (q : Q (.bl (decide (as = bs))) H) : rEqU K (.ref l) (.ref m) H Q := by
 refine ⟨.lst (as.map D.bl), .lst (bs.map D.bl), ?_, ?_, ?_, rfl, ?_⟩
 ·simp only [Rep]; exact ⟨_, _, rfl, SqL.of h, repL_bl as⟩
 ·simp only [Rep]; exact ⟨_, _, rfl, SqL.of g, repL_bl bs⟩
 ·simp only [depD, depL_bl]; decide
 ·simp only [eqD, eqL_bl]; exact q
theorem pe_isiC {X : Cx} {K : PySem.W.Frag} (hK : X.K = K) {x : Str} {p pos : Pos} {e : Expr} {es : List Expr} {t : TA} (hg : Gl X x) (hm : X.mg x = none) (hv : bootBuiltins x = some (.builtin "isinstance")) (ha : PA X (e :: es) t) (hn : x ≠ "__name__" := by decide)
  (hdb : (x == ("__debug__" : Str)) = false := by decide) (he : starEach (e :: es) X.env = (false, eval e X.env) :: starEach es X.env := by rfl) (hpl : (backTo pos (starEach es X.env)).any (·.1) = false := by rfl) :
  PE X (.Call (.Name x p) (e :: es) [] pos) (tCB (rIsiC K) t) := hK ▸ pe_callB call_isinstanceC hg hm hv ha hn hdb he hpl
end
end L2
set_option Elab.async false
set_option linter.all false
set_option maxRecDepth 100000
set_option maxHeartbeats 4000000
namespace L2
open PySem PySem.Spec PyProof.Rows
def Its (x : Str) : It := ⟨fun i _ => i < x.cps.size, fun i H v H' => H' = H ∧ ∃ c, x.cps[i]? = some c ∧ v = .str ⟨#[c]⟩, fun i _ => i = x.cps.size⟩
theorem turn_walk {P : Program} {w : World} {K : PySem.W.Frag} {tg : Expr} {it : Addr} {x : Str} {n : String} {St : Nat → Heap → Prop} (hn : ["enumerate", "zip", "dict_itemiterator", "dict_reverseitemiterator", "odict_iterator", "itertools.zip_longest", "itertools.pairwise"].contains n = false)
  (hst : ∀ i h, St i h → ∃ o vs, h.get? it = some o ∧ o.cls = .type n ∧ o.data = .fields vs) (mk : ∀ A : Around, A.handled = none → Walks P w A it [it] [it] x.cps.size (SignAt x) St)
  (hself : ∀ (A : Around) (i : Nat) (s : Shared) (Q : Value → Shared → Prop) (E : Value → Shared → Prop), St i s.heap → Q (.ref it) s → wpAny (model P w) A (pyIter (.ref it)) Q E s) : Turn P w K tg (Its x) [it] it St where
 mem := by simp
 obj := fun i h st b hb => by
  obtain rfl : b = it := by simpa using hb
  obtain ⟨o, vs, e, _, d⟩ := hst i h st
  exact ⟨o, e, fun v z => by rw [d] at z; cases z⟩
 keep := fun i h h' st k => (mk {} rfl).frame i h h' st fun b hb o e => k b hb o e
 item := by
  intro X hP hw hK hc i pins s σ H E I hf st hg
  subst hP hw hK
  obtain ⟨f0, f1, f2, f3, f4, f5⟩ := hf it (by simp)
  refine (mk X.A (I.ok.hd hc)).item i s _ _ hg st fun v h' tk hv st' kk => ?_
  obtain ⟨c, u, hc', rfl⟩ := hv
  have I1 : Inv X pins σ H { s with heap := h', toks := tk } := I.turned (fun b o hb e => kk b o (by simpa using hb) e) f0 f1 f3 f4 f5
  obtain ⟨o, vs, e1, e2, e3⟩ := hst _ _ st'
  exact ⟨_, rfl, go_of (s := { s with heap := h', toks := tk }) e1 e2 e3 hn ⟨.str ⟨#[c]⟩, H, I1, ⟨u, rfl⟩, ⟨rfl, c, hc', rfl⟩, st', fun b hb => (hf b hb).1⟩⟩
 done := by
  intro X hP hw hK hc i pins s σ H E I hf st hg
  subst hP hw hK
  obtain ⟨f0, f1, f2, f3, f4, f5⟩ := hf it (by simp)
  have hg' : i = x.cps.size := hg
  subst hg'
  exact (mk X.A (I.ok.hd hc)).done s _ _ st fun h' tk kk => ⟨rfl, I.turned (fun b o hb e => kk b o (by simpa using hb) e) f0 f1 f3 f4 f5⟩
 self := hself
section
variable {X : Cx} {tg : Expr}
def iStr (tl : TE) : TI := fun σ H R => tl σ H fun x H1 => ∃ z, x = .str z ∧ R (Its z) H1
theorem pi_str {l : Expr} {tl : TE} (hl : PE X l tl) : PI X tg l (iStr tl) := fun pins s σ H R I h => by
 refine thn (hl pins s σ H _ I h) fun v s1 ⟨x, H1, I1, r1, z, ex, q⟩ => ?_
 subst ex
 obtain ⟨t, rfl⟩ := r1
 have key : ∀ (n : String), (n = "str_ascii_iterator" ∨ n = "str_iterator") → PIE X pins σ tg R (.ref s1.heap.objs.size) { s1 with heap := s1.heap.push { cls := .type n, data := .fields #[.str z t, .int 0 0] } } := fun n hn => by
  have hT : Turn X.prog X.w X.K tg (Its z) [s1.heap.objs.size] s1.heap.objs.size (fun i h => h.IsStrIter s1.heap.objs.size n z t i) := by
   rcases hn with rfl | rfl
   ·exact turn_walk (n := "str_ascii_iterator") (by decide) (fun i h st => let ⟨o, a, b, c⟩ := st; ⟨o, _, a, b, c⟩) (fun A hA => Walks.strAscii hA _ z t) fun A i s Q E st q => wpAny_pyIter_striter_ascii st q
   ·exact turn_walk (n := "str_iterator") (by decide) (fun i h st => let ⟨o, a, b, c⟩ := st; ⟨o, _, a, b, c⟩) (fun A hA => Walks.strWide hA _ z t) fun A i s Q E st q => wpAny_pyIter_striter_wide st q
  refine ⟨s1.heap.objs.size, [s1.heap.objs.size], _, _, H1, rfl, I1.kept (t' := s1.toks) fun b o e => Heap.get?_push_of_some _ e, hT, ⟨_, Heap.get?_push_size _ rfl, rfl, rfl⟩, fun b hb => ?_, q⟩
  obtain rfl : b = s1.heap.objs.size := by simpa using hb
  exact I1.fpOk (Nat.le_refl _) (I1.hok.fresh (Nat.le_refl _))
 cases ha : z.cps.all (· < 128)
 ·exact wpAny_pyIter_wide ha (key _ (.inr rfl))
 ·exact wpAny_pyIter_ascii ha (key _ (.inl rfl))
end
abbrev Cx.inc (X : Cx) (N' : List Str) (scope : Scope) (cl : List (Str × Addr)) (fp : List Addr) (s2 : Shared) (H2 : Hp) (C : Addr) : Cx :=
 { X with N := N', s₀ := s2, H₀ := H2, env := compEnvC scope cl C X.env, outer := X.stack, ex := fp, fn := fun _ => false, pn := [], xe := fun _ _ => False }
section
variable {X : Cx} {pins : List (Addr × Obj)} {σ : St} {H2 : Hp} {s2 : Shared} {N' : List Str} {scope : Scope} {cl : List (Str × Addr)} {fp : List Addr} {C : Addr}
theorem Inv.incOk (I : Inv X pins σ H2 s2) (hf : ∀ b ∈ fp, FpOk X pins H2 b) (hfp : ∀ b ∈ fp, b < s2.heap.objs.size) (hk : scope.kind = .function) (hC : s2.heap.objs.size ≤ C) (hcl : ∀ x c, cl.lookup x = some c → X.env.cells.lookup x = some c)
  (hhas : ∀ y, ((relabel scope X.env).names.lookup y = some .cell ∨ (relabel scope X.env).names.lookup y = some .free) → ∃ c, cl.lookup y = some c) : (X.inc N' scope cl fp s2 H2 C).Ok where
 mod := I.ok.mod
 kind := hk
 glob := I.ok.glob
 blt := I.ok.blt
 above := hC
 inj := fun x y c h1 h2 => I.ok.inj x y c (hcl x c h1) (hcl y c h2)
 has := fun y hy => hhas y hy
 cab := fun x c h => by cases h
 hd := I.ok.hd
 frames := I.ok.frames
 stk := .inl rfl
 exf := fun b hb => ⟨Nat.ne_of_lt (Nat.lt_of_lt_of_le (hfp b hb) hC), fun x c e => (hf b hb).2.2.2.2.1 x c (hcl x c e)⟩
 bs := I.bs
 bsz := Nat.le_trans I.ok.bsz I.sz
 noex := fun b o e hb => by
  rcases (hf b hb).2.2.2.1 with z | z
  ·exact I.ok.noex b o e z
  ·exact absurd (Nat.lt_of_lt_of_le (Nat.lt_of_lt_of_le (Heap.lt_size e) I.ok.bsz) z) (Nat.lt_irrefl _)
 exfs := fun b hb hm => by
  rcases List.mem_cons.mp (I.stkSub b hm) with z | z
  ·exact (hf b hb).2.1 z
  ·exact (hf b hb).2.2.1 z
 funs := I.stack
 frf := I.stkFree
def capsAt (cs : List (Nat × Str)) (σ : St) : St := cs.map fun p => (σ[p.1]?).join
theorem Inv.capsLoc {s4 : Shared} {m : Str → Option Value} {own : List Str} {cs : List (Nat × Str)} (I : Inv X pins σ H2 s2) (ok : (X.inc (own ++ cs.map (·.2)) scope cl fp s2 H2 C).Ok) (kept : ∀ c v, (∃ x, cl.lookup x = some c) → s2.heap.IsCell c v → s4.heap.IsCell c v)
  (hcl : ∀ x c, cl.lookup x = some c → X.env.cells.lookup x = some c) (hcs : ∀ p ∈ cs, X.N[p.1]? = some p.2 ∧ X.env.scope.names.lookup p.2 = some .cell ∧ (relabel scope X.env).names.lookup p.2 = some .cell) :
  ∀ (i : Nat) (x : Str) (v : V), (own ++ cs.map (·.2))[i]? = some x → (List.replicate own.length none ++ capsAt cs σ)[i]? = some (some v) → ∃ u, RelV v u ∧ Look (compEnvC scope cl C X.env) s4.heap m x u := fun i x v h1 h2 => by
  by_cases hi : i < own.length
  ·rw [List.getElem?_append_left (by simpa using hi), List.getElem?_replicate, if_pos hi] at h2
   cases h2
  ·have h2' : (capsAt cs σ)[i - own.length]? = some (some v) := by rw [List.getElem?_append_right (by simp; omega)] at h2; simpa using h2
   have h1' : (cs.map (·.2))[i - own.length]? = some x := by
    rwa [List.getElem?_append_right (by omega)] at h1
   unfold capsAt at h2'
   rw [List.getElem?_map] at h1' h2'
   cases q : cs[i - own.length]? with
   | none => rw [q] at h1'; cases h1'
   | some p =>
    rw [q] at h1' h2'
    obtain rfl : p.2 = x := by simpa using h1'
    have e2 : (σ[p.1]?).join = some v := by simpa using h2'
    have e2' : σ[p.1]? = some (some v) := by
     cases z : σ[p.1]? with
     | none => rw [z] at e2; cases e2
     | some o => rw [z] at e2; exact congrArg some e2
    obtain ⟨c1, c2, c3⟩ := hcs p (List.mem_of_getElem? q)
    obtain ⟨m0, _, hl⟩ := I.loc
    obtain ⟨u, ru, lk⟩ := hl p.1 p.2 v c1 e2' (.inr (.inl c2))
    refine ⟨u, ru, .inr ⟨.inl c3, ?_⟩⟩
    obtain ⟨c, hc⟩ := ok.has p.2 (.inl c3)
    refine ⟨c, hc, ?_⟩
    rcases lk with ⟨k, _⟩ | ⟨_, c', e', hcell⟩
    ·have k : X.env.scope.names.lookup p.2 = some .local := k
     rw [c2] at k; cases k
    ·rw [hcl _ _ hc] at e'
     cases e'
     exact kept _ _ ⟨_, hc⟩ hcell
theorem Inv.incStart {s4 : Shared} {m : Str → Option Value} {own : List Str} {cs : List (Nat × Str)} (I : Inv X pins σ H2 s2) (ok : (X.inc (own ++ cs.map (·.2)) scope cl fp s2 H2 C).Ok) (kept : ∀ b o, s2.heap.get? b = some o → s4.heap.get? b = some o) (hos : s4.os = s2.os) (hg : s4.gens = s2.gens) (hm : s4.heap.Ns C m)
  (hC : s2.heap.objs.size ≤ C) (hcl : ∀ x c, cl.lookup x = some c → X.env.cells.lookup x = some c)
  (hcs : ∀ p ∈ cs, X.N[p.1]? = some p.2 ∧ X.env.scope.names.lookup p.2 = some .cell ∧ (relabel scope X.env).names.lookup p.2 = some .cell) :
  Inv (X.inc (own ++ cs.map (·.2)) scope cl fp s2 H2 C) [] (List.replicate own.length none ++ capsAt cs σ) H2 s4 where
 ok := ok
 os := hos
 bare := by rw [hg]; exact I.bare
 base := Un.kept kept
 loc := ⟨m, hm, fun i x v h1 h2 _ => I.capsLoc (m := m) ok (fun c v _ ⟨o, ho, hd⟩ => ⟨o, kept _ _ ho, hd⟩) hcl hcs i x v h1 h2⟩
 cell := fun x c e => by
  obtain ⟨v, o, ho, hd⟩ := I.cell x c (hcl x c e)
  exact ⟨v, o, kept _ _ ho, hd⟩
 free := I.hok.fresh hC
 freeC := fun x c e => I.freeC x c (hcl x c e)
 pin := fun p hp => by simp at hp
 hok := I.hok.kept kept
 len := by simp [capsAt]
theorem Inv.incAgain {s' : Shared} {H' : Hp} {σ' : St} {pl : List (Addr × Obj)} {own : List Str} {cs : List (Nat × Str)} (I : Inv X pins σ H2 s2) (J : Inv (X.inc (own ++ cs.map (·.2)) scope cl fp s2 H2 C) pl σ' H' s')
  (hf : ∀ b ∈ fp, FpOk X pins H2 b) (hcl : ∀ x c, cl.lookup x = some c → X.env.cells.lookup x = some c) (hcs : ∀ p ∈ cs, X.N[p.1]? = some p.2 ∧ X.env.scope.names.lookup p.2 = some .cell ∧ (relabel scope X.env).names.lookup p.2 = some .cell) :
  Inv (X.inc (own ++ cs.map (·.2)) scope cl fp s2 H2 C) [] (List.replicate own.length none ++ capsAt cs σ) H' s' where
 ok := J.ok
 os := J.os
 bare := J.bare
 base := J.base
 loc := by
  obtain ⟨m, hm, _⟩ := J.loc
  refine ⟨m, hm, fun i x v h1 h2 _ => I.capsLoc (m := m) J.ok (fun c v ⟨x, hx⟩ ⟨o, ho, hd⟩ => ?_) hcl hcs i x v h1 h2⟩
  have nf : c ∉ fp := fun z => (hf c z).2.2.2.2.1 x c (hcl x c hx) rfl
  by_cases hm : c ∈ frs X.stack
  ·obtain ⟨sl, z⟩ := J.base.slot c o ho (I.freeC x c (hcl x c hx)) hm nf
   exact ⟨_, z, hd⟩
  ·exact ⟨o, J.base.keep c o ho (I.freeC x c (hcl x c hx)) hm nf, hd⟩
 cell := J.cell
 free := J.free
 freeC := J.freeC
 pin := fun p hp => by simp at hp
 hok := J.hok
 len := by simp [capsAt]
end
section
variable {prog : Program} {w : World} {A : Around} {E : Value → Shared → Prop} {R : Result → Shared → Prop} {s : Shared}
theorem comp_turns {elt target iter : Expr} {scope : Scope} {pos : Pos} {it acc : Value} {env : Env} (J : Nat → Shared → Prop)
  (turn : ∀ n s, J n s → wpAny (model prog w) A (pyNext it) (fun r s1 => match r with
   | none => R (.ok .next) s1
   | some v => wpAny (model prog w) A (letOwnedTupleGo target it v) (fun _ s2 => wpAny (model prog w) A (assign target env v) (fun _ s3 => wpAny (model prog w) A (eval elt env) (fun x s4 =>
     wpAny (model prog w) A (call (.builtin "list.append") [acc, x]) (fun _ s5 => ∃ m, m < n ∧ J m s5) (fun _ _ => False) s4) (fun _ _ => False) s3) (fun _ _ => False) s2) (fun _ _ => False) s1) (fun _ _ => False) s) (n : Nat) (h : J n s) :
  codeAny (model prog w) A (.compLoop (.ListComp elt [⟨target, iter, [], 0⟩] scope pos) 0 it acc env) R s := by
 refine codeAny_loop rfl J (fun n s hJ => ?_) n h
 show wpAny _ A ((compTurn (.ListComp elt [⟨target, iter, [], 0⟩] scope pos) 0 it acc env).onRaise (fun y => do noteFrame y env; theTreesLotGoes y)) _ _ s
 (refine wpAny_noted ?_; rw [compTurn_list])
 refine wpAny_bind (wpAny_standAt (wpAny_bind (wpAny_mono (turn n s hJ) (fun r s1 q1 => ?_) fun _ _ z => z.elim)))
 cases r with
 | none => exact wpAny_pure q1
 | some v =>
  refine wpAny_bind (wpAny_mono q1 (fun _ s2 q2 => wpAny_bind (wpAny_mono q2 (fun _ s3 q3 => ?_) fun _ _ z => z.elim)) fun _ _ z => z.elim)
  refine wpAny_bind (wpAny_tests_nil ?_)
  exact wpAny_bind (wpAny_bind (wpAny_mono q3 (fun x s4 q4 => (wpAny_bind (wpAny_mono q4 (fun _ s5 q5 => (wpAny_pure (wpAny_pure ⟨rfl, q5⟩))) fun _ _ z => z.elim))) fun _ _ z => z.elim))
end
def tComp (k : Nat) (cs : List (Nat × Str)) (wi : TI) (g : TG) (te : TE) : TE := fun σ H Q => wi σ H fun J H1 => ∃ W : Nat → Nat → List V → Hp → Prop, (∃ m, W 0 m [] H1) ∧ ∀ i m ys H2, W i m ys H2 → ys.length ≤ sizeLine ∧
  ((J.stop i H2 ∧ ∀ p, H2 p = none → Q (.ref p) (upd H2 p (.lst ys))) ∨
   (J.go i H2 ∧ ∀ x H3, J.yld i H2 x H3 → g x (List.replicate k none ++ capsAt cs σ) H3 fun σ4 H4 => te σ4 H4 fun y H5 => ∃ m', m' < m ∧ W (i + 1) m' (ys ++ [y]) H5))
theorem lstP {us : List Value} {v : Value} : (us.toArray.push v) = (us ++ [v]).toArray := by simp
section
variable {X : Cx} {tg : Expr}
theorem pe_comp {iter elt : Expr} {scope : Scope} {pos : Pos} {own : List Str} {cl : List (Str × Addr)} {cs : List (Nat × Str)} {wi : TI} {g : TG} {te : TE} (hc : X.calm = true) (hi : PI X tg iter wi)
  (hg : ∀ fp s2 H2 C, PG (X.inc (own ++ cs.map (·.2)) scope cl fp s2 H2 C) tg g) (he : ∀ fp s2 H2 C, PE (X.inc (own ++ cs.map (·.2)) scope cl fp s2 H2 C) elt te)
  (hclos : closureFor scope X.env = pure cl) (hcell : ∀ y ∈ scope.names, y.2 ≠ .cell) (hkind : scope.kind = .function) (hnames : ∀ y ∈ scope.names, y.2 = .local → scope.names.lookup y.1 = some .local)
  (hcl : ∀ x c, cl.lookup x = some c → X.env.cells.lookup x = some c) (hhas : ∀ y, ((relabel scope X.env).names.lookup y = some .cell ∨ (relabel scope X.env).names.lookup y = some .free) → ∃ c, cl.lookup y = some c)
  (hcs : ∀ p ∈ cs, X.N[p.1]? = some p.2 ∧ X.env.scope.names.lookup p.2 = some .cell ∧ (relabel scope X.env).names.lookup p.2 = some .cell)
  (hs : ∀ x, foldedSetIterable iter X.env x = pure x := by intro _; rfl) : PE X (.ListComp elt [⟨tg, iter, [], 0⟩] scope pos) (tComp own.length cs wi g te) := by
 intro pins s σ H Q I h
 rw [eval_ListComp]
 refine wpAny_comprehension_free (use := none) rfl hs hclos hkind hnames (thn (hi pins s σ H _ I h) fun v s1 h1 => thn h1 fun itv s2 h2 => ?_)
 obtain ⟨it, fp, tn, J, H2, rfl, I2, T, st2, f2, W, ⟨m0, w0⟩, turn⟩ := h2
 have hfp : ∀ b ∈ fp, b < s2.heap.objs.size := fun b hb => by
  obtain ⟨o, e, _⟩ := T.obj _ _ st2 b hb
  exact Heap.lt_size e
 refine wpAny_newObj_type (wpAny_newFunctionEnv hcell (by intro y hy; simp at hy) (fun h4 hns4 hsb4 => ?_) hkind)
 dsimp only at hns4 hsb4 ⊢
 generalize hH3 : s2.heap.push { cls := .type "list", dict := none, data := .seq ([] : List Value).toArray } = H3 at hns4 hsb4 ⊢
 have hCs : H3.objs.size = s2.heap.objs.size + 1 := by rw [← hH3, Heap.size_push]
 have hC : s2.heap.objs.size ≤ H3.objs.size := by omega
 have hDC : s2.heap.objs.size ≠ H3.objs.size := by omega
 have old : ∀ b o, s2.heap.get? b = some o → h4.get? b = some o := fun b o e => hsb4.extBut b o (by have := Heap.lt_size e; exact Nat.ne_of_lt (Nat.lt_of_lt_of_le this hC)) (Heap.get?_push_of_some _ (hH3 ▸ Heap.get?_push_of_some _ e))
 have hD4 : h4.get? s2.heap.objs.size = some { cls := .type "list", data := .seq ([] : List Value).toArray } := hsb4.extBut _ _ hDC (Heap.get?_push_of_some _ (hH3 ▸ Heap.get?_push_size _ rfl))
 obtain ⟨D, hDe⟩ : ∃ D, D = s2.heap.objs.size := ⟨_, rfl⟩
 obtain ⟨C, hCe⟩ : ∃ C, C = H3.objs.size := ⟨_, rfl⟩
 rw [← hCe] at hCs hns4 hsb4 hC hDC ⊢
 rw [← hDe] at hfp hCs hC hDC hD4 ⊢
 have ok' := I2.incOk (N' := own ++ cs.map (·.2)) (C := C) f2 (fun b hb => by rw [← hDe]; exact hfp b hb) hkind (by rw [← hDe]; exact hC) hcl hhas
 have I4 : Inv (X.inc (own ++ cs.map (·.2)) scope cl fp s2 H2 C) [] (List.replicate own.length none ++ capsAt cs σ) H2 { s2 with heap := h4, toks := s2.toks + ([] : List (Str × Value)).length } :=
  I2.incStart (s4 := { s2 with heap := h4, toks := s2.toks + ([] : List (Str × Value)).length }) ok' old rfl rfl hns4 (by rw [← hDe]; exact hC) hcl hcs
 have Dfree : H2 D = none := I2.hok.fresh (Nat.le_of_eq hDe.symm)
 have ltD : ∀ b o, s2.heap.get? b = some o → b ≠ D := fun b o e => by
  rw [hDe]
  exact Nat.ne_of_lt (Heap.lt_size e)
 have ltC : ∀ b o, s2.heap.get? b = some o → b ≠ C := fun b o e => Nat.ne_of_lt (Nat.lt_of_lt_of_le (by rw [hDe]; exact Heap.lt_size e) hC)
 have Dfs : D ∉ frs X.stack := fun hm => by
  obtain ⟨_, o, e, _⟩ := I2.stack.mem hm
  exact ltD _ _ e rfl
 have pinD : ∀ {σ' : St} {H' : Hp} {s' : Shared} {us : List Value} {n : Nat} {pl : List (Addr × Obj)}, Inv (X.inc (own ++ cs.map (·.2)) scope cl fp s2 H2 C) pl σ' H' s' → s'.heap.get? D = some { cls := .type "list", data := .seq us.toArray n } → H' D = none →
   Inv (X.inc (own ++ cs.map (·.2)) scope cl fp s2 H2 C) [(D, { cls := .type "list", data := .seq us.toArray n })] σ' H' s' := fun {σ' H' s' us n pl} J' e n' => J'.pins_of fun p hp => by
  rcases List.mem_singleton.mp hp with rfl
  exact ⟨e, n', hDC, Dfs, fun v z => by cases z⟩
 have fpok : ∀ {H' : Hp} {o : Obj}, (∀ b ∈ fp, H' b = none) → ∀ b ∈ fp, FpOk (X.inc (own ++ cs.map (·.2)) scope cl fp s2 H2 C) [(D, o)] H' b := fun {H' o} hn b hb => by
  refine ⟨hn b hb, (ok'.exf b hb).1, ok'.exfs b hb, .inl hb, (ok'.exf b hb).2, fun p hp => ?_⟩
  rcases List.mem_singleton.mp hp with rfl
  exact Nat.ne_of_gt (hfp b hb)
 have loop : ∀ s3 : Shared, s3 = { s2 with heap := h4, toks := s2.toks + ([] : List (Str × Value)).length } →
   codeAny (model X.prog X.w) X.A (.compLoop (.ListComp elt [⟨tg, iter, [], 0⟩] scope pos) 0 (.ref it) (.ref D) (compEnvC scope cl C X.env)) (compPost (model X.prog X.w) X.A X.xe none (EP X pins σ Q) (.ref D) C) s3 := by
  rintro s3 rfl
  refine comp_turns (fun n s' => ∃ i ys us nn H', Inv (X.inc (own ++ cs.map (·.2)) scope cl fp s2 H2 C) [(D, { cls := .type "list", data := .seq us.toArray nn })] (List.replicate own.length none ++ capsAt cs σ) H' s' ∧ tn i s'.heap ∧ (∀ b ∈ fp, H' b = none) ∧ Vals ys us ∧ W i n ys H') ?_ m0
   ⟨0, [], [], 0, H2, pinD (us := []) (n := 0) I4 hD4 Dfree, T.keep _ _ _ st2 fun b hb o e => old b o e, fun b hb => (f2 b hb).1, .nil, w0⟩
  rintro n s5 ⟨i, ys, us, nn, H5, I5, st5, fr5, vy, w5⟩
  obtain ⟨hz, ⟨stop, qn⟩ | ⟨go, step⟩⟩ := turn i n ys H5 w5
  ·refine wpAny_mono (T.done (X.inc (own ++ cs.map (·.2)) scope cl fp s2 H2 C) rfl rfl rfl hc i _ s5 _ H5 (fun _ _ => False) I5 (fpok fr5) st5 stop) (fun r s6 z => ?_) fun _ _ z => z
   obtain ⟨rfl, I6⟩ := z
   obtain ⟨m6, hn6, _⟩ := id I6.loc
   refine ⟨m6, hn6, fun h7 hs7 => ?_⟩
   obtain ⟨pD, pN, _, _, _⟩ := I6.pin (D, { cls := .type "list", data := .seq us.toArray nn }) (by simp)
   have same : ∀ b, b ≠ C → h7.get? b = s6.heap.get? b := fun b hb => hs7.2 b hb
   have lt2 := ltC
   have u7 : Un (frs X.stack) fp H2 H5 s2.heap h7 := ⟨fun b o e n1 n2 n3 => (same b (lt2 b o e)).trans (I6.base.keep b o e n1 n2 n3), fun b o e n1 n2 n3 => by
     obtain ⟨sl, z⟩ := I6.base.slot b o e n1 n2 n3
     exact ⟨sl, (same b (lt2 b o e)).trans z⟩, I6.base.free, fun b o e n1 => by
     obtain ⟨o', z⟩ := I6.base.there b o e n1
     exact ⟨o', (same b (lt2 b o e)).trans z⟩, I6.base.tups, I6.base.frzs, I6.base.tbls⟩
   have Cfree : H5 C = none := I6.free
   have hok7 : HOk X.prog X.w H5 h7 := fun a o e => by
    refine (I6.hok a o e).stay (fun c v hcc q => (same c ?_).trans q) (fun _ q => q) fun _ _ q => q
    rintro rfl
    rcases hcc with z | z
    ·rw [← z] at e; rw [Cfree] at e; cases e
    ·rw [Cfree] at z; cases z
   have I7 : Inv X pins σ H5 { s6 with heap := h7 } := I2.call' (s' := { s6 with heap := h7 }) I6.os u7 hok7 I6.bare fun b hb => ⟨(f2 b hb).2.2.2.1, (f2 b hb).2.1, (f2 b hb).2.2.2.2.1, (f2 b hb).2.2.2.2.2⟩
   have I8 := I7.track (a := D) (o := .lst ys) pN (Heap.get?_none_of_le (by rw [hDe]; exact I2.sz)) (by rw [hDe]; exact Nat.ne_of_gt I2.lt) (fun x c e z => by
     obtain ⟨v, o, ho, _⟩ := I2.cell x c e
     exact ltD _ _ ho z) (fun p hp z => ltD _ _ (I2.pin p hp).1 z) ⟨hz, us, nn, vy, (same D hDC).trans pD⟩
   exact ⟨.ref D, _, I8, rfl, qn D pN⟩
  ·refine wpAny_mono (T.item (X.inc (own ++ cs.map (·.2)) scope cl fp s2 H2 C) rfl rfl rfl hc i _ s5 _ H5 (fun _ _ => False) I5 (fpok fr5) st5 go) (fun r s6 z => ?_) fun _ _ z => z
   obtain ⟨u, rfl, z⟩ := z
   refine wpAny_mono z (fun _ s7 ⟨x, H7, I7, r7, y7, st7, fr7⟩ => ?_) fun _ _ z => z
   have I7' := I7.pinned (fpok fr7) (T.obj _ _ st7)
   refine wpAny_mono (hg fp s2 H2 C _ s7 _ H7 x u _ I7' r7 (step x H7 y7)) (fun _ s8 ⟨σ8, H8, I8, q8⟩ => ?_) fun _ _ z => z
   refine wpAny_mono (he fp s2 H2 C _ s8 σ8 H8 _ I8 q8) (fun uy s9 ⟨y, H9, I9, r9, m', hm', w9⟩ => ?_) fun _ _ z => z
   obtain ⟨pD, pN, _, _, _⟩ := I9.pin (D, { cls := .type "list", data := .seq us.toArray nn }) (by simp)
   refine append_at (its := us.toArray) (n := nn) pD (fun h10 hs10 hD10 => ?_) (by rw [List.size_toArray, ← vy.length]; exact hz)
   have keepfp : ∀ b ∈ fp, ∀ o, s7.heap.get? b = some o → s9.heap.get? b = some o ∧ H9 b = none := fun b hb o e => by
    have z := I9.pin (b, o) (List.mem_append_right _ (List.mem_append_right _ (mem_pinsAt hb e)))
    exact ⟨z.1, z.2.1⟩
   have I9' : Inv (X.inc (own ++ cs.map (·.2)) scope cl fp s2 H2 C) [] (List.replicate own.length none ++ capsAt cs σ) H9 s9 := I2.incAgain I9 f2 hcl hcs
   have I10 : Inv (X.inc (own ++ cs.map (·.2)) scope cl fp s2 H2 C) [] (List.replicate own.length none ++ capsAt cs σ) H9 { s9 with heap := h10 } := I9'.turned (it := D) (t' := s9.toks) (fun b o hb e => (hs10.2 b hb).trans e) pN hDC (.inr (Nat.le_of_eq hDe.symm)) (fun x c e z => by
     obtain ⟨v, o, ho, _⟩ := I2.cell x c (hcl x c e)
     exact ltD _ _ ho z) fun p hp => by simp at hp
   rw [lstP] at hD10
   refine ⟨m', hm', i + 1, ys ++ [y], us ++ [uy], nn + 1, H9, pinD I10 hD10 pN, T.keep _ _ _ st7 fun b hb o e => ?_, fun b hb => ?_, vy.append (.cons r9 .nil), w9⟩
   ·exact (hs10.2 b (Nat.ne_of_lt (hfp b hb))).trans (keepfp b hb o e).1
   ·obtain ⟨o, e, _⟩ := T.obj _ _ st7 b hb
    exact (keepfp b hb o e).2
 exact codeAny_compStart_list (loop _ rfl) (T.self _ 0 _ _ _ (T.keep _ _ _ st2 fun b hb o e => old b o e) (loop _ rfl))
end
end L2
set_option Elab.async false
set_option linter.all false
set_option maxRecDepth 100000
set_option maxHeartbeats 4000000
namespace L2
open PySem PySem.Spec PyProof.Rows
section
variable {X : Cx}
def rInU (K : PySem.W.Frag) : R2 := fun x y H Q => match x, y with
 | .str i, .str j => Q (.bl (!(Builtin.Str.occurrences j i 0 j.length 1).isEmpty)) H
 | x, y => rIn K false x y H Q
theorem op_inU : OpR X (compareOp .In) (rInU X.K) := fun pins s σ H x y v u Q I rx ry q => by
 unfold rInU at q
 split at q
 ·exact op_in_str pins s σ H _ _ v u Q I rx ry ⟨_, _, rfl, rfl, q⟩
 ·exact op_in_seq pins s σ H _ _ v u Q I rx ry q
theorem op_inK {K : PySem.W.Frag} (hK : X.K = K) : OpR X (compareOp .In) (rInU K) := hK ▸ op_inU
theorem ix_UK {K : PySem.W.Frag} (hK : X.K = K) : IxR X (rIxU K) := hK ▸ ix_U
theorem op_eqK {K : PySem.W.Frag} (hK : X.K = K) (hu : X.A.units + 64 < cLine) : OpR X (compareOp .Eq) (rEqU K) := hK ▸ op_eqU hu
theorem op_neK {K : PySem.W.Frag} (hK : X.K = K) (hu : X.A.units + 64 < cLine) : OpR X (compareOp .NotEq) (rNeU K) := hK ▸ op_neU hu
theorem y5ay {K : PySem.W.Frag} {i j : Str} {H : Hp} {Q : VK} : rInU K (.str i) (.str j) H Q = Q (.bl (!(Builtin.Str.occurrences j i 0 j.length 1).isEmpty)) H := rfl
theorem all_range : ∀ bs : List Bool, (List.range bs.length).all (fun i => bs.getD i false) = bs.all id := fun bs => by
 rw [Bool.eq_iff_iff]
 simp only [List.all_eq_true, List.mem_range, id]
 constructor
 ·intro h x hx
  obtain ⟨i, hi, rfl⟩ := List.mem_iff_getElem.mp hx
  have := h i hi
  simpa [List.getD_eq_getElem?_getD, hi] using this
 ·intro h i hi
  have := h bs[i] (List.getElem_mem hi)
  simpa [List.getD_eq_getElem?_getD, hi] using this
def rAll (K : PySem.W.Frag) : List V → Hp → VK → Prop := fun xs H Q => ∃ (p : Addr) (bs : List Bool), xs = [.ref p] ∧ SqL K H p (bs.map V.bl) ∧ Q (.bl (bs.all id)) H
theorem call_allU (hc : X.calm = true) : CallR X (.builtin "all") (rAll X.K) := fun pins s σ H xs us Q I r q => by
 obtain ⟨p, bs, rfl, hL, q⟩ := q
 obtain ⟨its, rv, pl, hz⟩ := I.list hL
 obtain ⟨u, rfl, ru⟩ := vals1 r
 cases (show u = Value.ref p from ru)
 refine call_all_walk (wpAny_pyIter_list pl.isList ?_)
 have hlt : p < s.heap.objs.size := by
  obtain ⟨_, e, _⟩ := pl.isList
  exact Heap.lt_size e
 refine ⟨s.heap.objs.size, _, _, its.toArray.size, _, _, fun i => bs.getD i false, rfl, Walks.list (by show X.A.handled = none; exact I.ok.hd hc) s.heap.objs.size p (Nat.ne_of_lt hlt) its.toArray, ⟨⟨_, Heap.get?_push_size _ rfl, rfl, rfl⟩, pl.isList.push _⟩, ?_, ?_⟩
 ·intro i v s' Q' E' hv hQ
  have hv' : its[i]? = some v := by simpa using hv
  have hi : i < bs.length := by
   obtain ⟨hl, _⟩ := List.getElem?_eq_some_iff.mp hv'
   have l := rv.length
   rw [List.length_map] at l
   omega
  obtain ⟨v', e1, e2⟩ := rv.get (i := i) (x := .bl bs[i]) (by simp [hi])
  rw [hv'] at e1
  cases e1
  cases (show v = Value.bool bs[i] from e2)
  refine wpAny_truthy_bool ?_
  simpa [List.getD_eq_getElem?_getD, hi] using hQ
 ·intro h' tk k
  have l := rv.length
  rw [List.length_map] at l
  have ea : (List.range its.toArray.size).all (fun i => bs.getD i false) = bs.all id := by rw [List.size_toArray, ← l]; exact all_range bs
  rw [ea]
  exact ⟨.bl _, H, I.kept (t' := tk) fun b ob e => k b ob (by have := Heap.lt_size e; simp; exact Nat.ne_of_lt this) (Heap.get?_push_of_some _ e), rfl, q⟩
def rSlS : V → Option Int → Option Int → Hp → VK → Prop := fun x lo hi H Q => ∃ z, x = .str z ∧ z.length ≤ sizeLine ∧ Q (.str (Txt.slice z lo hi)) H
theorem sl_str : SlR X rSlS := fun pins s σ H x v vl vu lo hi sl Q I rx hs pl pu h => by
 obtain ⟨z, rfl, hz, q⟩ := h
 obtain ⟨t, rfl⟩ := rx
 refine ⟨"str", _, F.slot_str_getitem.lookup, typeIs_str _ _ _, ?_⟩
 have fin : ∀ (t' : Tok) (k : Nat), EP X pins σ Q (.str (Txt.slice z lo hi) t') { s with toks := k } := fun t' k => ⟨.str _, H, I.tok k, ⟨_, rfl⟩, q⟩
 cases pl <;> cases pu
 ·exact wpAny_getItem_str_slice (l := none) (u := none) (st := none) hs rfl (post_val_or_str ⟨Nat.le_trans (Txt.slice_le z _ _) hz, fin⟩)
 ·exact wpAny_getItem_str_slice (l := none) (u := some (_, _)) (st := none) hs rfl (post_val_or_str ⟨Nat.le_trans (Txt.slice_le z _ _) hz, fin⟩)
 ·exact wpAny_getItem_str_slice (l := some (_, _)) (u := none) (st := none) hs rfl (post_val_or_str ⟨Nat.le_trans (Txt.slice_le z _ _) hz, fin⟩)
 ·exact wpAny_getItem_str_slice (l := some (_, _)) (u := some (_, _)) (st := none) hs rfl (post_val_or_str ⟨Nat.le_trans (Txt.slice_le z _ _) hz, fin⟩)
def rSlV (K : PySem.W.Frag) : V → Option Int → Option Int → Hp → VK → Prop := fun x lo hi H Q => rSlU K x lo hi H Q ∨ rSlS x lo hi H Q
theorem sl_V : SlR X (rSlV X.K) := SlR.or sl_U sl_str
end
theorem hcl0 {X : Cx} : ∀ (x : Str) (c : Addr), ([] : List (Str × Addr)).lookup x = some c → X.env.cells.lookup x = some c := fun _ _ h => by simp at h
theorem hcs0 {X : Cx} {scope : Scope} : ∀ p ∈ ([] : List (Nat × Str)), X.N[p.1]? = some p.2 ∧ X.env.scope.names.lookup p.2 = some .cell ∧ (relabel scope X.env).names.lookup p.2 = some .cell := fun _ h => by simp at h
theorem hhas0 {X : Cx} {scope : Scope} (h : scope.names.all (fun p => p.2 != .free && p.2 != .cell) = true) : ∀ y, ((relabel scope X.env).names.lookup y = some .cell ∨ (relabel scope X.env).names.lookup y = some .free) → ∃ c, ([] : List (Str × Addr)).lookup y = some c := fun y hy => by
 exfalso
 have h' := List.all_eq_true.mp h
 have go : ∀ k, (relabel scope X.env).names.lookup y = some k → k ≠ .cell ∧ k ≠ .free := fun k e => by
  have m := PySem.mem_of_lookup e
  obtain ⟨⟨n, k'⟩, hm, e'⟩ := List.mem_map.mp (show (y, k) ∈ scope.names.map _ from m)
  have z := h' _ hm
  simp only [bne_iff_ne, ne_eq, Bool.and_eq_true] at z
  have e2 : (if (k' == NameKind.free && X.env.scope.kind == .function && X.env.kindOf n == some .cell) = true then (n, NameKind.cell) else (n, k')) = (y, k) := e'
  split at e2
  ·rename_i c
   rw [Bool.and_eq_true, Bool.and_eq_true] at c
   exact absurd (beq_iff_eq.mp c.1.1) z.1
  ·cases e2
   exact ⟨z.2, z.1⟩
 rcases hy with hy | hy
 ·exact (go _ hy).1 rfl
 ·exact (go _ hy).2 rfl
def tyD : D → String
 | .non => "NoneType"
 | .bl _ => "bool"
 | .int _ => "int"
 | .str _ => "str"
 | .tup _ => "tuple"
 | .lst _ => "list"
theorem Rep.tyN {K : PySem.W.Frag} {H : Hp} {d : D} {x : V} (h : Rep K H d x) : L2.tyN K H x (tyD d) := by
 cases d <;> simp only [Rep] at h
 ·subst h; rfl
 ·subst h; rfl
 ·subst h; rfl
 ·subst h; rfl
 ·obtain ⟨a, xs, rfl, q, _⟩ := h; exact .inr ⟨rfl, xs, q⟩
 ·obtain ⟨a, xs, rfl, q, _⟩ := h; exact .inl ⟨rfl, xs, q⟩
mutual
def szD : D → Prop
 | .int i => Mth.Sz 4000 i
 | .str s => s.length ≤ 1000
 | .tup xs => szL xs
 | .lst xs => szL xs
 | _ => True
def szL : List D → Prop
 | [] => True
 | x :: xs => szD x ∧ szL xs
end
def lowB (c : Nat) : Bool := decide (97 ≤ c ∧ c ≤ 122)
def nameS (s : Str) : Bool := (decide (1 ≤ s.length) && decide (s.length ≤ 8)) && s.cps.toList.all lowB
def nameB : D → Bool
 | .str s => nameS s
 | _ => false
def wholeB : D → Bool
 | .int _ => true
 | _ => false
def fracB : D → Bool
 | .tup [.int a, .int b] => decide (1 ≤ b) && decide (Mth.g a b = 1)
 | _ => false
def boundB : D → Bool
 | .non => true
 | d => fracB d
def facesB (d e : D) : Bool := nameB d && nameB e && !eqD d e
def lessD : D → D → Bool
 | .tup [.int a, .int b], .tup [.int c, .int d] => decide (a * d < c * b)
 | _, _ => false
def boundsB (l g : D) : Bool := boundB l && boundB g && !lessD g l
def tieB : D → Bool
 | .tup [n, s, e, l, g] => nameB n && facesB s e && boundsB l g
 | _ => false
theorem letters_eq : (Str.ofString "abcdefghijklmnopqrstuvwxyz").cps.toList = List.range' 97 26 := by decide
theorem in_letters (c : Nat) : (!(Builtin.Str.occurrences (Str.ofString "abcdefghijklmnopqrstuvwxyz") ⟨#[c]⟩ 0 (Str.ofString "abcdefghijklmnopqrstuvwxyz").length 1).isEmpty) = lowB c := by
 rw [StrLaws.found_one, letters_eq]
 unfold lowB
 congr 1
 rw [List.mem_range']
 refine propext ⟨fun ⟨i, hi, e⟩ => by omega, fun h => ⟨c - 97, by omega, by omega⟩⟩
end L2
set_option Elab.async false
set_option linter.all false
set_option maxRecDepth 100000
set_option maxHeartbeats 4000000
namespace L2
open PySem PySem.Spec PyProof.Rows
structure KCal (P : Program) (w : World) (K : PySem.W.Frag) (mg : Str → Option Value) (base : Heap) (k : Nat) (x : Str) (C : Addr) (ps : List Str) (sp : Sp) : Prop where
 ex : ∃ (f : Addr) (fd : FuncData), FnOk P w K mg base (CX1 P w) k f fd ps sp ∧ mg x = some (.ref C) ∧ Mk K C f ∧ Binds K fd ps []
structure MCal (P : Program) (w : World) (K : PySem.W.Frag) (mg : Str → Option Value) (base : Heap) (k : Nat) (m : Str) (Cs : Addr → Prop) (ps : List Str) (sp : Sp) : Prop where
 ex : ∃ (f : Addr) (fd : FuncData), FnOk P w K mg base (CX1 P w) k f fd ps sp ∧ (∀ C, Cs C → Cls K C ∧ Meth K C m f) ∧ PySem.W.keepIn K (.ref f) = true ∧ Binds K fd ps []
def tMethU (Cs : Addr → Prop) (m : Str) (sp : Sp) (E : XK) (ta : TE) (t : TA) : TE := fun σ H Q => ta σ H fun x H1 => ∃ a C dx fs, x = .ref a ∧ H1 a = some (.ins C dx fs) ∧ Cs C ∧ fs.lookup m = none ∧ t σ H1 fun vs H2 => sp (x :: vs) H2 Q E
section
variable {X : Cx} {k k' : Nat} {x mn : Str} {C : Addr} {Cs : Addr → Prop} {ps : List Str} {sp : Sp} {E : XK} {p pos apos : Pos} {e o : Expr} {es : List Expr} {t : TA} {ta : TE}
theorem KCal.ev (G : KCal X.prog X.w X.K X.mg X.base k x C ps sp) (hr : Room k' X.A) (hk : k + 1 ≤ k') (hg : Gl X x) (hx : Passes (CX1 X.prog X.w) X E) (ha : PA X (e :: es) t)
  (hdb : (x == ("__debug__" : Str)) = false := by decide) (he : starEach (e :: es) X.env = (false, eval e X.env) :: starEach es X.env := by rfl) (hpl : (backTo pos (starEach es X.env)).any (·.1) = false := by rfl) :
  PE X (.Call (.Name x p) (e :: es) [] pos) (tMake C sp [] E t) := by
 obtain ⟨f, fd, F, hm, M, hb⟩ := G.ex
 exact pe_make M F (hr.mono hk) hg hm hb .nil hx ha hdb he hpl
theorem MCal.m {pl : Sem Bool} (G : MCal X.prog X.w X.K X.mg X.base k mn Cs ps sp) (hr : Room k' X.A) (hk : k ≤ k') (hx : Passes (CX1 X.prog X.w) X E) (ho : PE X o ta) (ha : PA X (e :: es) t)
  (hst : starEach (e :: es) X.env = (false, eval e X.env) :: starEach es X.env := by rfl) (hpl : (backTo pos (starEach es X.env)).any (·.1) = false := by rfl)
  (ht : eval (.Call (.Attribute o mn apos) (e :: es) [] pos) X.env = (do
   let ov ← eval o X.env
   standAt apos.atName
   let (f, first) ← holding [ov] (getMethod ov mn pl)
   callWith pos f first (backTo pos (starEach (e :: es) X.env)) (backToKw pos (keywordEach [] X.env))) := by rfl) :
  PE X (.Call (.Attribute o mn apos) (e :: es) [] pos) (tMethU Cs mn sp E ta t) := by
 obtain ⟨f, fd, F, hm, kp, hb⟩ := G.ex
 intro pins s σ H Q I h
 refine PySem.W.methodCall_KW (pl := pl) (thn (ho pins s σ H _ I h) fun u s1 ⟨x, H1, I1, rx, a, C, dx, fs, ex, ea, hC, l, q⟩ => ?_) ht
 subst ex
 obtain rfl : u = Value.ref a := rx
 refine getmeth_ok I1 ea (hm C hC).1 (hm C hC).2 l ?_
 refine PySem.W.callWith_K (first := [.ref a]) (h₀ := X.base) I.ok.mod.kin kp (thn (ha pos pins s1 σ H1 _ I1 q) fun us s2 ⟨vs, H2, I2, r, q2⟩ => ⟨I2.kIn, ?_⟩) hst hpl
 exact run_fn (us := .ref a :: us) (vs := .ref a :: vs) F (hr.mono hk) hb .nil hx I2 (.cons rfl r) (by simpa using q2)
def rMulS : R2 := fun x y H Q => match x, y with
 | .str z, .int n => 0 < n ∧ n < 1000 ∧ z.length ≤ 1000 ∧ ∀ z' : Str, z'.cps.toList = (List.replicate n.toNat z.cps.toList).flatten → Q (.str z') H
 | x, y => rMulU x y H Q
theorem cat_fold : ∀ (l : List (Array Nat)) (acc : Array Nat), (l.foldl (· ++ ·) acc).toList = acc.toList ++ (l.map (·.toList)).flatten
 | [], acc => by simp
 | x :: l, acc => by
  rw [List.foldl_cons, cat_fold l]
  simp
theorem op_mulS : OpR X (binaryOp .Mult) rMulS := fun pins s σ H x y v u Q I rx ry q => by
 unfold rMulS at q
 split at q
 ·rename_i z n
  obtain ⟨h0, h1, h2, q⟩ := q
  obtain ⟨t, rfl⟩ := rx
  obtain ⟨t', rfl⟩ := ry
  have hz : z.cps.size = z.length := rfl
  have big : z.length * n.toNat ≤ 1000 * 1000 := Nat.mul_le_mul h2 (by omega)
  refine PySem.P.mul_str (by simp; omega) (fun _ _ => ?_) (fun _ _ => ?_) ?_
  ·have : (1000 : Int) ≤ (2 ^ 63 - 1) / n := by
    rw [Int.le_ediv_iff_mul_le h0]
    omega
   omega
  ·unfold Builtin.Str.tooLong
   simp
   have : (1000 * 1000 : Nat) ≤ sizeLine := by decide
   omega
  ·rw [if_neg (by omega)]
   split
   ·rename_i c
    refine ⟨.str z, H, I, ⟨_, rfl⟩, q z ?_⟩
    rcases Bool.or_eq_true _ _ |>.mp c with c | c
    ·obtain rfl : n = 1 := by simpa using c
     simp
    ·have e : z.cps.toList = [] := by
      have : z.length = 0 := by simpa using c
      exact List.eq_nil_of_length_eq_zero (by rw [Array.length_toList]; exact this)
     rw [e]
     simp
   ·refine ⟨?_, .str _, H, I.tok _, ⟨_, rfl⟩, q _ ?_⟩
    ·show (Array.size _) ≤ sizeLine
     rw [← Array.length_toList, cat_fold]
     simp
     have : (1000 * 1000 : Nat) ≤ sizeLine := by decide
     rw [Nat.mul_comm, hz]
     omega
    ·rw [cat_fold]
     simp
 ·exact op_mulU pins s σ H _ _ v u Q I rx ry q
def rIsN : R2 := fun x y H Q => y = .non ∧ Q (.bl (decide (x = .non))) H
def rNotN : R2 := fun x y H Q => y = .non ∧ Q (.bl (!decide (x = .non))) H
theorem op_isNU : OpR X (compareOp .Is) rIsN := op_isN
theorem op_notNU : OpR X (compareOp .IsNot) rNotN := op_notN
def rListU (K : PySem.W.Frag) : List V → Hp → VK → Prop := fun xs H Q => ∃ p ys, xs = [.ref p] ∧ (SqL K H p ys ∨ SqT K H p ys) ∧ ∀ l, H l = none → Q (.ref l) (upd H l (.lst ys))
theorem call_listU : CallR X (.type "list") (rListU X.K) := call_list_of
end
section
variable {K : PySem.W.Frag} {H : Hp} {Q : VK}
theorem y5dy {x : V} : rIsN x .non H Q = Q (.bl (decide (x = .non))) H := by simp [rIsN]
theorem y73y {x : V} : rNotN x .non H Q = Q (.bl (!decide (x = .non))) H := by simp [rNotN]
theorem y63y {C : Addr} {sp : Sp} {dvs : List V} {E : XK} {t : TA} {σ : St} : tMake C sp dvs E t σ H Q = t σ H fun vs H1 => ∀ x dx, H1 x = none → H1 dx = none → dx ≠ x → sp (.ref x :: (vs ++ dvs)) (upd (upd H1 dx (.own x)) x (.ins C dx [])) (fun v H2 => v = .non ∧ Q (.ref x) H2) E := rfl
theorem y64y {Cs : Addr → Prop} {mn : Str} {sp : Sp} {E : XK} {ta : TE} {t : TA} {σ : St} : tMethU Cs mn sp E ta t σ H Q = ta σ H fun x H1 => ∃ a C dx fs, x = .ref a ∧ H1 a = some (.ins C dx fs) ∧ Cs C ∧ fs.lookup mn = none ∧ t σ H1 fun vs H2 => sp (x :: vs) H2 Q E := rfl
theorem y4ay {ta : TE} {f : Str} {σ : St} : tFld K ta f σ H Q = ta σ H fun x H1 => ∃ a C dx fs v, x = .ref a ∧ H1 a = some (.ins C dx fs) ∧ Cls K C ∧ NoAttr K C f ∧ fs.lookup f = some v ∧ Q v H1 := rfl
theorem y81y {ta tv : TE} {f : Str} {σ : St} {En : Ends} : sFld K ta tv f En σ H = tv σ H fun y H1 => ta σ H1 fun x H2 => ∃ a C dx fs, x = .ref a ∧ H2 a = some (.ins C dx fs) ∧ Cls K C ∧ NoAttr K C f ∧ fs.length < 1000 ∧ En.nx σ (upd H2 a (.ins C dx (putF f y fs))) := rfl
theorem y2by {T : String} {r : V → List V → Hp → VK → Prop} {to : TE} {t : TA} {σ : St} : tBM K T r to t σ H Q = to σ H fun x H1 => tyV K T x H1 ∧ t σ H1 fun vs H2 => r x vs H2 Q := rfl
theorem y54y {g : TG} {gs : TGs} {v : V} {r : List V} {σ : St} {R : St → Hp → Prop} : gCons g gs (v :: r) σ H R = g v σ H fun σ' H' => gs r σ' H' R := by
 unfold gCons
 refine propext ⟨fun ⟨v', r', e, h⟩ => ?_, fun h => ⟨v, r, rfl, h⟩⟩
 cases e
 exact h
theorem y56y {σ : St} {R : St → Hp → Prop} : gNil [] σ H R = R σ H := by unfold gNil; simp
theorem FrV.of_rep {x : V} {a b : Int} (h : Rep K H (.tup [.int a, .int b]) x) : FrV K H x a b := by
 simp only [Rep, RepL] at h
 obtain ⟨p, xs, rfl, q, v, r, rfl, rfl, v', r', rfl, rfl, rfl⟩ := h
 exact ⟨p, rfl, q⟩
theorem frac_shape {d : D} (h : fracB d = true) : ∃ a b, d = .tup [.int a, .int b] ∧ 1 ≤ b ∧ Mth.g a b = 1 := by
 unfold fracB at h
 split at h
 ·rw [Bool.and_eq_true] at h
  exact ⟨_, _, rfl, by simpa using h.1, by simpa using h.2⟩
 ·cases h
theorem name_shape {d : D} (h : nameB d = true) : ∃ z, d = .str z ∧ nameS z = true := by
 cases d <;> first | exact ⟨_, rfl, h⟩ | (simp [nameB] at h)
theorem Rep.str {d : Str} {x : V} (h : Rep K H (.str d) x) : x = .str d := by simpa only [Rep] using h
def nonD : D → Bool
 | .non => true
 | _ => false
theorem nonD_no {d : D} (h : d ≠ .non) : nonD d = false := by cases d <;> first | rfl | exact absurd rfl h
theorem Rep.nonV {d : D} {x : V} (hx : Rep K H d x) : decide (x = .non) = nonD d := by
 cases d <;> simp only [Rep] at hx
 ·subst hx; rfl
 ·subst hx; rfl
 ·subst hx; rfl
 ·subst hx; rfl
 ·obtain ⟨a, xs, rfl, _⟩ := hx; rfl
 ·obtain ⟨a, xs, rfl, _⟩ := hx; rfl
theorem putE {H' : Hp} {l : Addr} {o : HO} (e : upd H l o = H') : H' l = some o := by rw [← e, upd_same]
end
end L2
set_option Elab.async false
set_option linter.all false
set_option maxRecDepth 100000
set_option maxHeartbeats 4000000
namespace L2
open PySem PySem.Spec PyProof.Rows
section
variable {En : Ends} {σ : St} {H : Hp} {Q : VK} {ta tb te tc td : TE} {K : PySem.W.Frag}
end
end L2
set_option Elab.async false
set_option linter.all false
set_option maxRecDepth 100000
set_option maxHeartbeats 4000000
namespace L2
open PySem PySem.Spec PyProof.Rows
def clFold (cells : List (Str × Addr)) : List (Str × NameKind) → List (Str × Addr) → List (Str × Addr)
 | [], acc => acc
 | (n, k) :: r, acc => clFold cells r (if k == .free then (n, (cells.lookup n).getD 0) :: acc else acc)
theorem clos_go {env : Env} : ∀ (names : List (Str × NameKind)) (acc : List (Str × Addr)), (∀ p ∈ names, p.2 = .free → ∃ c, env.cells.lookup p.1 = some c) →
  (forIn names acc fun (p : Str × NameKind) cs => (if p.2 == .free then do let c ← cellOf env p.1; pure (ForInStep.yield ((p.1, c) :: cs)) else pure (ForInStep.yield cs) : Sem (ForInStep (List (Str × Addr))))) = (pure (clFold env.cells names acc) : Sem (List (Str × Addr)))
 | [], acc, _ => by simp [clFold]
 | (n, k) :: r, acc, h => by
  rw [List.forIn_cons]
  by_cases c : (k == .free) = true
  ·obtain ⟨a, ha⟩ := h (n, k) List.mem_cons_self (beq_iff_eq.mp c)
   have e : cellOf env n = pure a := by unfold cellOf; rw [ha]
   simp only [c, if_true, e, pure_bind]
   have := clos_go (env := env) r ((n, a) :: acc) fun p hp => h p (List.mem_cons_of_mem _ hp)
   simp only [clFold, c, if_true, ha, Option.getD_some]
   exact this
  ·have c' : (k == .free) = false := by simpa using c
   simp only [c', Bool.false_eq_true, if_false, pure_bind]
   have := clos_go (env := env) r acc fun p hp => h p (List.mem_cons_of_mem _ hp)
   simp only [clFold, c', Bool.false_eq_true, if_false]
   exact this
theorem clos_eq {scope : Scope} {env : Env} (h : ∀ p ∈ scope.names, p.2 = .free → ∃ c, env.cells.lookup p.1 = some c) : closureFor scope env = pure (clFold env.cells scope.names []) := by
 have := clos_go (env := env) scope.names [] h
 unfold closureFor
 simp only [pure_bind]
 refine Eq.trans ?_ (congrArg (fun m : Sem (List (Str × Addr)) => m >>= pure) this |>.trans (by simp))
 first | rfl | (congr 1)
theorem clFold_sub {cells : List (Str × Addr)} : ∀ (names : List (Str × NameKind)) (acc : List (Str × Addr)), (∀ x c, acc.lookup x = some c → cells.lookup x = some c) → (∀ p ∈ names, p.2 = .free → ∃ c, cells.lookup p.1 = some c) →
  ∀ x c, (clFold cells names acc).lookup x = some c → cells.lookup x = some c
 | [], acc, ha, _, x, c, h => ha x c h
 | (n, k) :: r, acc, ha, hf, x, c, h => by
  simp only [clFold] at h
  refine clFold_sub r _ ?_ (fun p hp => hf p (List.mem_cons_of_mem _ hp)) x c h
  intro y d hy
  by_cases f : (k == .free) = true
  ·rw [if_pos f] at hy
   obtain ⟨a, e⟩ := hf (n, k) List.mem_cons_self (beq_iff_eq.mp f)
   rw [List.lookup_cons] at hy
   by_cases q : (y == n) = true
   ·rw [q] at hy
    have q' : y = n := beq_iff_eq.mp q
    subst q'
    have e' : cells.lookup y = some a := e
    rw [e'] at hy ⊢
    simpa using hy
   ·have q' : (y == n) = false := by simpa using q
    rw [q'] at hy
    exact ha y d hy
  ·rw [if_neg f] at hy
   exact ha y d hy
theorem clFold_has {cells : List (Str × Addr)} : ∀ (names : List (Str × NameKind)) (acc : List (Str × Addr)) (y : Str), ((∃ c, acc.lookup y = some c) ∨ (y, NameKind.free) ∈ names) → ∃ c, (clFold cells names acc).lookup y = some c
 | [], acc, y, h => by
  rcases h with h | h
  ·exact h
  ·simp at h
 | (n, k) :: r, acc, y, h => by
  simp only [clFold]
  refine clFold_has r _ y ?_
  rcases h with ⟨c, h⟩ | h
  ·refine .inl ?_
   split
   ·rw [List.lookup_cons]
    cases (y == n)
    ·exact ⟨c, h⟩
    ·exact ⟨_, rfl⟩
   ·exact ⟨c, h⟩
  ·rcases List.mem_cons.mp h with e | h
   ·cases e
    refine .inl ?_
    rw [if_pos (by decide), List.lookup_cons]
    simp
   ·exact .inr h
section
variable {X : Cx} {tg : Expr}
theorem hfreeD {scope sc : Scope} (h : scope.names.all (fun p => p.2 != .free || (sc.names.lookup p.1 == some .cell)) = true) : ∀ p ∈ scope.names, p.2 = .free → sc.names.lookup p.1 = some .cell := fun p hp hk => by
 have z := List.all_eq_true.mp h p hp
 rw [hk] at z
 simpa using z
end
theorem hcs2 {X : Cx} {scope : Scope} {i j : Nat} {x y : Str} (a : X.N[i]? = some x) (b : X.env.scope.names.lookup x = some .cell) (c : (relabel scope X.env).names.lookup x = some .cell)
  (a' : X.N[j]? = some y) (b' : X.env.scope.names.lookup y = some .cell) (c' : (relabel scope X.env).names.lookup y = some .cell) :
  ∀ p ∈ [(i, x), (j, y)], X.N[p.1]? = some p.2 ∧ X.env.scope.names.lookup p.2 = some .cell ∧ (relabel scope X.env).names.lookup p.2 = some .cell := fun p hp => by
 rcases List.mem_cons.mp hp with rfl | hp
 ·exact ⟨a, b, c⟩
 ·rcases List.mem_singleton.mp hp with rfl
  exact ⟨a', b', c'⟩
end L2
set_option Elab.async false
set_option linter.all false
set_option maxRecDepth 100000
set_option maxHeartbeats 4000000
namespace L2
open PySem PySem.Spec PyProof.Rows
section
variable {X : Cx} {tg : Expr}
theorem comp_block {iter elt : Expr} {scope : Scope} {pos : Pos} {own : List Str} {cl : List (Str × Addr)} {cs : List (Nat × Str)} {g : TG} {te : TE} {pins : List (Addr × Obj)} {s2 : Shared} {σ : St} {H2 : Hp} {it : Addr} {fp : List Addr} {tn : Nat → Heap → Prop} {J : It}
  {W : Nat → Nat → List V → Hp → Prop} {m0 : Nat} {QN : List V → Hp → Prop} {RR : Value → Addr → Result → Shared → Prop} {E : Value → Shared → Prop} (hc : X.calm = true)
  (hg : ∀ fp s2 H2 C, PG (X.inc (own ++ cs.map (·.2)) scope cl fp s2 H2 C) tg g) (he : ∀ fp s2 H2 C, PE (X.inc (own ++ cs.map (·.2)) scope cl fp s2 H2 C) elt te)
  (hcell : ∀ y ∈ scope.names, y.2 ≠ .cell) (hkind : scope.kind = .function)
  (hcl : ∀ x c, cl.lookup x = some c → X.env.cells.lookup x = some c) (hhas : ∀ y, ((relabel scope X.env).names.lookup y = some .cell ∨ (relabel scope X.env).names.lookup y = some .free) → ∃ c, cl.lookup y = some c)
  (hcs : ∀ p ∈ cs, X.N[p.1]? = some p.2 ∧ X.env.scope.names.lookup p.2 = some .cell ∧ (relabel scope X.env).names.lookup p.2 = some .cell)
  (I2 : Inv X pins σ H2 s2) (T : Turn X.prog X.w X.K tg J fp it tn) (st2 : tn 0 s2.heap) (f2 : ∀ b ∈ fp, FpOk X pins H2 b) (w0 : W 0 m0 [] H2)
  (turn : ∀ i m ys H2, W i m ys H2 → ys.length ≤ sizeLine ∧ ((J.stop i H2 ∧ QN ys H2) ∨ (J.go i H2 ∧ ∀ x H3, J.yld i H2 x H3 → g x (List.replicate own.length none ++ capsAt cs σ) H3 fun σ4 H4 => te σ4 H4 fun y H5 => ∃ m', m' < m ∧ W (i + 1) m' (ys ++ [y]) H5)))
  (hRR : ∀ (D C : Addr) (s6 : Shared) (H5 : Hp) (ys : List V), (∀ h7, Heap.SameBut C s6.heap h7 → Inv X pins σ (upd H5 D (.lst ys)) { s6 with heap := h7 }) → H5 D = none → H5 C = none → D ≠ C → (∃ m, s6.heap.Ns C m) → s2.heap.objs.size ≤ C → QN ys H5 → RR (.ref D) C (.ok .next) s6) :
  wpAny (model X.prog X.w) X.A (newList []) (fun acc s₃ => wpAny (model X.prog X.w) X.A (newFunctionEnv scope X.env.globals cl [] X.env.qual none .none (some X.env)) (fun cenv s₄ =>
   codeAny (model X.prog X.w) X.A (.compStart (.ListComp elt [⟨tg, iter, [], 0⟩] scope pos) 0 (.ref it) acc { cenv with scope := relabel scope X.env }) (RR acc cenv.locals) s₄) E s₃) E s2 := by
 have hfp : ∀ b ∈ fp, b < s2.heap.objs.size := fun b hb => by
  obtain ⟨o, e, _⟩ := T.obj _ _ st2 b hb
  exact Heap.lt_size e
 refine wpAny_newObj_type (wpAny_newFunctionEnv hcell (by intro y hy; simp at hy) (fun h4 hns4 hsb4 => ?_) hkind)
 dsimp only at hns4 hsb4 ⊢
 generalize hH3 : s2.heap.push { cls := .type "list", dict := none, data := .seq ([] : List Value).toArray } = H3 at hns4 hsb4 ⊢
 have hCs : H3.objs.size = s2.heap.objs.size + 1 := by rw [← hH3, Heap.size_push]
 have hC : s2.heap.objs.size ≤ H3.objs.size := by omega
 have hDC : s2.heap.objs.size ≠ H3.objs.size := by omega
 have old : ∀ b o, s2.heap.get? b = some o → h4.get? b = some o := fun b o e => hsb4.extBut b o (by have := Heap.lt_size e; exact Nat.ne_of_lt (Nat.lt_of_lt_of_le this hC)) (Heap.get?_push_of_some _ (hH3 ▸ Heap.get?_push_of_some _ e))
 have hD4 : h4.get? s2.heap.objs.size = some { cls := .type "list", data := .seq ([] : List Value).toArray } := hsb4.extBut _ _ hDC (Heap.get?_push_of_some _ (hH3 ▸ Heap.get?_push_size _ rfl))
 obtain ⟨D, hDe⟩ : ∃ D, D = s2.heap.objs.size := ⟨_, rfl⟩
 obtain ⟨C, hCe⟩ : ∃ C, C = H3.objs.size := ⟨_, rfl⟩
 rw [← hCe] at hCs hns4 hsb4 hC hDC ⊢
 rw [← hDe] at hfp hCs hC hDC hD4 ⊢
 have ok' := I2.incOk (N' := own ++ cs.map (·.2)) (C := C) f2 (fun b hb => by rw [← hDe]; exact hfp b hb) hkind (by rw [← hDe]; exact hC) hcl hhas
 have I4 : Inv (X.inc (own ++ cs.map (·.2)) scope cl fp s2 H2 C) [] (List.replicate own.length none ++ capsAt cs σ) H2 { s2 with heap := h4, toks := s2.toks + ([] : List (Str × Value)).length } :=
  I2.incStart (s4 := { s2 with heap := h4, toks := s2.toks + ([] : List (Str × Value)).length }) ok' old rfl rfl hns4 (by rw [← hDe]; exact hC) hcl hcs
 have Dfree : H2 D = none := I2.hok.fresh (Nat.le_of_eq hDe.symm)
 have ltD : ∀ b o, s2.heap.get? b = some o → b ≠ D := fun b o e => by
  rw [hDe]
  exact Nat.ne_of_lt (Heap.lt_size e)
 have ltC : ∀ b o, s2.heap.get? b = some o → b ≠ C := fun b o e => Nat.ne_of_lt (Nat.lt_of_lt_of_le (by rw [hDe]; exact Heap.lt_size e) hC)
 have Dfs : D ∉ frs X.stack := fun hm => by
  obtain ⟨_, o, e, _⟩ := I2.stack.mem hm
  exact ltD _ _ e rfl
 have pinD : ∀ {σ' : St} {H' : Hp} {s' : Shared} {us : List Value} {n : Nat} {pl : List (Addr × Obj)}, Inv (X.inc (own ++ cs.map (·.2)) scope cl fp s2 H2 C) pl σ' H' s' → s'.heap.get? D = some { cls := .type "list", data := .seq us.toArray n } → H' D = none →
   Inv (X.inc (own ++ cs.map (·.2)) scope cl fp s2 H2 C) [(D, { cls := .type "list", data := .seq us.toArray n })] σ' H' s' := fun {σ' H' s' us n pl} J' e n' => J'.pins_of fun p hp => by
  rcases List.mem_singleton.mp hp with rfl
  exact ⟨e, n', hDC, Dfs, fun v z => by cases z⟩
 have fpok : ∀ {H' : Hp} {o : Obj}, (∀ b ∈ fp, H' b = none) → ∀ b ∈ fp, FpOk (X.inc (own ++ cs.map (·.2)) scope cl fp s2 H2 C) [(D, o)] H' b := fun {H' o} hn b hb => by
  refine ⟨hn b hb, (ok'.exf b hb).1, ok'.exfs b hb, .inl hb, (ok'.exf b hb).2, fun p hp => ?_⟩
  rcases List.mem_singleton.mp hp with rfl
  exact Nat.ne_of_gt (hfp b hb)
 have loop : ∀ s3 : Shared, s3 = { s2 with heap := h4, toks := s2.toks + ([] : List (Str × Value)).length } →
   codeAny (model X.prog X.w) X.A (.compLoop (.ListComp elt [⟨tg, iter, [], 0⟩] scope pos) 0 (.ref it) (.ref D) (compEnvC scope cl C X.env)) (RR (.ref D) C) s3 := by
  rintro s3 rfl
  refine comp_turns (fun n s' => ∃ i ys us nn H', Inv (X.inc (own ++ cs.map (·.2)) scope cl fp s2 H2 C) [(D, { cls := .type "list", data := .seq us.toArray nn })] (List.replicate own.length none ++ capsAt cs σ) H' s' ∧ tn i s'.heap ∧ (∀ b ∈ fp, H' b = none) ∧ Vals ys us ∧ W i n ys H') ?_ m0
   ⟨0, [], [], 0, H2, pinD (us := []) (n := 0) I4 hD4 Dfree, T.keep _ _ _ st2 fun b hb o e => old b o e, fun b hb => (f2 b hb).1, .nil, w0⟩
  rintro n s5 ⟨i, ys, us, nn, H5, I5, st5, fr5, vy, w5⟩
  obtain ⟨hz, ⟨stop, qn⟩ | ⟨go, step⟩⟩ := turn i n ys H5 w5
  ·refine wpAny_mono (T.done (X.inc (own ++ cs.map (·.2)) scope cl fp s2 H2 C) rfl rfl rfl hc i _ s5 _ H5 (fun _ _ => False) I5 (fpok fr5) st5 stop) (fun r s6 z => ?_) fun _ _ z => z
   obtain ⟨rfl, I6⟩ := z
   obtain ⟨m6, hn6, _⟩ := id I6.loc
   obtain ⟨pD, pN, _, _, _⟩ := I6.pin (D, { cls := .type "list", data := .seq us.toArray nn }) (by simp)
   have Cfree : H5 C = none := I6.free
   refine hRR D C s6 H5 ys (fun h7 hs7 => ?_) pN Cfree hDC ⟨m6, hn6⟩ (by rw [← hDe]; exact hC) qn
   have same : ∀ b, b ≠ C → h7.get? b = s6.heap.get? b := fun b hb => hs7.2 b hb
   have lt2 := ltC
   have u7 : Un (frs X.stack) fp H2 H5 s2.heap h7 := ⟨fun b o e n1 n2 n3 => (same b (lt2 b o e)).trans (I6.base.keep b o e n1 n2 n3), fun b o e n1 n2 n3 => by
     obtain ⟨sl, z⟩ := I6.base.slot b o e n1 n2 n3
     exact ⟨sl, (same b (lt2 b o e)).trans z⟩, I6.base.free, fun b o e n1 => by
     obtain ⟨o', z⟩ := I6.base.there b o e n1
     exact ⟨o', (same b (lt2 b o e)).trans z⟩, I6.base.tups, I6.base.frzs, I6.base.tbls⟩
   have hok7 : HOk X.prog X.w H5 h7 := fun a o e => by
    refine (I6.hok a o e).stay (fun c v hcc q => (same c ?_).trans q) (fun _ q => q) fun _ _ q => q
    rintro rfl
    rcases hcc with z | z
    ·rw [← z] at e; rw [Cfree] at e; cases e
    ·rw [Cfree] at z; cases z
   have I7 : Inv X pins σ H5 { s6 with heap := h7 } := I2.call' (s' := { s6 with heap := h7 }) I6.os u7 hok7 I6.bare fun b hb => ⟨(f2 b hb).2.2.2.1, (f2 b hb).2.1, (f2 b hb).2.2.2.2.1, (f2 b hb).2.2.2.2.2⟩
   exact I7.track (a := D) (o := .lst ys) pN (Heap.get?_none_of_le (by rw [hDe]; exact I2.sz)) (by rw [hDe]; exact Nat.ne_of_gt I2.lt) (fun x c e z => by
     obtain ⟨v, o, ho, _⟩ := I2.cell x c e
     exact ltD _ _ ho z) (fun p hp z => ltD _ _ (I2.pin p hp).1 z) ⟨hz, us, nn, vy, (same D hDC).trans pD⟩
  ·refine wpAny_mono (T.item (X.inc (own ++ cs.map (·.2)) scope cl fp s2 H2 C) rfl rfl rfl hc i _ s5 _ H5 (fun _ _ => False) I5 (fpok fr5) st5 go) (fun r s6 z => ?_) fun _ _ z => z
   obtain ⟨u, rfl, z⟩ := z
   refine wpAny_mono z (fun _ s7 ⟨x, H7, I7, r7, y7, st7, fr7⟩ => ?_) fun _ _ z => z
   have I7' := I7.pinned (fpok fr7) (T.obj _ _ st7)
   refine wpAny_mono (hg fp s2 H2 C _ s7 _ H7 x u _ I7' r7 (step x H7 y7)) (fun _ s8 ⟨σ8, H8, I8, q8⟩ => ?_) fun _ _ z => z
   refine wpAny_mono (he fp s2 H2 C _ s8 σ8 H8 _ I8 q8) (fun uy s9 ⟨y, H9, I9, r9, m', hm', w9⟩ => ?_) fun _ _ z => z
   obtain ⟨pD, pN, _, _, _⟩ := I9.pin (D, { cls := .type "list", data := .seq us.toArray nn }) (by simp)
   refine append_at (its := us.toArray) (n := nn) pD (fun h10 hs10 hD10 => ?_) (by rw [List.size_toArray, ← vy.length]; exact hz)
   have keepfp : ∀ b ∈ fp, ∀ o, s7.heap.get? b = some o → s9.heap.get? b = some o ∧ H9 b = none := fun b hb o e => by
    have z := I9.pin (b, o) (List.mem_append_right _ (List.mem_append_right _ (mem_pinsAt hb e)))
    exact ⟨z.1, z.2.1⟩
   have I9' : Inv (X.inc (own ++ cs.map (·.2)) scope cl fp s2 H2 C) [] (List.replicate own.length none ++ capsAt cs σ) H9 s9 := I2.incAgain I9 f2 hcl hcs
   have I10 : Inv (X.inc (own ++ cs.map (·.2)) scope cl fp s2 H2 C) [] (List.replicate own.length none ++ capsAt cs σ) H9 { s9 with heap := h10 } := I9'.turned (it := D) (t' := s9.toks) (fun b o hb e => (hs10.2 b hb).trans e) pN hDC (.inr (Nat.le_of_eq hDe.symm)) (fun x c e z => by
     obtain ⟨v, o, ho, _⟩ := I2.cell x c (hcl x c e)
     exact ltD _ _ ho z) fun p hp => by simp at hp
   rw [lstP] at hD10
   refine ⟨m', hm', i + 1, ys ++ [y], us ++ [uy], nn + 1, H9, pinD I10 hD10 pN, T.keep _ _ _ st7 fun b hb o e => ?_, fun b hb => ?_, vy.append (.cons r9 .nil), w9⟩
   ·exact (hs10.2 b (Nat.ne_of_lt (hfp b hb))).trans (keepfp b hb o e).1
   ·obtain ⟨o, e, _⟩ := T.obj _ _ st7 b hb
    exact (keepfp b hb o e).2
 exact codeAny_compStart_list (loop _ rfl) (T.self _ 0 _ _ _ (T.keep _ _ _ st2 fun b hb o e => old b o e) (loop _ rfl))
theorem free_of {X : Cx} {scope : Scope} (hcell : ∀ y ∈ scope.names, y.2 ≠ .cell) {y : Str} (hy : (relabel scope X.env).names.lookup y = some .cell ∨ (relabel scope X.env).names.lookup y = some .free) : (y, NameKind.free) ∈ scope.names := by
 have go : ∀ k, (k = .cell ∨ k = .free) → (relabel scope X.env).names.lookup y = some k → (y, NameKind.free) ∈ scope.names := fun k hk e => by
  have m := PySem.mem_of_lookup e
  obtain ⟨⟨n, k'⟩, hm, e'⟩ := List.mem_map.mp (show (y, k) ∈ scope.names.map _ from m)
  have e2 : (if (k' == NameKind.free && X.env.scope.kind == .function && X.env.kindOf n == some .cell) = true then (n, NameKind.cell) else (n, k')) = (y, k) := e'
  split at e2
  ·rename_i c
   rw [Bool.and_eq_true, Bool.and_eq_true] at c
   have := beq_iff_eq.mp c.1.1
   subst this
   cases e2
   exact hm
  ·cases e2
   rcases hk with rfl | rfl
   ·exact absurd rfl (hcell _ hm)
   ·exact hm
 rcases hy with hy | hy
 ·exact go _ (.inl rfl) hy
 ·exact go _ (.inr rfl) hy
theorem ps_setComp {iter elt : Expr} {scope : Scope} {pos spos py : Pos} {y : Str} {j : Nat} {own : List Str} {cs : List (Nat × Str)} {wi : TI} {g : TG} {te : TE} (hN : X.N.Nodup) (hj : X.N[j]? = some y) (hy : Loc X.env.scope y) (hc : X.calm = true) (hi : PI X tg iter wi)
  (hg : ∀ fp s2 H2 C, PG (X.inc (own ++ cs.map (·.2)) scope (clFold X.env.cells scope.names []) fp s2 H2 C) tg g) (he : ∀ fp s2 H2 C, PE (X.inc (own ++ cs.map (·.2)) scope (clFold X.env.cells scope.names []) fp s2 H2 C) elt te)
  (hfree : ∀ p ∈ scope.names, p.2 = .free → X.env.scope.names.lookup p.1 = some .cell) (hcell : ∀ y ∈ scope.names, y.2 ≠ .cell) (hkind : scope.kind = .function) (hnames : ∀ y ∈ scope.names, y.2 = .local → scope.names.lookup y.1 = some .local)
  (hcs : ∀ p ∈ cs, X.N[p.1]? = some p.2 ∧ X.env.scope.names.lookup p.2 = some .cell ∧ (relabel scope X.env).names.lookup p.2 = some .cell)
  (hsw : swapsWith (.ListComp elt [⟨tg, iter, [], 0⟩] scope pos) (some (.Name y py)) spos.line X.env = pure true := by rfl)
  (hs : ∀ x, foldedSetIterable iter X.env x = pure x := by intro _; rfl) (hf : X.fn y = true ∨ X.env.scope.names.lookup y = some .local := by first | exact .inl rfl | exact .inr rfl) :
  PS X (.Assign [.Name y py] (.ListComp elt [⟨tg, iter, [], 0⟩] scope pos) spos) (tAsg (tComp own.length cs wi g te) (gName j)) := by
 intro pins s σ H D I h
 have hfr : ∀ p ∈ scope.names, p.2 = .free → ∃ c, X.env.cells.lookup p.1 = some c := fun p hp hk => I.ok.has p.1 (.inl (hfree p hp hk))
 have hcl := clFold_sub (cells := X.env.cells) scope.names [] (fun _ _ z => by simp at z) hfr
 rw [exec_Assign_Name_used _ _ _ _ hsw]
 refine wpAny_bind (wpAny_standAt (wpAny_bind ?_))
 show wpAny _ X.A (do let _ ← comprehension (.ListComp elt [⟨tg, iter, [], 0⟩] scope pos) scope X.env _ (newList []) false (eval iter X.env) (some (assign (.Name y py) X.env))) _ _ s
 refine wpAny_bind (wpAny_mono (wpAny_comprehension_free (use := some (assign (.Name y py) X.env)) (Q := fun _ s' => SP X pins D .next s') rfl hs (clos_eq hfr) hkind hnames
  (thn (hi pins s σ H _ I h) fun v s1 h1 => thn h1 fun itv s2 h2 => ?_)) (fun _ s' hq => wpAny_pure (wpAny_pure hq)) fun _ _ e => e)
 obtain ⟨it, fp, tn, J, H2, rfl, I2, T, st2, f2, W, ⟨m0, w0⟩, turn⟩ := h2
 refine comp_block (QN := fun ys H5 => ∀ p, H5 p = none → D.nx (σ.set j (some (.ref p))) (upd H5 p (.lst ys))) hc hg he hcell hkind hcl (fun z hz => clFold_has scope.names [] z (.inr (free_of hcell hz))) hcs I2 T st2 f2 w0 turn ?_
 intro D' C s6 H5 ys inv dN cN dc hm hC q
 obtain ⟨m6, hn6⟩ := hm
 have I8 : Inv X pins σ (upd H5 D' (.lst ys)) s6 := inv s6.heap (Heap.SameBut.refl _ _)
 show wpAny _ X.A (assign (.Name y py) X.env (.ref D')) _ _ s6
 refine wpAny_assign_Name (store_ok2 (v := .ref D') I8 hN hj hy rfl (fun s7 I7 hsb => ?_) hf)
 obtain ⟨a, sb, ha⟩ := hsb
 have nC : C ≠ a := by
  rcases ha with rfl | ha
  ·exact Nat.ne_of_gt (Nat.lt_of_lt_of_le I2.lt hC)
  ·obtain ⟨v, o, ho, _⟩ := I2.cell y a ha
   exact Nat.ne_of_gt (Nat.lt_of_lt_of_le (Heap.lt_size ho) hC)
 refine ⟨m6, hn6.sameBut sb nC, fun h8 hs8 => ⟨_, _, ?_, q D' dN⟩⟩
 exact I7.turned (it := C) (t' := s7.toks) (fun b o hb e => (hs8.2 b hb).trans e) (by rw [upd_ne (Ne.symm dc)]; exact cN) (Nat.ne_of_gt (Nat.lt_of_lt_of_le I2.lt hC)) (.inr (Nat.le_trans I2.sz hC)) (fun x c e z => by
  obtain ⟨v, o, ho, _⟩ := I2.cell x c e
  exact absurd (Nat.lt_of_lt_of_le (Heap.lt_size ho) hC) (by rw [z]; exact Nat.lt_irrefl _)) (fun p hp z => absurd (Nat.lt_of_lt_of_le (Heap.lt_size (I2.pin p hp).1) hC) (by rw [z]; exact Nat.lt_irrefl _))
end
end L2
set_option Elab.async false
set_option linter.all false
set_option maxRecDepth 100000
set_option maxHeartbeats 4000000
namespace L2
open PySem PySem.Spec PyProof.Rows
section
variable {prog : Program} {w : World} {A : Around} {E : Value → Shared → Prop} {R : Result → Shared → Prop} {s : Shared}
theorem comp_turnsI {elt target iter tst : Expr} {scope : Scope} {pos : Pos} {it acc : Value} {env : Env} (J : Nat → Shared → Prop)
  (turn : ∀ n s, J n s → wpAny (model prog w) A (pyNext it) (fun r s1 => match r with
   | none => R (.ok .next) s1
   | some v => wpAny (model prog w) A (letOwnedTupleGo target it v) (fun _ s2 => wpAny (model prog w) A (assign target env v) (fun _ s3 => wpAny (model prog w) A (isTrue tst env (eval tst env)) (fun b s3' => if b = true then wpAny (model prog w) A (eval elt env) (fun x s4 =>
     wpAny (model prog w) A (call (.builtin "list.append") [acc, x]) (fun _ s5 => ∃ m, m < n ∧ J m s5) (fun _ _ => False) s4) (fun _ _ => False) s3' else ∃ m, m < n ∧ J m s3') (fun _ _ => False) s3) (fun _ _ => False) s2) (fun _ _ => False) s1) (fun _ _ => False) s) (n : Nat) (h : J n s) :
  codeAny (model prog w) A (.compLoop (.ListComp elt [⟨target, iter, [tst], 0⟩] scope pos) 0 it acc env) R s := by
 refine codeAny_loop rfl J (fun n s hJ => ?_) n h
 show wpAny _ A ((compTurn (.ListComp elt [⟨target, iter, [tst], 0⟩] scope pos) 0 it acc env).onRaise (fun y => do noteFrame y env; theTreesLotGoes y)) _ _ s
 (refine wpAny_noted ?_; rw [compTurn_list])
 refine wpAny_bind (wpAny_standAt (wpAny_bind (wpAny_mono (turn n s hJ) (fun r s1 q1 => ?_) fun _ _ z => z.elim)))
 cases r with
 | none => exact wpAny_pure q1
 | some v =>
  refine wpAny_bind (wpAny_mono q1 (fun _ s2 q2 => wpAny_bind (wpAny_mono q2 (fun _ s3 q3 => ?_) fun _ _ z => z.elim)) fun _ _ z => z.elim)
  refine wpAny_bind (wpAny_tests_one (wpAny_mono q3 (fun b s3' q3' => ?_) fun _ _ z => z.elim))
  cases b with
  | true => exact wpAny_bind (wpAny_bind (wpAny_mono q3' (fun x s4 q4 => (wpAny_bind (wpAny_mono q4 (fun _ s5 q5 => (wpAny_pure (wpAny_pure ⟨rfl, q5⟩))) fun _ _ z => z.elim))) fun _ _ z => z.elim))
  | false => exact wpAny_bind (wpAny_pure (wpAny_pure ⟨rfl, q3'⟩))
end
def tCompI (k : Nat) (cs : List (Nat × Str)) (wi : TI) (g : TG) (tt : TT) (te : TE) : TE := fun σ H Q => wi σ H fun J H1 => ∃ W : Nat → Nat → List V → Hp → Prop, (∃ m, W 0 m [] H1) ∧ ∀ i m ys H2, W i m ys H2 → ys.length ≤ sizeLine ∧
  ((J.stop i H2 ∧ ∀ p, H2 p = none → Q (.ref p) (upd H2 p (.lst ys))) ∨
   (J.go i H2 ∧ ∀ x H3, J.yld i H2 x H3 → g x (List.replicate k none ++ capsAt cs σ) H3 fun σ4 H4 => tt σ4 H4 fun b H5 => if b = true then te σ4 H5 fun y H6 => ∃ m', m' < m ∧ W (i + 1) m' (ys ++ [y]) H6 else ∃ m', m' < m ∧ W (i + 1) m' ys H5))
section
variable {X : Cx} {tg : Expr}
theorem comp_blockI {iter elt tst : Expr} {scope : Scope} {pos : Pos} {own : List Str} {cl : List (Str × Addr)} {cs : List (Nat × Str)} {g : TG} {te : TE} {tt : TT} {pins : List (Addr × Obj)} {s2 : Shared} {σ : St} {H2 : Hp} {it : Addr} {fp : List Addr} {tn : Nat → Heap → Prop} {J : It}
  {W : Nat → Nat → List V → Hp → Prop} {m0 : Nat} {QN : List V → Hp → Prop} {RR : Value → Addr → Result → Shared → Prop} {E : Value → Shared → Prop} (hc : X.calm = true)
  (hg : ∀ fp s2 H2 C, PG (X.inc (own ++ cs.map (·.2)) scope cl fp s2 H2 C) tg g) (ht : ∀ fp s2 H2 C, PT (X.inc (own ++ cs.map (·.2)) scope cl fp s2 H2 C) tst tt) (he : ∀ fp s2 H2 C, PE (X.inc (own ++ cs.map (·.2)) scope cl fp s2 H2 C) elt te)
  (hcell : ∀ y ∈ scope.names, y.2 ≠ .cell) (hkind : scope.kind = .function)
  (hcl : ∀ x c, cl.lookup x = some c → X.env.cells.lookup x = some c) (hhas : ∀ y, ((relabel scope X.env).names.lookup y = some .cell ∨ (relabel scope X.env).names.lookup y = some .free) → ∃ c, cl.lookup y = some c)
  (hcs : ∀ p ∈ cs, X.N[p.1]? = some p.2 ∧ X.env.scope.names.lookup p.2 = some .cell ∧ (relabel scope X.env).names.lookup p.2 = some .cell)
  (I2 : Inv X pins σ H2 s2) (T : Turn X.prog X.w X.K tg J fp it tn) (st2 : tn 0 s2.heap) (f2 : ∀ b ∈ fp, FpOk X pins H2 b) (w0 : W 0 m0 [] H2)
  (turn : ∀ i m ys H2, W i m ys H2 → ys.length ≤ sizeLine ∧ ((J.stop i H2 ∧ QN ys H2) ∨ (J.go i H2 ∧ ∀ x H3, J.yld i H2 x H3 → g x (List.replicate own.length none ++ capsAt cs σ) H3 fun σ4 H4 => tt σ4 H4 fun b H5 => if b = true then te σ4 H5 fun y H6 => ∃ m', m' < m ∧ W (i + 1) m' (ys ++ [y]) H6 else ∃ m', m' < m ∧ W (i + 1) m' ys H5)))
  (hRR : ∀ (D C : Addr) (s6 : Shared) (H5 : Hp) (ys : List V), (∀ h7, Heap.SameBut C s6.heap h7 → Inv X pins σ (upd H5 D (.lst ys)) { s6 with heap := h7 }) → H5 D = none → H5 C = none → D ≠ C → (∃ m, s6.heap.Ns C m) → s2.heap.objs.size ≤ C → QN ys H5 → RR (.ref D) C (.ok .next) s6) :
  wpAny (model X.prog X.w) X.A (newList []) (fun acc s₃ => wpAny (model X.prog X.w) X.A (newFunctionEnv scope X.env.globals cl [] X.env.qual none .none (some X.env)) (fun cenv s₄ =>
   codeAny (model X.prog X.w) X.A (.compStart (.ListComp elt [⟨tg, iter, [tst], 0⟩] scope pos) 0 (.ref it) acc { cenv with scope := relabel scope X.env }) (RR acc cenv.locals) s₄) E s₃) E s2 := by
 have hfp : ∀ b ∈ fp, b < s2.heap.objs.size := fun b hb => by
  obtain ⟨o, e, _⟩ := T.obj _ _ st2 b hb
  exact Heap.lt_size e
 refine wpAny_newObj_type (wpAny_newFunctionEnv hcell (by intro y hy; simp at hy) (fun h4 hns4 hsb4 => ?_) hkind)
 dsimp only at hns4 hsb4 ⊢
 generalize hH3 : s2.heap.push { cls := .type "list", dict := none, data := .seq ([] : List Value).toArray } = H3 at hns4 hsb4 ⊢
 have hCs : H3.objs.size = s2.heap.objs.size + 1 := by rw [← hH3, Heap.size_push]
 have hC : s2.heap.objs.size ≤ H3.objs.size := by omega
 have hDC : s2.heap.objs.size ≠ H3.objs.size := by omega
 have old : ∀ b o, s2.heap.get? b = some o → h4.get? b = some o := fun b o e => hsb4.extBut b o (by have := Heap.lt_size e; exact Nat.ne_of_lt (Nat.lt_of_lt_of_le this hC)) (Heap.get?_push_of_some _ (hH3 ▸ Heap.get?_push_of_some _ e))
 have hD4 : h4.get? s2.heap.objs.size = some { cls := .type "list", data := .seq ([] : List Value).toArray } := hsb4.extBut _ _ hDC (Heap.get?_push_of_some _ (hH3 ▸ Heap.get?_push_size _ rfl))
 obtain ⟨D, hDe⟩ : ∃ D, D = s2.heap.objs.size := ⟨_, rfl⟩
 obtain ⟨C, hCe⟩ : ∃ C, C = H3.objs.size := ⟨_, rfl⟩
 rw [← hCe] at hCs hns4 hsb4 hC hDC ⊢
 rw [← hDe] at hfp hCs hC hDC hD4 ⊢
 have ok' := I2.incOk (N' := own ++ cs.map (·.2)) (C := C) f2 (fun b hb => by rw [← hDe]; exact hfp b hb) hkind (by rw [← hDe]; exact hC) hcl hhas
 have I4 : Inv (X.inc (own ++ cs.map (·.2)) scope cl fp s2 H2 C) [] (List.replicate own.length none ++ capsAt cs σ) H2 { s2 with heap := h4, toks := s2.toks + ([] : List (Str × Value)).length } :=
  I2.incStart (s4 := { s2 with heap := h4, toks := s2.toks + ([] : List (Str × Value)).length }) ok' old rfl rfl hns4 (by rw [← hDe]; exact hC) hcl hcs
 have Dfree : H2 D = none := I2.hok.fresh (Nat.le_of_eq hDe.symm)
 have ltD : ∀ b o, s2.heap.get? b = some o → b ≠ D := fun b o e => by
  rw [hDe]
  exact Nat.ne_of_lt (Heap.lt_size e)
 have ltC : ∀ b o, s2.heap.get? b = some o → b ≠ C := fun b o e => Nat.ne_of_lt (Nat.lt_of_lt_of_le (by rw [hDe]; exact Heap.lt_size e) hC)
 have Dfs : D ∉ frs X.stack := fun hm => by
  obtain ⟨_, o, e, _⟩ := I2.stack.mem hm
  exact ltD _ _ e rfl
 have pinD : ∀ {σ' : St} {H' : Hp} {s' : Shared} {us : List Value} {n : Nat} {pl : List (Addr × Obj)}, Inv (X.inc (own ++ cs.map (·.2)) scope cl fp s2 H2 C) pl σ' H' s' → s'.heap.get? D = some { cls := .type "list", data := .seq us.toArray n } → H' D = none →
   Inv (X.inc (own ++ cs.map (·.2)) scope cl fp s2 H2 C) [(D, { cls := .type "list", data := .seq us.toArray n })] σ' H' s' := fun {σ' H' s' us n pl} J' e n' => J'.pins_of fun p hp => by
  rcases List.mem_singleton.mp hp with rfl
  exact ⟨e, n', hDC, Dfs, fun v z => by cases z⟩
 have fpok : ∀ {H' : Hp} {o : Obj}, (∀ b ∈ fp, H' b = none) → ∀ b ∈ fp, FpOk (X.inc (own ++ cs.map (·.2)) scope cl fp s2 H2 C) [(D, o)] H' b := fun {H' o} hn b hb => by
  refine ⟨hn b hb, (ok'.exf b hb).1, ok'.exfs b hb, .inl hb, (ok'.exf b hb).2, fun p hp => ?_⟩
  rcases List.mem_singleton.mp hp with rfl
  exact Nat.ne_of_gt (hfp b hb)
 have loop : ∀ s3 : Shared, s3 = { s2 with heap := h4, toks := s2.toks + ([] : List (Str × Value)).length } →
   codeAny (model X.prog X.w) X.A (.compLoop (.ListComp elt [⟨tg, iter, [tst], 0⟩] scope pos) 0 (.ref it) (.ref D) (compEnvC scope cl C X.env)) (RR (.ref D) C) s3 := by
  rintro s3 rfl
  refine comp_turnsI (fun n s' => ∃ i ys us nn H', Inv (X.inc (own ++ cs.map (·.2)) scope cl fp s2 H2 C) [(D, { cls := .type "list", data := .seq us.toArray nn })] (List.replicate own.length none ++ capsAt cs σ) H' s' ∧ tn i s'.heap ∧ (∀ b ∈ fp, H' b = none) ∧ Vals ys us ∧ W i n ys H') ?_ m0
   ⟨0, [], [], 0, H2, pinD (us := []) (n := 0) I4 hD4 Dfree, T.keep _ _ _ st2 fun b hb o e => old b o e, fun b hb => (f2 b hb).1, .nil, w0⟩
  rintro n s5 ⟨i, ys, us, nn, H5, I5, st5, fr5, vy, w5⟩
  obtain ⟨hz, ⟨stop, qn⟩ | ⟨go, step⟩⟩ := turn i n ys H5 w5
  ·refine wpAny_mono (T.done (X.inc (own ++ cs.map (·.2)) scope cl fp s2 H2 C) rfl rfl rfl hc i _ s5 _ H5 (fun _ _ => False) I5 (fpok fr5) st5 stop) (fun r s6 z => ?_) fun _ _ z => z
   obtain ⟨rfl, I6⟩ := z
   obtain ⟨m6, hn6, _⟩ := id I6.loc
   obtain ⟨pD, pN, _, _, _⟩ := I6.pin (D, { cls := .type "list", data := .seq us.toArray nn }) (by simp)
   have Cfree : H5 C = none := I6.free
   refine hRR D C s6 H5 ys (fun h7 hs7 => ?_) pN Cfree hDC ⟨m6, hn6⟩ (by rw [← hDe]; exact hC) qn
   have same : ∀ b, b ≠ C → h7.get? b = s6.heap.get? b := fun b hb => hs7.2 b hb
   have lt2 := ltC
   have u7 : Un (frs X.stack) fp H2 H5 s2.heap h7 := ⟨fun b o e n1 n2 n3 => (same b (lt2 b o e)).trans (I6.base.keep b o e n1 n2 n3), fun b o e n1 n2 n3 => by
     obtain ⟨sl, z⟩ := I6.base.slot b o e n1 n2 n3
     exact ⟨sl, (same b (lt2 b o e)).trans z⟩, I6.base.free, fun b o e n1 => by
     obtain ⟨o', z⟩ := I6.base.there b o e n1
     exact ⟨o', (same b (lt2 b o e)).trans z⟩, I6.base.tups, I6.base.frzs, I6.base.tbls⟩
   have hok7 : HOk X.prog X.w H5 h7 := fun a o e => by
    refine (I6.hok a o e).stay (fun c v hcc q => (same c ?_).trans q) (fun _ q => q) fun _ _ q => q
    rintro rfl
    rcases hcc with z | z
    ·rw [← z] at e; rw [Cfree] at e; cases e
    ·rw [Cfree] at z; cases z
   have I7 : Inv X pins σ H5 { s6 with heap := h7 } := I2.call' (s' := { s6 with heap := h7 }) I6.os u7 hok7 I6.bare fun b hb => ⟨(f2 b hb).2.2.2.1, (f2 b hb).2.1, (f2 b hb).2.2.2.2.1, (f2 b hb).2.2.2.2.2⟩
   exact I7.track (a := D) (o := .lst ys) pN (Heap.get?_none_of_le (by rw [hDe]; exact I2.sz)) (by rw [hDe]; exact Nat.ne_of_gt I2.lt) (fun x c e z => by
     obtain ⟨v, o, ho, _⟩ := I2.cell x c e
     exact ltD _ _ ho z) (fun p hp z => ltD _ _ (I2.pin p hp).1 z) ⟨hz, us, nn, vy, (same D hDC).trans pD⟩
  ·refine wpAny_mono (T.item (X.inc (own ++ cs.map (·.2)) scope cl fp s2 H2 C) rfl rfl rfl hc i _ s5 _ H5 (fun _ _ => False) I5 (fpok fr5) st5 go) (fun r s6 z => ?_) fun _ _ z => z
   obtain ⟨u, rfl, z⟩ := z
   refine wpAny_mono z (fun _ s7 ⟨x, H7, I7, r7, y7, st7, fr7⟩ => ?_) fun _ _ z => z
   have I7' := I7.pinned (fpok fr7) (T.obj _ _ st7)
   refine wpAny_mono (hg fp s2 H2 C _ s7 _ H7 x u _ I7' r7 (step x H7 y7)) (fun _ s8 ⟨σ8, H8, I8, q8⟩ => ?_) fun _ _ z => z
   refine wpAny_mono (ht fp s2 H2 C _ s8 σ8 H8 _ I8 q8) (fun bb s8' ⟨H8', I8', q8'⟩ => ?_) fun _ _ z => z
   cases bb with
   | true =>
    refine wpAny_mono (he fp s2 H2 C _ s8' σ8 H8' _ I8' q8') (fun uy s9 ⟨y, H9, I9, r9, m', hm', w9⟩ => ?_) fun _ _ z => z
    obtain ⟨pD, pN, _, _, _⟩ := I9.pin (D, { cls := .type "list", data := .seq us.toArray nn }) (by simp)
    refine append_at (its := us.toArray) (n := nn) pD (fun h10 hs10 hD10 => ?_) (by rw [List.size_toArray, ← vy.length]; exact hz)
    have keepfp : ∀ b ∈ fp, ∀ o, s7.heap.get? b = some o → s9.heap.get? b = some o ∧ H9 b = none := fun b hb o e => by
     have z := I9.pin (b, o) (List.mem_append_right _ (List.mem_append_right _ (mem_pinsAt hb e)))
     exact ⟨z.1, z.2.1⟩
    have I9' : Inv (X.inc (own ++ cs.map (·.2)) scope cl fp s2 H2 C) [] (List.replicate own.length none ++ capsAt cs σ) H9 s9 := I2.incAgain I9 f2 hcl hcs
    have I10 : Inv (X.inc (own ++ cs.map (·.2)) scope cl fp s2 H2 C) [] (List.replicate own.length none ++ capsAt cs σ) H9 { s9 with heap := h10 } := I9'.turned (it := D) (t' := s9.toks) (fun b o hb e => (hs10.2 b hb).trans e) pN hDC (.inr (Nat.le_of_eq hDe.symm)) (fun x c e z => by
      obtain ⟨v, o, ho, _⟩ := I2.cell x c (hcl x c e)
      exact ltD _ _ ho z) fun p hp => by simp at hp
    rw [lstP] at hD10
    refine ⟨m', hm', i + 1, ys ++ [y], us ++ [uy], nn + 1, H9, pinD I10 hD10 pN, T.keep _ _ _ st7 fun b hb o e => ?_, fun b hb => ?_, vy.append (.cons r9 .nil), w9⟩
    ·exact (hs10.2 b (Nat.ne_of_lt (hfp b hb))).trans (keepfp b hb o e).1
    ·obtain ⟨o, e, _⟩ := T.obj _ _ st7 b hb
     exact (keepfp b hb o e).2
   | false =>
    obtain ⟨m', hm', w9⟩ := q8'
    obtain ⟨pD, pN, _, _, _⟩ := I8'.pin (D, { cls := .type "list", data := .seq us.toArray nn }) (by simp)
    have keepfp : ∀ b ∈ fp, ∀ o, s7.heap.get? b = some o → s8'.heap.get? b = some o ∧ H8' b = none := fun b hb o e => by
     have z := I8'.pin (b, o) (List.mem_append_right _ (List.mem_append_right _ (mem_pinsAt hb e)))
     exact ⟨z.1, z.2.1⟩
    have I9' : Inv (X.inc (own ++ cs.map (·.2)) scope cl fp s2 H2 C) [] (List.replicate own.length none ++ capsAt cs σ) H8' s8' := I2.incAgain I8' f2 hcl hcs
    refine ⟨m', hm', i + 1, ys, us, nn, H8', pinD I9' pD pN, T.keep _ _ _ st7 fun b hb o e => (keepfp b hb o e).1, fun b hb => ?_, vy, w9⟩
    obtain ⟨o, e, _⟩ := T.obj _ _ st7 b hb
    exact (keepfp b hb o e).2
 exact codeAny_compStart_list (loop _ rfl) (T.self _ 0 _ _ _ (T.keep _ _ _ st2 fun b hb o e => old b o e) (loop _ rfl))
theorem ps_setCompI {iter elt tst : Expr} {scope : Scope} {pos spos py : Pos} {y : Str} {j : Nat} {own : List Str} {cs : List (Nat × Str)} {wi : TI} {g : TG} {te : TE} {tt : TT} (hN : X.N.Nodup) (hj : X.N[j]? = some y) (hy : Loc X.env.scope y) (hc : X.calm = true) (hi : PI X tg iter wi)
  (hg : ∀ fp s2 H2 C, PG (X.inc (own ++ cs.map (·.2)) scope (clFold X.env.cells scope.names []) fp s2 H2 C) tg g) (ht : ∀ fp s2 H2 C, PT (X.inc (own ++ cs.map (·.2)) scope (clFold X.env.cells scope.names []) fp s2 H2 C) tst tt) (he : ∀ fp s2 H2 C, PE (X.inc (own ++ cs.map (·.2)) scope (clFold X.env.cells scope.names []) fp s2 H2 C) elt te)
  (hfree : ∀ p ∈ scope.names, p.2 = .free → X.env.scope.names.lookup p.1 = some .cell) (hcell : ∀ y ∈ scope.names, y.2 ≠ .cell) (hkind : scope.kind = .function) (hnames : ∀ y ∈ scope.names, y.2 = .local → scope.names.lookup y.1 = some .local)
  (hcs : ∀ p ∈ cs, X.N[p.1]? = some p.2 ∧ X.env.scope.names.lookup p.2 = some .cell ∧ (relabel scope X.env).names.lookup p.2 = some .cell)
  (hsw : swapsWith (.ListComp elt [⟨tg, iter, [tst], 0⟩] scope pos) (some (.Name y py)) spos.line X.env = pure true := by rfl)
  (hs : ∀ x, foldedSetIterable iter X.env x = pure x := by intro _; rfl) (hf : X.fn y = true ∨ X.env.scope.names.lookup y = some .local := by first | exact .inl rfl | exact .inr rfl) :
  PS X (.Assign [.Name y py] (.ListComp elt [⟨tg, iter, [tst], 0⟩] scope pos) spos) (tAsg (tCompI own.length cs wi g tt te) (gName j)) := by
 intro pins s σ H D I h
 have hfr : ∀ p ∈ scope.names, p.2 = .free → ∃ c, X.env.cells.lookup p.1 = some c := fun p hp hk => I.ok.has p.1 (.inl (hfree p hp hk))
 have hcl := clFold_sub (cells := X.env.cells) scope.names [] (fun _ _ z => by simp at z) hfr
 rw [exec_Assign_Name_used _ _ _ _ hsw]
 refine wpAny_bind (wpAny_standAt (wpAny_bind ?_))
 show wpAny _ X.A (do let _ ← comprehension (.ListComp elt [⟨tg, iter, [tst], 0⟩] scope pos) scope X.env _ (newList []) false (eval iter X.env) (some (assign (.Name y py) X.env))) _ _ s
 refine wpAny_bind (wpAny_mono (wpAny_comprehension_free (use := some (assign (.Name y py) X.env)) (Q := fun _ s' => SP X pins D .next s') rfl hs (clos_eq hfr) hkind hnames
  (thn (hi pins s σ H _ I h) fun v s1 h1 => thn h1 fun itv s2 h2 => ?_)) (fun _ s' hq => wpAny_pure (wpAny_pure hq)) fun _ _ e => e)
 obtain ⟨it, fp, tn, J, H2, rfl, I2, T, st2, f2, W, ⟨m0, w0⟩, turn⟩ := h2
 refine comp_blockI (QN := fun ys H5 => ∀ p, H5 p = none → D.nx (σ.set j (some (.ref p))) (upd H5 p (.lst ys))) hc hg ht he hcell hkind hcl (fun z hz => clFold_has scope.names [] z (.inr (free_of hcell hz))) hcs I2 T st2 f2 w0 turn ?_
 intro D' C s6 H5 ys inv dN cN dc hm hC q
 obtain ⟨m6, hn6⟩ := hm
 have I8 : Inv X pins σ (upd H5 D' (.lst ys)) s6 := inv s6.heap (Heap.SameBut.refl _ _)
 show wpAny _ X.A (assign (.Name y py) X.env (.ref D')) _ _ s6
 refine wpAny_assign_Name (store_ok2 (v := .ref D') I8 hN hj hy rfl (fun s7 I7 hsb => ?_) hf)
 obtain ⟨a, sb, ha⟩ := hsb
 have nC : C ≠ a := by
  rcases ha with rfl | ha
  ·exact Nat.ne_of_gt (Nat.lt_of_lt_of_le I2.lt hC)
  ·obtain ⟨v, o, ho, _⟩ := I2.cell y a ha
   exact Nat.ne_of_gt (Nat.lt_of_lt_of_le (Heap.lt_size ho) hC)
 refine ⟨m6, hn6.sameBut sb nC, fun h8 hs8 => ⟨_, _, ?_, q D' dN⟩⟩
 exact I7.turned (it := C) (t' := s7.toks) (fun b o hb e => (hs8.2 b hb).trans e) (by rw [upd_ne (Ne.symm dc)]; exact cN) (Nat.ne_of_gt (Nat.lt_of_lt_of_le I2.lt hC)) (.inr (Nat.le_trans I2.sz hC)) (fun x c e z => by
  obtain ⟨v, o, ho, _⟩ := I2.cell x c e
  exact absurd (Nat.lt_of_lt_of_le (Heap.lt_size ho) hC) (by rw [z]; exact Nat.lt_irrefl _)) (fun p hp z => absurd (Nat.lt_of_lt_of_le (Heap.lt_size (I2.pin p hp).1) hC) (by rw [z]; exact Nat.lt_irrefl _))
end
end L2
set_option Elab.async false
set_option linter.all false
set_option maxRecDepth 100000
set_option maxHeartbeats 4000000
namespace L2
open PySem PySem.Spec PyProof.Rows
section
variable {X : Cx} {pins : List (Addr × Obj)} {σ : St} {H : Hp} {s : Shared} {h' : Heap}
end
section
variable {X : Cx} {elts : List Expr} {x1 : Nat} {tp : Pos}
end
section
variable {σ : St} {H : Hp} {Q : VK} {td ty tv tx : TE} {K : PySem.W.Frag} {En : Ends}
theorem y3ay : tDGet td ty σ H Q = td σ H fun x H1 => ty σ H1 fun y H2 => ∃ a v, x = .ref a ∧ DGet H2 a y (some v) ∧ Q v H2 := rfl
theorem y43y : sDPut td ty tv En σ H = tv σ H fun v H1 => td σ H1 fun x H2 => ty σ H2 fun y H3 => ∃ a H4, x = .ref a ∧ DPut H3 a y v H4 ∧ En.nx σ H4 := rfl
theorem y40y : tDNewT σ H Q = ∀ p, H p = none → Q (.ref p) (upd H p (.dT [])) := rfl
theorem y3fy : tDNewK σ H Q = ∀ p, H p = none → Q (.ref p) (upd H p (.dK [])) := rfl
end
end L2
set_option Elab.async false
set_option linter.all false
set_option maxRecDepth 100000
set_option maxHeartbeats 4000000
namespace L2
open PySem PySem.Spec PyProof.Rows
theorem hu1 {a b : Nat} (h : a + 64 < b) : a + 1 < b := by omega
section
variable {X : Cx}
def rMul0 : R2 := fun x y H Q => match x, y with
 | .str z, .int n => 0 ≤ n ∧ n < 1000 ∧ z.length ≤ 1000 ∧ ∀ z' : Str, z'.cps.toList = (List.replicate n.toNat z.cps.toList).flatten → Q (.str z') H
 | x, y => rMulS x y H Q
theorem op_mul0 : OpR X (binaryOp .Mult) rMul0 := fun pins s σ H x y v u Q I rx ry q => by
 unfold rMul0 at q
 split at q
 ·rename_i z n
  obtain ⟨h0, h1, h2, q⟩ := q
  by_cases hn : n = 0
  ·subst hn
   obtain ⟨t, rfl⟩ := rx
   obtain ⟨t', rfl⟩ := ry
   exact PySem.P.mul_str_none (by decide) (by decide) ⟨.str _, H, I.tok _, ⟨_, rfl⟩, q Str.empty rfl⟩
  ·exact op_mulS pins s σ H _ _ v u Q I rx ry ⟨by omega, h1, h2, q⟩
 ·exact op_mulS pins s σ H _ _ v u Q I rx ry q
end
section
variable {K : PySem.W.Frag} {H : Hp} {Q : VK} {σ : St} {td ty : TE}
theorem y68y {i j : Int} : rMul0 (.int i) (.int j) H Q = (IntMulOk i j ∧ Q (.int (i * j)) H) := rfl
theorem y3by : tDGet1 td ty σ H Q = td σ H fun x H1 => ∃ a, x = .ref a ∧ IsD H1 a ∧ ty σ H1 fun y H2 => ∃ o, DGet H2 a y o ∧ Q (o.getD .non) H2 := rfl
theorem cut_to {xs : List V} {j : Nat} (h : j ≤ xs.length) : cutV xs none (some (j : Int)) = xs.take j := by
 unfold cutV HT.sIx
 dsimp only
 rw [if_neg (by omega)]
 simp only [List.drop_zero, Nat.sub_zero]
 congr 1
 omega
end
end L2
namespace L2
open PySem PySem.Spec PyProof.Rows
theorem ForA.byL {K : PySem.W.Frag} {a : Addr} {xs : List V} {g : TG} {tb : TS} {D : Ends} {σ : St} {H : Hp} (hA : SqL K H a xs) (Pv : Nat → St → Hp → Prop) (h0 : Pv 0 σ H) (hl : ∀ i σ H', Pv i σ H' → SqL K H' a xs)
  (hs : ∀ i x σ H, xs[i]? = some x → Pv i σ H → g x σ H fun σ2 H2 => tb { D with nx := Pv (i + 1), ct := Pv (i + 1), bk := D.nx } σ2 H2) (hd : ∀ σ H, Pv xs.length σ H → D.nx σ H) : ForA K a g tb D σ H := by
 refine .inl ⟨⟨xs, hA⟩, fun i m σ H => Pv i σ H ∧ i ≤ xs.length ∧ m = xs.length - i, ⟨_, h0, Nat.zero_le _, rfl⟩, ?_⟩
 rintro i m σ H ⟨hp, hi, rfl⟩
 have hq := hl i σ H hp
 by_cases lt : i < xs.length
 ·refine .inr ⟨⟨xs, xs[i], hq, List.getElem?_eq_getElem lt⟩, Pv (i + 1), fun σ' H' p => ⟨_, Nat.sub_lt_sub_left lt (Nat.lt_succ_self i), p, lt, rfl⟩, ?_⟩
  rintro x H' ⟨rfl, hx⟩
  exact hs i x σ _ (hx xs hq) hp
 ·have e : i = xs.length := by omega
  subst e
  exact .inl ⟨⟨xs, hq, Nat.le_refl _⟩, hd σ H hp⟩
theorem compL {K : PySem.W.Frag} {cs : List (Nat × Str)} {k : Nat} {g : TG} {te : TE} {σ : St} {a : Addr} {xs : List V} {H1 : Hp} {Q : VK} (Pv : Nat → List V → Hp → Prop) (h0 : Pv 0 [] H1) (hl : ∀ i ys H', i ≤ xs.length → Pv i ys H' → SqL K H' a xs ∧ ys.length ≤ sizeLine)
  (hs : ∀ i x ys H2, xs[i]? = some x → Pv i ys H2 → g x (List.replicate k none ++ capsAt cs σ) H2 fun σ4 H4 => te σ4 H4 fun y H5 => Pv (i + 1) (ys ++ [y]) H5) (hd : ∀ ys H2, Pv xs.length ys H2 → ∀ p, H2 p = none → Q (.ref p) (upd H2 p (.lst ys))) :
  ∃ W : Nat → Nat → List V → Hp → Prop, (∃ m, W 0 m [] H1) ∧ ∀ i m ys H2, W i m ys H2 → ys.length ≤ sizeLine ∧ (((Itl K a).stop i H2 ∧ ∀ p, H2 p = none → Q (.ref p) (upd H2 p (.lst ys))) ∨
   ((Itl K a).go i H2 ∧ ∀ x H3, (Itl K a).yld i H2 x H3 → g x (List.replicate k none ++ capsAt cs σ) H3 fun σ4 H4 => te σ4 H4 fun y H5 => ∃ m', m' < m ∧ W (i + 1) m' (ys ++ [y]) H5)) := by
 refine ⟨fun i m ys H2 => Pv i ys H2 ∧ i ≤ xs.length ∧ m = xs.length - i, ⟨_, h0, Nat.zero_le _, rfl⟩, ?_⟩
 rintro i m ys H2 ⟨hp, hi, rfl⟩
 obtain ⟨hq, hz⟩ := hl i ys H2 hi hp
 refine ⟨hz, ?_⟩
 by_cases lt : i < xs.length
 ·refine .inr ⟨⟨xs, xs[i], hq, List.getElem?_eq_getElem lt⟩, ?_⟩
  rintro x H3 ⟨rfl, hx⟩
  have e : (fun (σ4 : St) (H4 : Hp) => te σ4 H4 fun y H5 => Pv (i + 1) (ys ++ [y]) H5) = fun σ4 H4 => te σ4 H4 fun y H5 => ∃ m', m' < xs.length - i ∧ Pv (i + 1) (ys ++ [y]) H5 ∧ i + 1 ≤ xs.length ∧ m' = xs.length - (i + 1) := by
   funext σ4 H4
   congr 1
   funext y H5
   exact propext ⟨fun q => ⟨_, Nat.sub_lt_sub_left lt (Nat.lt_succ_self i), q, lt, rfl⟩, fun ⟨_, _, q, _⟩ => q⟩
  rw [← e]
  exact hs i x ys _ (hx xs hq) hp
 ·have e : i = xs.length := by omega
  subst e
  exact .inl ⟨⟨xs, hq, Nat.le_refl _⟩, hd ys H2 hp⟩
theorem compIL {K : PySem.W.Frag} {cs : List (Nat × Str)} {k : Nat} {g : TG} {tt : TT} {te : TE} {σ : St} {a : Addr} {xs : List V} {H1 : Hp} {Q : VK} (Pv : Nat → List V → Hp → Prop) (h0 : Pv 0 [] H1) (hl : ∀ i ys H', i ≤ xs.length → Pv i ys H' → SqL K H' a xs ∧ ys.length ≤ sizeLine)
  (hs : ∀ i x ys H2, xs[i]? = some x → Pv i ys H2 → g x (List.replicate k none ++ capsAt cs σ) H2 fun σ4 H4 => tt σ4 H4 fun b H5 => if b = true then te σ4 H5 fun y H6 => Pv (i + 1) (ys ++ [y]) H6 else Pv (i + 1) ys H5) (hd : ∀ ys H2, Pv xs.length ys H2 → ∀ p, H2 p = none → Q (.ref p) (upd H2 p (.lst ys))) :
  ∃ W : Nat → Nat → List V → Hp → Prop, (∃ m, W 0 m [] H1) ∧ ∀ i m ys H2, W i m ys H2 → ys.length ≤ sizeLine ∧ (((Itl K a).stop i H2 ∧ ∀ p, H2 p = none → Q (.ref p) (upd H2 p (.lst ys))) ∨
   ((Itl K a).go i H2 ∧ ∀ x H3, (Itl K a).yld i H2 x H3 → g x (List.replicate k none ++ capsAt cs σ) H3 fun σ4 H4 => tt σ4 H4 fun b H5 => if b = true then te σ4 H5 fun y H6 => ∃ m', m' < m ∧ W (i + 1) m' (ys ++ [y]) H6 else ∃ m', m' < m ∧ W (i + 1) m' ys H5)) := by
 refine ⟨fun i m ys H2 => Pv i ys H2 ∧ i ≤ xs.length ∧ m = xs.length - i, ⟨_, h0, Nat.zero_le _, rfl⟩, ?_⟩
 rintro i m ys H2 ⟨hp, hi, rfl⟩
 obtain ⟨hq, hz⟩ := hl i ys H2 hi hp
 refine ⟨hz, ?_⟩
 by_cases lt : i < xs.length
 ·refine .inr ⟨⟨xs, xs[i], hq, List.getElem?_eq_getElem lt⟩, ?_⟩
  rintro x H3 ⟨rfl, hx⟩
  have w : ∀ (zs : List V) (H5 : Hp), Pv (i + 1) zs H5 = ∃ m', m' < xs.length - i ∧ Pv (i + 1) zs H5 ∧ i + 1 ≤ xs.length ∧ m' = xs.length - (i + 1) := fun zs H5 =>
   propext ⟨fun q => ⟨_, Nat.sub_lt_sub_left lt (Nat.lt_succ_self i), q, lt, rfl⟩, fun ⟨_, _, q, _⟩ => q⟩
  have w1 : (fun (y : V) (H6 : Hp) => Pv (i + 1) (ys ++ [y]) H6) = fun y H6 => ∃ m', m' < xs.length - i ∧ Pv (i + 1) (ys ++ [y]) H6 ∧ i + 1 ≤ xs.length ∧ m' = xs.length - (i + 1) := by
   funext y H6
   exact w _ _
  have e : (fun (σ4 : St) (H4 : Hp) => tt σ4 H4 fun b H5 => if b = true then te σ4 H5 fun y H6 => Pv (i + 1) (ys ++ [y]) H6 else Pv (i + 1) ys H5) = fun σ4 H4 => tt σ4 H4 fun b H5 => if b = true then te σ4 H5 fun y H6 => ∃ m', m' < xs.length - i ∧ Pv (i + 1) (ys ++ [y]) H6 ∧ i + 1 ≤ xs.length ∧ m' = xs.length - (i + 1) else ∃ m', m' < xs.length - i ∧ Pv (i + 1) ys H5 ∧ i + 1 ≤ xs.length ∧ m' = xs.length - (i + 1) := by
   funext σ4 H4
   congr 1
   funext b H5
   by_cases hb : b = true
   ·rw [if_pos hb, if_pos hb, ← w1]
   ·rw [if_neg hb, if_neg hb]
    exact w ys H5
  have := hs i x ys _ (hx xs hq) hp
  rw [e] at this
  exact this
 ·have e : i = xs.length := by omega
  subst e
  exact .inl ⟨⟨xs, hq, Nat.le_refl _⟩, hd ys H2 hp⟩
end L2
set_option linter.all false
set_option maxHeartbeats 4000000
namespace Ch
open PySem
structure TD where
 nm : Str
 st : Str
 en : Str
 lo : Option (Int × Int)
 hi : Option (Int × Int)
structure SD where
 src : Str
 dst : Str
 c : Int × Int
 nm : Str
 fw : Bool
def fwd (t : TD) : List SD := match t.hi with
 | some h => [⟨t.st, t.en, h, t.nm, true⟩]
 | none => []
def bwd (t : TD) : List SD := match t.lo with
 | some l => [⟨t.en, t.st, (-l.1, l.2), t.nm, false⟩]
 | none => []
def steps (t : TD) : List SD := fwd t ++ bwd t
def all (ts : List TD) : List SD := ts.flatMap steps
abbrev Pr := Str × Bool
def key (s : SD) : Pr := (s.nm, s.fw)
def find (ss : List SD) (k : Pr) : Option SD := ss.find? fun s => decide (key s = k)
def lastA (acc : Option SD) (ss : List SD) (k : Pr) : Option SD := ss.foldl (fun a s => if key s = k then some s else a) acc
def last (ss : List SD) (k : Pr) : Option SD := lastA none ss k
def addF (a c : Int × Int) : Int × Int := (Mth.top (a.1 * c.2 + c.1 * a.2) (a.2 * c.2), Mth.bot (a.1 * c.2 + c.1 * a.2) (a.2 * c.2))
structure FOk (n : Nat) (a : Int × Int) : Prop where
 s1 : Mth.Sz n a.1
 s2 : Mth.Sz n a.2
 b1 : 1 ≤ a.2
 g1 : Mth.g a.1 a.2 = 1
end Ch
set_option Elab.async false
set_option linter.all false
set_option maxRecDepth 100000
set_option maxHeartbeats 4000000
namespace L2
open PySem PySem.Spec PyProof.Rows Ch
def isTF : HO → Bool
 | .tup _ => true
 | .frz _ _ => true
 | _ => false
def SameT (H H' : Hp) : Prop := ∀ b u, isTF u = true → H b = some u → H' b = some u
theorem SameT.refl (H : Hp) : SameT H H := fun _ _ _ h => h
theorem SameT.trans {H H1 H2 : Hp} (a : SameT H H1) (b : SameT H1 H2) : SameT H H2 := fun c o t h => b c o t (a c o t h)
theorem Same.t {H H' : Hp} (a : Same H H') : SameT H H' := fun b u _ h => a b u h
theorem SameT.put {H H' : Hp} {l : Addr} {o o' : HO} (e : upd H l o = H') (hl : H l = some o') (ht : isTF o' = false) : SameT H H' := fun b u t h => by
 rw [← e, upd_ne (ne_of h hl fun q => by rw [q, ht] at t; cases t)]
 exact h
theorem SqT.sameT {K : PySem.W.Frag} {H H' : Hp} {a : Addr} {xs : List V} (e : SameT H H') (h : SqT K H a xs) : SqT K H' a xs := by
 rcases h with (h | ⟨o, h⟩) | h
 ·exact .inl (.inl (e _ _ rfl h))
 ·exact .inl (.inr ⟨o, e _ _ rfl h⟩)
 ·exact .inr h
theorem FrV.sameT {K : PySem.W.Frag} {H H' : Hp} {v : V} {a b : Int} (S : SameT H H') (h : FrV K H v a b) : FrV K H' v a b := by
 obtain ⟨p, e, q⟩ := h
 exact ⟨p, e, q.sameT S⟩
def frD (a : Int × Int) : D := .tup [.int a.1, .int a.2]
def bD : Option (Int × Int) → D
 | none => .non
 | some a => frD a
def tdD (t : TD) : D := .tup [.str t.nm, .str t.st, .str t.en, bD t.lo, bD t.hi]
def pD (s : SD) : D := .tup [.str s.src, .str s.dst, frD s.c, .bl s.fw]
def BV (K : PySem.W.Frag) (H : Hp) : Option (Int × Int) → V → Prop
 | none, v => v = .non
 | some a, v => FrV K H v a.1 a.2
theorem BV.rep {K : PySem.W.Frag} {H : Hp} {o : Option (Int × Int)} {v : V} (h : BV K H o v) : Rep K H (bD o) v := by
 cases o with
 | none => simp only [bD, Rep]; exact h
 | some a => exact FrV.rep h
theorem BV.sameT {K : PySem.W.Frag} {H H' : Hp} {o : Option (Int × Int)} {v : V} (S : SameT H H') (h : BV K H o v) : BV K H' o v := by
 cases o with
 | none => exact h
 | some a => exact FrV.sameT S h
def TV (K : PySem.W.Frag) (H : Hp) (t : TD) (x : V) : Prop := ∃ b vl vg, x = .ref b ∧ SqT K H b [.str t.nm, .str t.st, .str t.en, vl, vg] ∧ BV K H t.lo vl ∧ BV K H t.hi vg
def PV (K : PySem.W.Frag) (H : Hp) (s : SD) (x : V) : Prop := ∃ b v, x = .ref b ∧ SqT K H b [.str s.src, .str s.dst, v, .bl s.fw] ∧ FrV K H v s.c.1 s.c.2
def CV (H : Hp) (c : Pr) (x : V) : Prop := ∃ b, x = .ref b ∧ H b = some (.tup [.str c.1, .bl c.2])
section
variable {K : PySem.W.Frag} {H H' : Hp}
theorem TV.sameT {t : TD} {x : V} (S : SameT H H') : TV K H t x → TV K H' t x := fun ⟨b, vl, vg, e, q, h1, h2⟩ => ⟨b, vl, vg, e, q.sameT S, h1.sameT S, h2.sameT S⟩
theorem PV.sameT {s : SD} {x : V} (S : SameT H H') : PV K H s x → PV K H' s x := fun ⟨b, v, e, q, h⟩ => ⟨b, v, e, q.sameT S, h.sameT S⟩
theorem CV.sameT {c : Pr} {x : V} (S : SameT H H') : CV H c x → CV H' c x := fun ⟨b, e, q⟩ => ⟨b, e, S _ _ rfl q⟩
theorem TV.rep {t : TD} {x : V} : TV K H t x → Rep K H (tdD t) x := fun ⟨b, vl, vg, e, q, h1, h2⟩ => by
 simp only [tdD, Rep, RepL]
 exact ⟨b, _, e, q, _, _, rfl, rfl, _, _, rfl, rfl, _, _, rfl, rfl, _, _, rfl, h1.rep, _, _, rfl, h2.rep, rfl⟩
end
def All2 {α : Type} (P : α → V → Prop) : List α → List V → Prop
 | [], xs => xs = []
 | a :: as, xs => ∃ x r, xs = x :: r ∧ P a x ∧ All2 P as r
section
variable {α : Type} {P P' : α → V → Prop}
theorem All2.mono : ∀ {as : List α} {xs : List V}, (∀ a x, P a x → P' a x) → All2 P as xs → All2 P' as xs
 | [], _, _, h => h
 | a :: as, xs, f, h => by
  obtain ⟨x, r, e, h1, h2⟩ := h
  exact ⟨x, r, e, f _ _ h1, All2.mono f h2⟩
theorem All2.length : ∀ {as : List α} {xs : List V}, All2 P as xs → xs.length = as.length
 | [], _, h => by rw [show _ = _ from h]; rfl
 | a :: as, xs, h => by
  obtain ⟨x, r, e, h1, h2⟩ := h
  rw [e, List.length_cons, List.length_cons, h2.length]
theorem All2.at_ : ∀ {as : List α} {xs : List V} {i : Nat} {x : V}, All2 P as xs → xs[i]? = some x → ∃ a, as[i]? = some a ∧ P a x
 | [], _, _, _, h, hx => by rw [show _ = _ from h] at hx; simp at hx
 | a :: as, xs, i, y, h, hx => by
  obtain ⟨x, r, e, h1, h2⟩ := h
  subst e
  cases i with
  | zero => simp at hx; subst hx; exact ⟨a, rfl, h1⟩
  | succ i => simpa using All2.at_ h2 (by simpa using hx)
theorem All2.get : ∀ {as : List α} {xs : List V} {i : Nat} {a : α}, All2 P as xs → as[i]? = some a → ∃ x, xs[i]? = some x ∧ P a x
 | [], _, _, _, h, hx => by simp at hx
 | a :: as, xs, i, b, h, hx => by
  obtain ⟨x, r, e, h1, h2⟩ := h
  subst e
  cases i with
  | zero => simp at hx; subst hx; exact ⟨x, rfl, h1⟩
  | succ i => simpa using All2.get h2 (by simpa using hx)
theorem All2.append : ∀ {as bs : List α} {xs ys : List V}, All2 P as xs → All2 P bs ys → All2 P (as ++ bs) (xs ++ ys)
 | [], bs, xs, ys, h, g => by rw [show xs = [] from h]; exact g
 | a :: as, bs, xs, ys, h, g => by
  obtain ⟨x, r, e, h1, h2⟩ := h
  subst e
  exact ⟨x, r ++ ys, rfl, h1, All2.append h2 g⟩
theorem All2.one {a : α} {x : V} (h : P a x) : All2 P [a] [x] := ⟨x, [], rfl, h, rfl⟩
theorem All2.take : ∀ {as : List α} {xs : List V} (j : Nat), All2 P as xs → All2 P (as.take j) (xs.take j)
 | as, xs, 0, _ => by simp only [List.take_zero]; exact rfl
 | [], xs, j + 1, h => by rw [show xs = [] from h]; simp; exact rfl
 | a :: as, xs, j + 1, h => by
  obtain ⟨x, r, e, h1, h2⟩ := h
  subst e
  exact ⟨x, r.take j, by simp, h1, All2.take j h2⟩
theorem All2.drop : ∀ {as : List α} {xs : List V} (j : Nat), All2 P as xs → All2 P (as.drop j) (xs.drop j)
 | as, xs, 0, h => by simpa using h
 | [], xs, j + 1, h => by rw [show xs = [] from h]; simp; exact rfl
 | a :: as, xs, j + 1, h => by
  obtain ⟨x, r, e, h1, h2⟩ := h
  subst e
  simpa using All2.drop j h2
end
structure TOk (t : TD) : Prop where
 n1 : nameS t.nm = true
 n2 : nameS t.st = true
 n3 : nameS t.en = true
 ne : t.st ≠ t.en
 lo : ∀ a, t.lo = some a → FOk 600 a
 hi : ∀ a, t.hi = some a → FOk 600 a
 le : lessD (bD t.hi) (bD t.lo) = false
theorem len8 {z : Str} (h : nameS z = true) : z.length ≤ 8 := by
 unfold nameS at h
 simp only [Bool.and_eq_true, decide_eq_true_eq] at h
 exact h.1.2
theorem bD_ok {o : Option (Int × Int)} (h : ∀ a, o = some a → FOk 600 a) : boundB (bD o) = true ∧ szD (bD o) := by
 cases o with
 | none => exact ⟨rfl, by simp only [bD, szD]⟩
 | some a =>
  have k := h a rfl
  refine ⟨by simp [bD, frD, boundB, fracB, k.b1, k.g1], ?_⟩
  simp only [bD, frD, szD, szL]
  exact ⟨k.s1.mono (by decide), k.s2.mono (by decide), trivial⟩
theorem TOk.tie {t : TD} (h : TOk t) : tieB (tdD t) = true := by
 have e : eqD (.str t.st) (.str t.en) = false := by simp only [eqD, beq_eq_false_iff_ne]; exact h.ne
 simp [tdD, tieB, nameB, facesB, h.n1, h.n2, h.n3, e, boundsB, (bD_ok h.lo).1, (bD_ok h.hi).1, h.le]
theorem TOk.sz {t : TD} (h : TOk t) : szD (tdD t) := by
 simp only [tdD, szD, szL]
 have := len8 h.n1
 have := len8 h.n2
 have := len8 h.n3
 exact ⟨by omega, by omega, by omega, (bD_ok h.lo).2, (bD_ok h.hi).2, trivial⟩
def kP (c : Pr) : List Key := [.inr c.1, .inl c.2]
def DOk (K : PySem.W.Frag) (H : Hp) (kvs : List (List Key × V)) (ss : List SD) : Prop := ∀ c : Pr, match last ss c with
 | none => valV kvs (kP c) = none
 | some s => ∃ v, valV kvs (kP c) = some v ∧ PV K H s v
theorem DOk.nil {K : PySem.W.Frag} {H : Hp} : DOk K H [] [] := fun c => rfl
end L2
set_option Elab.async false
set_option linter.all false
set_option maxRecDepth 100000
set_option maxHeartbeats 4000000
namespace L2
open PySem PySem.Spec PyProof.Rows Ch
section
variable {K : PySem.W.Frag} {H : Hp} {kvs : List (List Key × V)} {ss : List SD}
end
def CompJ (J : It) (k : Nat) (cs : List (Nat × Str)) (g : TG) (te : TE) (σ : St) (Q : VK) (H1 : Hp) : Prop := ∃ W : Nat → Nat → List V → Hp → Prop, (∃ m, W 0 m [] H1) ∧ ∀ i m ys H2, W i m ys H2 → ys.length ≤ sizeLine ∧
  ((J.stop i H2 ∧ ∀ p, H2 p = none → Q (.ref p) (upd H2 p (.lst ys))) ∨
   (J.go i H2 ∧ ∀ x H3, J.yld i H2 x H3 → g x (List.replicate k none ++ capsAt cs σ) H3 fun σ4 H4 => te σ4 H4 fun y H5 => ∃ m', m' < m ∧ W (i + 1) m' (ys ++ [y]) H5))
def CompIJ (J : It) (k : Nat) (cs : List (Nat × Str)) (g : TG) (tt : TT) (te : TE) (σ : St) (Q : VK) (H1 : Hp) : Prop := ∃ W : Nat → Nat → List V → Hp → Prop, (∃ m, W 0 m [] H1) ∧ ∀ i m ys H2, W i m ys H2 → ys.length ≤ sizeLine ∧
  ((J.stop i H2 ∧ ∀ p, H2 p = none → Q (.ref p) (upd H2 p (.lst ys))) ∨
   (J.go i H2 ∧ ∀ x H3, J.yld i H2 x H3 → g x (List.replicate k none ++ capsAt cs σ) H3 fun σ4 H4 => tt σ4 H4 fun b H5 => if b = true then te σ4 H5 fun y H6 => ∃ m', m' < m ∧ W (i + 1) m' (ys ++ [y]) H6 else ∃ m', m' < m ∧ W (i + 1) m' ys H5))
section
variable {K : PySem.W.Frag} {k : Nat} {cs : List (Nat × Str)} {g : TG} {tt : TT} {te tl : TE} {σ : St} {H H1 : Hp} {Q : VK} {a : Addr} {xs : List V}
theorem y33y : tComp k cs (iAny K tl) g te σ H Q = tl σ H fun x H1 => ∃ a, x = .ref a ∧ (((∃ xs, SqL K H1 a xs) ∧ CompJ (Itl K a) k cs g te σ Q H1) ∨ ((∃ xs, SqT K H1 a xs) ∧ CompJ (Itt K a) k cs g te σ Q H1)) := rfl
theorem y35y : tCompI k cs (iAny K tl) g tt te σ H Q = tl σ H fun x H1 => ∃ a, x = .ref a ∧ (((∃ xs, SqL K H1 a xs) ∧ CompIJ (Itl K a) k cs g tt te σ Q H1) ∨ ((∃ xs, SqT K H1 a xs) ∧ CompIJ (Itt K a) k cs g tt te σ Q H1)) := rfl
theorem CompJ.list (Pv : Nat → List V → Hp → Prop) (h0 : Pv 0 [] H1) (hl : ∀ i ys H', i ≤ xs.length → Pv i ys H' → SqL K H' a xs ∧ ys.length ≤ sizeLine)
  (hs : ∀ i x ys H2, xs[i]? = some x → Pv i ys H2 → g x (List.replicate k none ++ capsAt cs σ) H2 fun σ4 H4 => te σ4 H4 fun y H5 => Pv (i + 1) (ys ++ [y]) H5) (hd : ∀ ys H2, Pv xs.length ys H2 → ∀ p, H2 p = none → Q (.ref p) (upd H2 p (.lst ys))) :
  CompJ (Itl K a) k cs g te σ Q H1 := compL Pv h0 hl hs hd
theorem CompIJ.list (Pv : Nat → List V → Hp → Prop) (h0 : Pv 0 [] H1) (hl : ∀ i ys H', i ≤ xs.length → Pv i ys H' → SqL K H' a xs ∧ ys.length ≤ sizeLine)
  (hs : ∀ i x ys H2, xs[i]? = some x → Pv i ys H2 → g x (List.replicate k none ++ capsAt cs σ) H2 fun σ4 H4 => tt σ4 H4 fun b H5 => if b = true then te σ4 H5 fun y H6 => Pv (i + 1) (ys ++ [y]) H6 else Pv (i + 1) ys H5) (hd : ∀ ys H2, Pv xs.length ys H2 → ∀ p, H2 p = none → Q (.ref p) (upd H2 p (.lst ys))) :
  CompIJ (Itl K a) k cs g tt te σ Q H1 := compIL Pv h0 hl hs hd
end
theorem app_cps' (x y : Str) : (x ++ y).cps.toList = x.cps.toList ++ y.cps.toList := by
 show (x.cps ++ y.cps).toList = _
 simp
theorem len_cps' (z : Str) : z.length = z.cps.toList.length := by simp [Str.length]
end L2
set_option linter.all false
namespace L2
open PySem PySem.Spec PyProof.Rows Ch
section
variable {ss : List SD} {c : Pr} {cs : List Pr} {s : SD} {tot : Int × Int} {f l : Str}
end
end L2
set_option linter.all false
set_option maxHeartbeats 4000000
namespace L2
open PySem PySem.Spec PyProof.Rows Ch
section
variable {K : PySem.W.Frag} {H : Hp} {Q : VK}
end
end L2
set_option linter.all false
set_option maxHeartbeats 4000000
set_option maxRecDepth 100000
namespace L2
open PySem PySem.Spec PyProof.Rows
section
variable {prog : Program} {w : World} {A : Around} {E : Value → Shared → Prop} {s : Shared}
theorem stored {h : Heap} {a : Addr} {es es' : Array (Int × Value)} {ep : Nat} {t t' : SetTable} (ho : h.get? a = some { cls := .type "set", dict := none, data := .set es ep t, slots := #[] }) :
  (h.update a (Obj.putSet es' t')).get? a = some { cls := .type "set", dict := none, data := .set es' (ep + 1) t', slots := #[] } := by
 have e := Heap.get?_update_self (Obj.putSet es' t') ho (by rw [putSet_of es' t' rfl]; rfl)
 rw [e, putSet_of es' t' rfl]
end
end L2
set_option linter.all false
set_option maxHeartbeats 4000000
set_option maxRecDepth 100000
namespace L2
open PySem PySem.Spec PyProof.Rows
def addS (l : List Str) (z : Str) : List Str := if z ∈ l then l else l ++ [z]
def met (val : Nat → Str) (i : Nat) : List Str := ((List.range i).map val).foldl addS []
section
variable {prog : Program} {w : World} {A : Around} {E : Value → Shared → Prop} {s : Shared}
end
end L2
set_option linter.all false
set_option maxHeartbeats 4000000
set_option maxRecDepth 100000
namespace L2
open PySem PySem.Spec PyProof.Rows
section
variable {prog : Program} {w : World} {A : Around} {E : Value → Shared → Prop} {s : Shared}
end
end L2
set_option linter.all false
set_option maxHeartbeats 4000000
set_option maxRecDepth 100000
namespace L2
open PySem PySem.Spec PyProof.Rows
end L2
set_option linter.all false
set_option maxHeartbeats 4000000
set_option maxRecDepth 100000
namespace L2
open PySem PySem.Spec PyProof.Rows
section
variable {M : Model} {A : Around} {E : Value → Shared → Prop} {s : Shared}
end
section
variable {prog : Program} {w : World} {A : Around} {E : Value → Shared → Prop} {s : Shared}
section
variable {I a : Addr} {es : Array (Int × Value)} {i ep : Nat} {t : SetTable} {Q : Option Value → Shared → Prop}
end
end
end L2
set_option linter.all false
set_option maxHeartbeats 4000000
set_option maxRecDepth 100000
namespace L2
open PySem PySem.Spec PyProof.Rows
section
variable {prog : Program} {w : World} {A : Around} {E : Value → Shared → Prop} {s : Shared}
end
end L2
set_option linter.all false
set_option maxHeartbeats 4000000
set_option maxRecDepth 100000
namespace L2
open PySem PySem.Spec PyProof.Rows
section
variable {prog : Program} {w : World} {A : Around} {E : Value → Shared → Prop} {s : Shared}
theorem iadd_of {S r : Addr} {R : Result → Shared → Prop} (h : wpAny (model prog w) A.in1 (Builtin.List.listExtendWith (.ref S) (.ref r) (.ref S)) (fun fin s' => match fin with | .done f => R (.ok f) s' | .again c' => c'.quiet = true ∧ codeAny (model prog w) A c' R s') (fun e s' => R (.error e) s') s) :
  codeAny (model prog w) A (.builtin "list.__iadd__" ⟨[.ref S, .ref r], []⟩) R s := by
 refine codeAny_builtin (PySem.F.entry_list_iadd) ?_
 rw [Around.under_plainId (PySem.F.plain_list_iadd) _]
 exact h
theorem sorted_src {r : Addr} {ss : List Str} {Q : Value → Shared → Prop} (h64 : ss.length < 64)
  (hx : ∀ (R : Result → Shared → Prop), (∀ s' (vs : List Value) c' ss', (∀ b o, s.heap.get? b = some o → s'.heap.get? b = some o) → s'.gens = s.gens → s'.os = s.os → s.toks ≤ s'.toks →
    s'.heap.get? s.heap.objs.size = some { cls := .type "list", dict := none, data := .seq vs.toArray c', slots := #[] } → StrsAre vs ss' → ss'.Perm ss → R (.ok (.ret (.ref s.heap.objs.size))) s') →
   codeAny (model prog w) A.in1 (.builtin "list.__iadd__" ⟨[.ref s.heap.objs.size, .ref r], []⟩) R { s with heap := s.heap.push { cls := .type "list", data := .seq ([] : List Value).toArray } })
  (q : ∀ s' l (out : Array Value) ss' e, (∀ b o, s.heap.get? b = some o → s'.heap.get? b = some o) → s'.gens = s.gens → s'.os = s.os → s.toks ≤ s'.toks → s.heap.objs.size ≤ l → s'.heap.get? l = some (seqObj "list" out e) → StrsAre out.toList ss' → ss'.Perm ss → sortedS ss' = true → Q (.ref l) s') :
  wpAny (model prog w) A (call (.builtin "sorted") [.ref r]) Q E s := by
 refine Calls.call_function_entry kind_sorted plain_sorted entry_sorted (args_sorted1 _) ?_
 unfold Builtin.«sorted»
 refine wpAny_bind (m := checkCount "sorted" 1 1 _) (wpAny_pure ?_)
 refine wpAny_bind ?_
 unfold collect
 refine wpAny_bind (wpAny_runValue (codeAny_builtin (PySem.F.entry_proto_collect) ?_))
 rw [Around.under_plainId (PySem.F.plain_proto_collect) _]
 show wpAny _ A.in1.in1 (newList [] >>= fun l => again (.builtin "list.__iadd__" ⟨[l, .ref r], []⟩)) _ _ s
 refine wpAny_bind (wpAny_newObj_type ?_)
 refine wpAny_pure ⟨plainId_quiet (PySem.F.plain_list_iadd) _, hx _ fun s' vs c' ss0 k eg eo et hS hs hp => ?_⟩
 refine wpAny_bind (m := load s.heap.objs.size) (wpAny_load hS (wpAny_pure ?_))
 have vl : vs.length < 64 := by rw [hs.length, hp.length_eq]; exact h64
 have slb : (64 : Nat) ≤ sizeLine := by decide
 dsimp only
 refine wpAny_bind (wpAny_newList ?_ (by show vs.length ≤ sizeLine; omega))
 have o1 : (s'.heap.push (seqObj "list" vs.toArray 0)).get? s'.heap.objs.size = some (seqObj "list" vs.toArray 0) := Heap.get?_push_size _ rfl
 refine wpAny_bind (wpAny_holding (wpAny_call_entry slot_list_sort ⟨_, o1, rfl⟩ entry_list_sort (list_sort_treeK strKind_oneLt o1 hs.keysOf (fun v1 v2 rest e => keyKind_strs (by rw [← e]; exact hs)) vl fun st hp2 hs2 => ⟨_, rfl, ?_⟩) (args_list_sort _)))
 obtain ⟨ss1, r1, r2, r3⟩ := sorted_out_str hs hp2 hs2
 obtain ⟨e1, o2⟩ := sortedHeap_at (out := (arrOf st).map (·.2)) o1
 refine wpAny_pure ⟨_, rfl, q _ s'.heap.objs.size _ ss1 e1 (fun b o e => ?_) eg eo et ?_ o2 r1 (r2.trans hp) r3⟩
 ·have lb := Heap.lt_size (k b o e)
  rw [sortedHeap_old (Nat.ne_of_lt lb) (by rw [size_push']; exact Nat.lt_succ_of_lt lb)]
  exact Heap.get?_push_of_some _ (k b o e)
 ·exact Nat.le_of_lt (Heap.lt_size hS)
theorem strsAll : ∀ (vs : List Value), (∀ v ∈ vs, ∃ x t, v = .str x t) → StrsAre vs (vs.map strOf)
 | [], _ => .nil
 | v :: vs, h => by
  obtain ⟨x, t, rfl⟩ := h v (by simp)
  exact .cons x t (strsAll vs fun u hu => h u (by simp [hu]))
theorem sorted_dict {K : Type} [DecidableEq K] {knd : PySem.KeyKind prog w K} {d : Addr} {kvs : List (K × Value)} {ep : Nat} {ss : List Str} {Q : Value → Shared → Prop} (hh : A.handled = none) (lo : (d == sysModules) = false) (hd : s.heap.DictAt knd d kvs ep) (h64 : kvs.length < 64)
  (hl : ss.length = kvs.length) (hk : ∀ i k x v, kvs[i]? = some (k, x) → knd.is k v = true → ∃ t, v = .str (ss.getD i ⟨#[]⟩) t)
  (q : ∀ s' l (out : Array Value) ss' e, (∀ b o, s.heap.get? b = some o → s'.heap.get? b = some o) → s'.gens = s.gens → s'.os = s.os → s.toks ≤ s'.toks → s.heap.objs.size ≤ l → s'.heap.get? l = some (seqObj "list" out e) → StrsAre out.toList ss' → ss'.Perm ss → sortedS ss' = true → Q (.ref l) s') :
  wpAny (model prog w) A (call (.builtin "sorted") [.ref d]) Q E s := by
 have slb : (64 : Nat) ≤ sizeLine := by decide
 have la := hd.lt_size
 have h1 : A.in1.handled = none := by simp [hh]
 refine sorted_src (ss := ss) (by omega) (fun R k => ?_) q
 obtain ⟨R0, hR0⟩ : ∃ R0 : Result → Shared → Prop, ∀ r s', R0 r s' ↔ ∃ h' tk acc c', r = .ok (.ret (.ref s.heap.objs.size)) ∧ s' = { s with heap := h', toks := tk } ∧ (∀ b o, b ≠ s.heap.objs.size → (s.heap.push { cls := .type "list", data := .seq ([] : List Value).toArray }).get? b = some o → h'.get? b = some o) ∧ h'.get? s.heap.objs.size = some { cls := .type "list", dict := none, data := .seq acc c', slots := #[] } ∧ ItemsOf (fun i v => ∃ k x, kvs[i]? = some (k, x) ∧ knd.is k v = true) acc kvs.length := ⟨_, fun _ _ => Iff.rfl⟩
 have base := codeAny_toks_of (n := s.toks) (s := { s with heap := s.heap.push { cls := .type "list", data := .seq ([] : List Value).toArray } }) (Nat.le_refl _) (iadd_of (A := A.in1) (R := R0)
  (PySem.W.kdl_extend (R := R0) (s := { s with heap := s.heap.push { cls := .type "list", data := .seq ([] : List Value).toArray } }) (PySem.W.kdl_dict (knd := knd) (kvs := kvs) (ep := ep) lo) h1 (hd.push _) s.heap.objs.size (Nat.ne_of_gt la) (Nat.ne_of_gt la) (.ref s.heap.objs.size) 0 (Heap.get?_push_size _ rfl) (fun h' tk acc c' kk hl hacc => (hR0 _ _).mpr ⟨h', tk, acc, c', rfl, rfl, kk, hl, hacc⟩) (by omega)))
 refine codeAny_mono base ?_
 rintro r s' ⟨ht, hr⟩
 obtain ⟨h', tk, acc, c', rfl, rfl, kk, hlst, hacc⟩ := (hR0 _ _).mp hr
 have ha : StrsAre acc.toList ss := by
  have hall : ∀ v ∈ acc.toList, ∃ x t, v = .str x t := fun v hv => by
   obtain ⟨i, hi⟩ := List.getElem?_of_mem hv
   rw [Array.getElem?_toList] at hi
   obtain ⟨k', x, e1, e2⟩ := hacc.2 i v hi
   obtain ⟨t, e⟩ := hk i k' x v e1 e2
   exact ⟨_, t, e⟩
  have := strsAll _ hall
  have e : acc.toList.map strOf = ss := by
   refine List.ext_getElem? fun i => ?_
   rw [List.getElem?_map, Array.getElem?_toList]
   have l2 : acc.size = kvs.length := hacc.1
   by_cases c : i < kvs.length
   ·have e1 : acc[i]? = some acc[i] := Array.getElem?_eq_getElem (by omega)
    obtain ⟨k', x, e2, e3⟩ := hacc.2 i _ e1
    obtain ⟨t, e4⟩ := hk i k' x _ e2 e3
    rw [e1, Option.map_some, e4, List.getElem?_eq_getElem (by omega)]
    simp [strOf, List.getD_eq_getElem?_getD, List.getElem?_eq_getElem (show i < ss.length by omega)]
   ·rw [Array.getElem?_eq_none (by omega), List.getElem?_eq_none (by omega)]
    rfl
  rw [e] at this
  exact this
 exact k _ acc.toList c' ss (fun b o e => kk b o (Nat.ne_of_lt (Heap.lt_size e)) (Heap.get?_push_of_some _ e)) rfl rfl ht (by rw [Array.toArray_toList]; exact hlst) ha (.refl _)
end
end L2
set_option linter.all false
set_option maxHeartbeats 4000000
set_option maxRecDepth 100000
namespace L2
open PySem PySem.Spec PyProof.Rows
section
variable {prog : Program} {w : World} {A : Around} {E : Value → Shared → Prop} {s : Shared} {a : Addr} {its : Array Value} {n : Nat}
end
end L2
set_option linter.all false
set_option maxHeartbeats 4000000
set_option maxRecDepth 100000
namespace L2
open PySem PySem.Spec PyProof.Rows
section
variable {prog : Program} {w : World} {A : Around} {E : Value → Shared → Prop} {s : Shared}
end
end L2
set_option linter.all false
set_option maxHeartbeats 4000000
set_option maxRecDepth 100000
namespace L2
open PySem PySem.Spec PyProof.Rows
section
variable {X : Cx} {pins : List (Addr × Obj)} {σ : List (Option V)} {H : Hp} {s s' : Shared}
theorem Inv.like (I : Inv X pins σ H { s with heap := s'.heap, toks := s'.toks }) (eg : s'.gens = s.gens) (eo : s'.os = s.os) : Inv X pins σ H s' :=
 ⟨I.ok, by rw [eo]; exact I.os, by rw [eg]; exact I.bare, I.base, I.loc, I.cell, I.free, I.freeC, I.pin, I.hok, I.len⟩
theorem vals_strs : ∀ {vs : List Value} {ss : List Str}, StrsAre vs ss → Vals (ss.map V.str) vs
 | _, _, .nil => .nil
 | _, _, .cons z t r => .cons ⟨t, rfl⟩ (vals_strs r)
def InOrder (out ss : List Str) : Prop := out.Perm ss ∧ sortedS out = true
def rSortD (xs : List V) (H : Hp) (Q : VK) : Prop := ∃ d kvs ss, xs = [.ref d] ∧ H d = some (.dK kvs) ∧ kvs.map (·.1) = ss.map Sum.inr ∧ ss.length < 64 ∧ ∀ l out, H l = none → InOrder out ss → Q (.ref l) (upd H l (.lst (out.map V.str)))
theorem call_sortD (hc : X.calm = true) : CallR X (.builtin "sorted") rSortD := by
 intro pins s σ H xs us Q I r h
 obtain ⟨d, kvs, ss, rfl, e, hk, h64, q⟩ := h
 obtain ⟨u, rfl, rx⟩ := vals1 r
 cases rx
 obtain ⟨hz, hS, vs, rel, dd⟩ := dk_of I.hok e
 obtain ⟨ep, da⟩ := dd.dictAt
 have sl : (64 : Nat) ≤ sizeLine := by decide
 have lk : ss.length = kvs.length := by simpa using (congrArg List.length hk).symm
 have lv : vs.length = kvs.length := rel.length.symm
 have keys : vs.map (·.1) = kvs.map (·.1) := by
  clear dd da hk lk lv hz q e
  induction rel with
  | nil => rfl
  | cons h1 _ ih =>
   rw [List.map_cons, List.map_cons, ih, h1.1]
 refine sorted_dict (ss := ss) (I.ok.hd hc) hS da (by omega) (by omega) (fun i k x v hi hv => ?_) fun s' l out ss' ex k eg eo et hl ho hs hp hso => ?_
 ·have e1 : (vs.map (·.1))[i]? = some k := by rw [List.getElem?_map, hi]; rfl
  rw [keys, hk, List.getElem?_map] at e1
  obtain ⟨z, hz1, rfl⟩ := Option.map_eq_some_iff.mp e1
  rcases keyIs_shape (show keyIs (Sum.inr z) v = true from hv) with ⟨b, hb, _⟩ | ⟨y, t, hy, rfl⟩
  ·cases hb
  ·cases hy
   exact ⟨t, by rw [List.getD_eq_getElem?_getD, hz1]; rfl⟩
 ·have lo : out.toList.length ≤ sizeLine := by
   rw [hs.length, hp.length_eq]
   omega
  refine ⟨.ref l, _, Inv.like (s := s) (I.laid (t' := s'.toks) (o := .lst (ss'.map V.str)) k hl (show ObjOk X.prog X.w _ s'.heap l (.lst (ss'.map V.str)) from ⟨by rw [List.length_map, hp.length_eq]; omega, out.toList, ex, vals_strs hs, by rw [Array.toArray_toList]; exact ho⟩)) eg eo, rfl, q l ss' (I.hok.fresh hl) ⟨hp, hso⟩⟩
end
end L2
set_option linter.all false
set_option maxHeartbeats 4000000
set_option maxRecDepth 100000
namespace L2
open PySem PySem.Spec PyProof.Rows Ch
def FacesIs (ts : List TD) (out : List Str) : Prop := out.Nodup ∧ sortedS out = true ∧ ∀ z, z ∈ out ↔ ∃ t ∈ ts, z = t.st ∨ z = t.en
theorem FacesIs.nil {l : List Str} (h : FacesIs [] l) : l = [] := by
 cases l with
 | nil => rfl
 | cons a l =>
  have := (h.2.2 a).mp (by simp)
  simp at this
abbrev Pl := List (Str × (Int × Int))
def look (ps : Pl) (z : Str) : Int × Int := ((ps.find? fun p => decide (p.1 = z)).map (·.2)).getD (0, 1)
def negF (a : Int × Int) : Int × Int := (-a.1, a.2)
def apart (ps : Pl) (t : TD) : Int × Int := addF (look ps t.en) (negF (look ps t.st))
def lessF (a c : Int × Int) : Bool := decide (a.1 * c.2 < c.1 * a.2)
structure FB (A B : Nat) (a : Int × Int) : Prop where
 s1 : Mth.Sz A a.1
 s2 : Mth.Sz B a.2
 b1 : 1 ≤ a.2
 g1 : Mth.g a.1 a.2 = 1
theorem FB.ok {A B n : Nat} {a : Int × Int} (h : FB A B a) (h1 : A ≤ n) (h2 : B ≤ n) : FOk n a := ⟨h.s1.mono h1, h.s2.mono h2, h.b1, h.g1⟩
theorem FB.neg {A B : Nat} {a : Int × Int} (h : FB A B a) : FB A B (negF a) := ⟨by
 have := h.s1
 unfold Mth.Sz at this ⊢
 unfold negF
 rw [Int.natAbs_neg]
 exact this, h.s2, h.b1, by
 have := h.g1
 unfold Mth.g negF at *
 simpa using this⟩
theorem FB.add {A B C D n m : Nat} {a c : Int × Int} (h : FB A B a) (k : FB C D c) (h1 : A + D ≤ n) (h2 : C + B ≤ n) (h3 : B + D ≤ m) : FB (n + 1) m (addF a c) := by
 have b0 : a.2 * c.2 ≠ 0 := Int.mul_ne_zero (by have := h.b1; omega) (by have := k.b1; omega)
 have z1 := (h.s1.mul k.s2).mono h1
 have z2 := (k.s1.mul h.s2).mono h2
 exact ⟨Mth.Sz.top b0 (z1.add z2), (Mth.Sz.bot b0 (h.s2.mul k.s2)).mono h3, Mth.bot_pos b0, Mth.g_low b0⟩
theorem FB.low {A B : Nat} {t b : Int} (hb : 1 ≤ b) (h1 : Mth.Sz A t) (h2 : Mth.Sz B b) : FB A B (Mth.top t b, Mth.bot t b) := by
 have b0 : b ≠ 0 := by omega
 exact ⟨Mth.Sz.top b0 h1, Mth.Sz.bot b0 h2, Mth.bot_pos b0, Mth.g_low b0⟩
end L2
set_option linter.all false
set_option maxHeartbeats 4000000
set_option maxRecDepth 100000
namespace L2
open PySem PySem.Spec PyProof.Rows Ch
end L2
set_option linter.all false
namespace L2
open PySem PySem.Spec PyProof.Rows Ch
end L2
namespace L2
open PySem PySem.Spec PyProof.Rows Ch
end L2
namespace L2
open PySem PySem.Spec PyProof.Rows Ch
end L2
set_option linter.all false
set_option maxHeartbeats 4000000
namespace L2
open PySem PySem.Spec PyProof.Rows Ch
structure FW (A B : Nat) (a : Int × Int) : Prop where
 s1 : Mth.Sz A a.1
 s2 : Mth.Sz B a.2
 b1 : 1 ≤ a.2
theorem FB.w {A B : Nat} {a : Int × Int} (h : FB A B a) : FW A B a := ⟨h.s1, h.s2, h.b1⟩
theorem FW.mono {A B C D : Nat} {a : Int × Int} (h : FW A B a) (h1 : A ≤ C) (h2 : B ≤ D) : FW C D a := ⟨h.s1.mono h1, h.s2.mono h2, h.b1⟩
end L2
set_option linter.all false
set_option maxHeartbeats 4000000
namespace L2
open PySem PySem.Spec PyProof.Rows Ch
end L2
set_option linter.all false
namespace L2
open PySem PySem.Spec PyProof.Rows Ch
section
variable {X : Cx} {K : PySem.W.Frag} {o e : Expr} {es : List Expr} {to : TE} {t : TA} {name : Str} {apos cpos : Pos} {T id : String} {r : V → List V → Hp → VK → Prop}
end
end L2
set_option linter.all false
set_option maxHeartbeats 4000000
set_option maxRecDepth 100000
namespace L2
open PySem PySem.Spec PyProof.Rows
section
variable {X : Cx}
end
section
variable {prog : Program} {w : World} {A : Around} {E : Value → Shared → Prop} {s : Shared}
end
end L2
set_option linter.all false
set_option maxHeartbeats 4000000
set_option maxRecDepth 100000
namespace L2
open PySem PySem.Spec PyProof.Rows
section
variable {X : Cx}
end
section
variable {X : Cx} {k k' : Nat} {x mn : Str} {C : Addr} {Cs : Addr → Prop} {ps : List Str} {sp : Sp} {p pos apos : Pos} {e o : Expr} {es : List Expr} {t : TA} {ta : TE}
abbrev TX := St → Hp → VK → XK → Prop
def PB (X : Cx) (b : List Stmt) (t : TX) : Prop :=
 ∀ (pins : List (Addr × Obj)) (s : Shared) (σ : St) (H : Hp) (Q : VK) (E : XK), Inv X pins σ H s → t σ H Q E →
  wpAny (model X.prog X.w) X.A (execs b X.env) (fun f s1 => f = .next ∧ ∃ v H1, Inv X pins σ H1 s1 ∧ Q v H1) (fun ev s' => ∃ H1 s1, Inv X pins σ H1 s1 ∧ CX1 X.prog X.w X.stack H1 s1 E ev s') s
def PB1 (X : Cx) (b : Stmt) (t : TX) : Prop :=
 ∀ (pins : List (Addr × Obj)) (s : Shared) (σ : St) (H : Hp) (Q : VK) (E : XK), Inv X pins σ H s → t σ H Q E →
  wpAny (model X.prog X.w) X.A (exec b X.env) (fun f s1 => f = .next ∧ ∃ v H1, Inv X pins σ H1 s1 ∧ Q v H1) (fun ev s' => ∃ H1 s1, Inv X pins σ H1 s1 ∧ CX1 X.prog X.w X.stack H1 s1 E ev s') s
def xNil : TX := fun _ H Q _ => Q .non H
def xSeq (t u : TX) : TX := fun σ H Q E => t σ H (fun _ H1 => u σ H1 Q E) E
def xChoose (tc : TT) (t u : TX) : TX := fun σ H Q E => tc σ H fun b H1 => if b = true then t σ H1 Q E else u σ H1 Q E
theorem pb_nil : PB X [] xNil := fun pins s σ H Q E I q => wpAny_execs_nil ⟨rfl, .non, H, I, q⟩
theorem pb_cons {a : Stmt} {b : List Stmt} {t u : TX} (ha : PB1 X a t) (hb : PB X b u) : PB X (a :: b) (xSeq t u) := fun pins s σ H Q E I q =>
 wpAny_execs_cons (wpAny_mono (ha pins s σ H _ E I q) (fun f s1 ⟨ef, v, H1, I1, q1⟩ => by subst ef; exact hb pins s1 σ H1 Q E I1 q1) fun _ _ z => z)
theorem pb1_call {ce : Expr} {epos : Pos} {t : TX} (h : PEx X ce t) (hs : swapsWith ce none epos.line X.env = pure false := by rfl) : PB1 X (.Expr ce epos) t := fun pins s σ H Q E I q =>
 wpAny_Expr_any (wpAny_mono (h pins s σ H Q E I q) (fun v s1 ⟨y, H1, I1, r1, q1⟩ => ⟨rfl, y, H1, I1, q1⟩) fun _ _ z => z) I.quiet hs
theorem pb1_if {c : Expr} {a b : List Stmt} {pos : Pos} {tc : TT} {t u : TX} (hc : PT X.nox c tc) (ha : PB X a t) (hb : PB X b u) : PB1 X (.If c a b pos) (xChoose tc t u) := fun pins s σ H Q E I q => by
 refine wpAny_If (wpAny_mono (hc pins s σ H _ (I.wish _) q) (fun d s1 ⟨H1, I1, q1⟩ => ?_) fun _ _ y => y.elim)
 cases d with
 | true => exact ha pins s1 σ H1 Q E I1.unwish q1
 | false => exact hb pins s1 σ H1 Q E I1.unwish q1
def xMake (C : Addr) (sp : Sp) (t : TA) : TX := fun σ H Q E => t σ H fun vs H1 => ∀ x dx, H1 x = none → H1 dx = none → dx ≠ x →
 sp (.ref x :: (vs ++ [])) (upd (upd H1 dx (.own x)) x (.ins C dx [])) (fun v H2 => v = .non ∧ Q (.ref x) H2) E
def xMeth (Cs : Addr → Prop) (m : Str) (sp : Sp) (ta : TE) (t : TA) : TX := fun σ H Q E => ta σ H fun x H1 => ∃ a C dx fs, x = .ref a ∧ H1 a = some (.ins C dx fs) ∧ Cs C ∧ fs.lookup m = none ∧ t σ H1 fun vs H2 => sp (x :: vs) H2 Q E
theorem MCal.tr {pl : Sem Bool} (G : MCal X.prog X.w X.K X.mg X.base k mn Cs ps sp) (hr : Room k' X.A) (hk : k ≤ k') (ho : PE X.nox o ta) (ha : PA X.nox (e :: es) t)
  (hst : starEach (e :: es) X.env = (false, eval e X.env) :: starEach es X.env := by rfl) (hpl : (backTo pos (starEach es X.env)).any (·.1) = false := by rfl)
  (ht : eval (.Call (.Attribute o mn apos) (e :: es) [] pos) X.env = (do
   let ov ← eval o X.env
   standAt apos.atName
   let (f, first) ← holding [ov] (getMethod ov mn pl)
   callWith pos f first (backTo pos (starEach (e :: es) X.env)) (backToKw pos (keywordEach [] X.env))) := by rfl) :
  PEx X (.Call (.Attribute o mn apos) (e :: es) [] pos) (xMeth Cs mn sp ta t) := by
 obtain ⟨f, fd, F, hm, kp, hb⟩ := G.ex
 intro pins s σ H Q E I h
 have z := ho pins s σ H _ (I.wish _) h
 refine PySem.W.methodCall_KW (pl := pl) (wpAny_mono z (fun u s1 ⟨x, H1, I1, rx, a, C, dx, fs, ex, ea, hC, l, q⟩ => ?_) fun _ _ y => y.elim) ht
 subst ex
 obtain rfl : u = Value.ref a := rx
 refine getmeth_ok I1.unwish ea (hm C hC).1 (hm C hC).2 l ?_
 have z2 := ha pos pins s1 σ H1 _ I1 q
 refine PySem.W.callWith_K (first := [.ref a]) (h₀ := X.base) I.ok.mod.kin kp (wpAny_mono z2 (fun us s2 ⟨vs, H2, I2, r, q2⟩ => ⟨I2.unwish.kIn, ?_⟩) fun _ _ y => y.elim) hst hpl
 exact run_fnx (us := .ref a :: us) (vs := .ref a :: vs) (ds := []) (dvs := []) F (hr.mono hk) hb .nil I2.unwish (.cons rfl r) (by simpa using q2)
end
end L2
set_option linter.all false
set_option maxHeartbeats 4000000
set_option maxRecDepth 100000
namespace L2
open PySem PySem.Spec PyProof.Rows
section
variable {X : Cx}
theorem op_notinU : OpR X (compareOp .NotIn) (rIn X.K true) := op_notIn_seq
theorem ps_tryAsC {pos hpos np : Pos} {x n : Str} {b0 : Stmt} {b suite : List Stmt} {D : Addr} {t : TX} {ts : TS} {i : Nat} (hN : X.N.Nodup) (hi : X.N[i]? = some n) (hl : X.env.scope.names.lookup n = some .local) (hcall : PB X b t) (hg : Gl X x) (hm : X.mg x = some (.ref D)) (hsu : ∀ e, PSs (X.inx e) (b0 :: suite) ts)
  (hex : X.ex = [] := by rfl) (hst : X.stack = X.env :: X.outer := by rfl) (hfl : X.env.frame = some X.env.locals := by rfl) (hdb : (x == ("__debug__" : Str)) = false := by decide) :
  PS X (.Try b [.ExceptHandler (some (.Name x np)) (some n) (b0 :: suite) hpos] [] [] pos) (tTryAs X.K D i t ts) := by
 intro pins s σ H Dn I h
 refine wpAny_Try_except (wpAny_mono (hcall pins s σ H _ _ I h) (fun f s1 ⟨e, y, H1, I1, q1⟩ => ?_) (fun ev s1 hx => ?_))
 ·subst e
  exact wpAny_execs_nil ⟨σ, H1, I1, q1⟩
 ·obtain ⟨H1, s0, I1, ea, cls, a0, B, H', rfl, hos, hb, u, hok, F, C, rfl, hcat, hq⟩ := hx
  have hfr : X.A.frames = some (X.env :: X.outer) := by rw [← hst]; exact I.ok.frames
  have F' := F.fly
  rw [hst] at F'
  refine wpAny_looks_onW hfr hfl F' fun h4 hheld hup4 => ?_
  refine wpAny_landsW hheld fun h5 hfl5 hup5 => ?_
  have hup := hup4.trans hup5
  have hfl5' := hfl5
  rw [← hst] at hfl5'
  have I5 := I1.landed hex u hok F hos hb hfl5' hup rfl
  obtain ⟨oe, vs, he, hc, _, _⟩ := hfl5.first
  refine wpAny_handleBy_cons (codeAny_handlers_test (ld_glob (X := X.inx ea) (I5.inx ea) hg hm ?_ hdb)) (by intro z; cases z)
  refine excMatches_K I5.kIn he hc hcat (codeAny_handlers_suite_as ?_)
  refine lands_againW hfl5 fun h6 hfl6 hup6 => ?_
  have hfl6' := hfl6
  rw [← hst] at hfl6'
  have I6 := I1.landed hex u hok F hos hb hfl6' (hup.trans hup6) rfl
  refine store_ok (X := X) (v := .ref ea) I6 hN hi (.inl hl) rfl (fun s7 I7 => ?_) (.inr hl)
  refine wpAny_mono (hsu ea pins s7 _ _ _ (I7.inx ea) (hq ea F.free)) (fun f s2 z => ?_) (fun _ _ z => z.elim)
  have goes : ∀ {σ' : St} {H2 : Hp} {R : Flow → Shared → Prop} {E2 : Value → Shared → Prop}, Inv (X.inx ea) pins σ' H2 s2 → (∀ s3, Inv X pins (σ'.set i none) H2 s3 → R f s3) →
    wpAny (model X.prog X.w) X.A (do bindName X.env n .none; unbindBehindTheSuite X.env n hpos) (fun _ s3 => R f s3) E2 s2 := fun {σ' H2 R E2} J k => by
   have J' := J.outx I.ok
   obtain ⟨m, hn, _⟩ := J'.loc
   refine wpAny_nameGoes_keeps hl hn (by rw [I.ok.kind]; rfl) fun h' v hn' hs' => k _ (J'.goes hN hi hs' hn hn' fun y hy => if_neg hy)
  cases f with
  | next => obtain ⟨σ', H2, J, q⟩ := z; exact goes J fun s3 J3 => ⟨_, _, J3, q⟩
  | brk => obtain ⟨σ', H2, J, q⟩ := z; exact goes J fun s3 J3 => ⟨_, _, J3, q⟩
  | cont => obtain ⟨σ', H2, J, q⟩ := z; exact goes J fun s3 J3 => ⟨_, _, J3, q⟩
  | ret v => obtain ⟨y, σ', H2, J, r, q⟩ := z; exact goes J fun s3 J3 => ⟨y, _, _, J3, r, q⟩
end
section
variable {σ : St} {H : Hp} {Q : VK} {E : XK} {ta td ty : TE} {ts : TA} {tc : TT} {t u : TX} {C : Addr} {sp : Sp} {Cs : Addr → Prop} {m : Str}
theorem y93y : xNil σ H Q E = Q .non H := rfl
theorem y94y : xSeq t u σ H Q E = t σ H (fun _ H1 => u σ H1 Q E) E := rfl
theorem y90y : xChoose tc t u σ H Q E = tc σ H fun b H1 => if b = true then t σ H1 Q E else u σ H1 Q E := rfl
theorem y91y : xMake C sp ts σ H Q E = ts σ H fun vs H1 => ∀ x dx, H1 x = none → H1 dx = none → dx ≠ x → sp (.ref x :: (vs ++ [])) (upd (upd H1 dx (.own x)) x (.ins C dx [])) (fun v H2 => v = .non ∧ Q (.ref x) H2) E := rfl
theorem y92y : xMeth Cs m sp ta ts σ H Q E = ta σ H fun x H1 => ∃ a C dx fs, x = .ref a ∧ H1 a = some (.ins C dx fs) ∧ Cs C ∧ fs.lookup m = none ∧ ts σ H1 fun vs H2 => sp (x :: vs) H2 Q E := rfl
theorem y3dy : tDIn ty td σ H Q = ty σ H fun y H1 => td σ H1 fun x H2 => ∃ a o, x = .ref a ∧ DGet H2 a y o ∧ Q (.bl o.isSome) H2 := rfl
theorem y41y : tDNotIn ty td σ H Q = ty σ H fun y H1 => td σ H1 fun x H2 => ∃ a o, x = .ref a ∧ DGet H2 a y o ∧ Q (.bl (!o.isSome)) H2 := rfl
end
section
variable {α κ : Type} [DecidableEq κ] {f : α → κ} {k : κ} {u y : α}
end
section
variable {α : Type} {P : α → V → Prop}
end
end L2
namespace L2
open PySem PySem.Spec PyProof.Rows Ch
abbrev nms (ts : List TD) : List Str := ts.map (·.nm)
def BD (P : TD → V → Prop) (ts : List TD) (kvs : List (Key × V)) : Prop := kvs.map (·.1) = ts.map (fun t => Sum.inr t.nm) ∧ All2 P ts (kvs.map (·.2))
section
variable {P P' : TD → V → Prop} {ts : List TD} {kvs : List (Key × V)} {t : TD} {v : V}
theorem BD.cons : BD P (t :: ts) kvs ↔ ∃ w r, kvs = (Sum.inr t.nm, w) :: r ∧ P t w ∧ BD P ts r := by
 constructor
 ·rintro ⟨h1, h2⟩
  match kvs, h1, h2 with
  | (k, w) :: r, h1, h2 =>
   rw [List.map_cons, List.map_cons, List.cons.injEq] at h1
   obtain ⟨y, r', e, p, h2⟩ := h2
   rw [List.map_cons, List.cons.injEq] at e
   obtain ⟨rfl, rfl⟩ := e
   obtain ⟨h0, h1⟩ := h1
   have h0 : k = Sum.inr t.nm := h0
   subst h0
   exact ⟨_, r, rfl, p, h1, h2⟩
 ·rintro ⟨w, r, rfl, p, h⟩
  exact ⟨by rw [List.map_cons, List.map_cons, h.1], w, r.map (·.2), rfl, p, h.2⟩
theorem BD.nil : BD P [] kvs ↔ kvs = [] := by
 constructor
 ·rintro ⟨h, _⟩
  simpa using h
 ·rintro rfl
  exact ⟨rfl, rfl⟩
end
end L2
set_option linter.all false
set_option maxHeartbeats 4000000
set_option maxRecDepth 100000
namespace L2
open PySem PySem.Spec PyProof.Rows Ch
def nameL : List Str := ["a", "aa", "aaa", "b", "ab", "zzzzzzzz"]
theorem sub_len {α : Type} [DecidableEq α] : ∀ (l m : List α), l.Nodup → l ⊆ m → l.length ≤ m.length
 | [], m, _, _ => by simp
 | a :: l, m, hn, hs => by
  rw [List.nodup_cons] at hn
  have ha : a ∈ m := hs (by simp)
  have := sub_len l (m.erase a) hn.2 fun x hx => (List.mem_erase_of_ne (show x ≠ a from fun e => hn.1 (e ▸ hx))).mpr (hs (by simp [hx]))
  rw [List.length_erase_of_mem ha] at this
  have := List.length_pos_of_mem ha
  rw [List.length_cons]
  omega
structure Good (ts : List TD) : Prop where
 nd : (nms ts).Nodup
 ok : ∀ t ∈ ts, TOk t
 nm : ∀ t ∈ ts, t.nm ∈ nameL
theorem Good.len {ts : List TD} (g : Good ts) : ts.length ≤ 6 := by
 have := sub_len (nms ts) nameL g.nd fun z hz => by
  obtain ⟨t, ht, rfl⟩ := List.mem_map.mp hz
  exact g.nm t ht
 rw [List.length_map] at this
 exact this
end L2
set_option linter.all false
set_option maxHeartbeats 4000000
set_option maxRecDepth 100000
namespace L2
open PySem PySem.Spec PyProof.Rows
section
variable {X : Cx} {pins : List (Addr × Obj)} {σ : St} {H : Hp} {s : Shared} {a : Addr} {kvs : List (Key × V)} {k : Key} {u r : Value} {y : V} {A : Around} {E : Value → Shared → Prop}
theorem rel_some {v : Option V} {o : Option Value} {w : Value} (h : RelO v o) (e : o = some w) : ∃ x, v = some x ∧ RelV x w := by
 subst e
 cases v with
 | none => exact absurd h (by simp [RelO])
 | some x => exact ⟨x, rfl, h⟩
theorem rel_none {v : Option V} {o : Option Value} (h : RelO v o) (e : o = none) : v = none := by
 subst e
 cases v with
 | none => rfl
 | some x => exact absurd h (by simp [RelO])
theorem d_setdef {Q : Value → Shared → Prop} (I : Inv X pins σ H s) (e : H a = some (.dK kvs)) (ry : RelV (kV k) u) (rd : RelV y r) (hl : kvs.length < sizeLine)
  (h1 : ∀ v w' s', valV kvs k = some v → Inv X pins σ H s' → RelV v w' → Q w' s') (h2 : ∀ s', valV kvs k = none → Inv X pins σ (upd H a (.dK (putK kvs k y))) s' → Q r s') :
  wpAny (model X.prog X.w) A (call (.builtin "dict.setdefault") [.ref a, u, r]) Q E s := by
 obtain ⟨z, hd, vs, rel, dd⟩ := dk_of I.hok e
 refine call_meetsIn PySem.F.slot_dict_setdefault dd.typeIs PySem.F.entry_dict_setdefault (PySem.F.args_dict_setdefault_3 _ _ _) (PySem.kt_meets_setdefault (mixKind X.prog X.w) a (kV_is ry) hd r) ⟨vs, dd, by rw [← rel.length]; exact z, fun w hw => ?_, fun hn h' dd' hs => ?_⟩
 ·obtain ⟨x, hx, rx⟩ := rel_some (rel.val k) hw
  exact h1 x w _ hx (I.tok _) rx
 ·have hv := rel_none (rel.val k) hn
  refine h2 _ hv ?_
  have he : ∃ q, h'.get? a = some q := let ⟨q, _, _, hq, _⟩ := dd'; ⟨q, hq⟩
  have hz : (putK kvs k y).length ≤ sizeLine := by have := length_putK kvs k y; omega
  exact d_write I (by rw [e]; exact True.intro) hs he (dk_new hz hd (rel.put k rd) dd')
end
def tDSet (td ty tx : TE) : TE := fun σ H Q => td σ H fun x H1 => ∃ a, x = .ref a ∧ IsD H1 a ∧ ty σ H1 fun y H2 => tx σ H2 fun z H3 => ∃ kvs k, H3 a = some (.dK kvs) ∧ y = kV k ∧ kvs.length < sizeLine ∧
 (∀ v, valV kvs k = some v → Q v H3) ∧ (valV kvs k = none → Q z (upd H3 a (.dK (putK kvs k z))))
section
variable {X : Cx} {o e f : Expr} {apos cpos : Pos} {td ty tx : TE}
theorem pe_dset (ho : PE X o td) (he : PE X e ty) (hf : PE X f tx) (m : M2 X o "setdefault" apos e f cpos) : PE X (.Call (.Attribute o "setdefault" apos) [e, f] [] cpos) (tDSet td ty tx) := by
 intro pins s σ H Q I h
 refine wpAny_Call_method m.base m.few m.line PySem.F.plainAttrs_dict PySem.F.slot_dict_setdefault PySem.F.type_dict_setdefault (thn (ho pins s σ H _ I h) fun u s1 ⟨x, H1, I1, rx, a, ex, d, q1⟩ => ?_)
 subst ex
 obtain rfl : u = Value.ref a := rx
 obtain ⟨t1, t2, _⟩ := isD_at I1 d
 refine ⟨t1, t2, ?_⟩
 rw [m.trees]
 refine Calls.callWith_builtin rfl (Calls.evalArgs_plain (Calls.spliced_cons (thn (he pins s1 σ H1 _ I1 q1) fun iv s2 ⟨y, H2, I2, ry, q2⟩ =>
  Calls.spliced_cons (thn (hf pins s2 σ H2 _ I2 q2) fun fv s3 ⟨z, H3, I3, rz, kvs, k, ea, ey, hl, q3, q4⟩ => Calls.spliced_nil ?_))))
 subst ey
 exact d_setdef I3 ea ry rz hl (fun v w' s4 hv I4 rw' => ⟨v, H3, I4, rw', q3 v hv⟩) fun s4 hv I4 => ⟨z, _, I4, rz, q4 hv⟩
end
section
variable {X : Cx}
def rInsert : V → List V → Hp → VK → Prop := fun x vs H Q => ∃ l xs y n, x = .ref l ∧ vs = [.int ((n : Nat) : Int), y] ∧ H l = some (.lst xs) ∧ n ≤ xs.length ∧ xs.length < sizeLine ∧ Q .non (upd H l (.lst (xs.take n ++ y :: xs.drop n)))
theorem mt_insert : MtM X "list.insert" rInsert := by
 intro pins s σ H x vs v us Q I rx rv h
 obtain ⟨l, xs, y, i, rfl, rfl, hH, hi, hz, q⟩ := h
 cases rx
 cases rv with
 | cons r1 rv =>
  obtain ⟨t, rfl⟩ := r1
  obtain ⟨u, rfl, ru⟩ := vals1 rv
  obtain ⟨z, its, n, r, hl, e⟩ := I.lstM hH
  have hs := sizeLine_eq
  have hf := fitsIndex_both (k := (i : Int)) (by omega) (by omega)
  have hc : ¬ (!Builtin.List.listFitsIndex (i : Int)) = true := by rw [hf]; decide
  have h1 : its.toArray.size ≤ sizeLine := by rw [List.size_toArray]; omega
  clear hs
  generalize hj : (i : Int) = j at hc ⊢
  have hm := @AutoSeq1.list_insert_list_int_val_1 l its.toArray n j t u hc h1
  refine call_meets F.slot_list_insert ⟨_, e, rfl⟩ F.entry_list_insert (F.args_list_insert_3 _ _ _) hm ⟨e, ?_⟩
  refine ⟨.non, _, I.lset (its' := its.take i ++ u :: its.drop i) hH e ?_ ?_ ?_, rfl, q⟩
  ·subst hj
   have ei : min i its.length = i := by omega
   have ek : (if (i : Int) < 0 then ((i : Int) + (its.toArray.size : Int)).toNat else min (i : Int).toNat its.toArray.size) = i := by
    rw [if_neg (by omega), Int.toNat_natCast, List.size_toArray, ei]
   show (its.toArray.extract 0 (if (i : Int) < 0 then ((i : Int) + (its.toArray.size : Int)).toNat else min (i : Int).toNat its.toArray.size)).push u ++ its.toArray.extract (if (i : Int) < 0 then ((i : Int) + (its.toArray.size : Int)).toNat else min (i : Int).toNat its.toArray.size) = _
   rw [ek]
   apply Array.ext'
   simp
   exact List.take_of_length_le (by rw [List.length_drop]; exact Nat.le_refl _)
  ·exact (r.take i).append (.cons ru (r.drop i))
  ·rw [List.length_append, List.length_cons, List.length_take, List.length_drop]
   omega
end
section
variable {σ : St} {H : Hp} {Q : VK} {td ty tx : TE}
theorem y45y : tDSet td ty tx σ H Q = td σ H fun x H1 => ∃ a, x = .ref a ∧ IsD H1 a ∧ ty σ H1 fun y H2 => tx σ H2 fun z H3 => ∃ kvs k, H3 a = some (.dK kvs) ∧ y = kV k ∧ kvs.length < sizeLine ∧ (∀ v, valV kvs k = some v → Q v H3) ∧ (valV kvs k = none → Q z (upd H3 a (.dK (putK kvs k z)))) := rfl
theorem y3cy : tDGet2 td ty tx σ H Q = td σ H fun x H1 => ∃ a, x = .ref a ∧ IsD H1 a ∧ ty σ H1 fun y H2 => tx σ H2 fun z H3 => ∃ o, DGet H3 a y o ∧ Q (o.getD z) H3 := rfl
theorem y3ey {trs : List (TE × TE)} : tDisp trs σ H Q = ∀ p, H p = none → tPairs trs σ (upd H p (.dK [])) fun ps H2 => H2 p = some (.dK []) ∧ ∃ kvs : List (Key × V), ps = kvs.map (fun kv => (kV kv.1, kv.2)) ∧ kvs.length ≤ 15 ∧ Q (.ref p) (upd H2 p (.dK (mergeK [] kvs))) := rfl
theorem y79y {tk tv : TE} {R : List (V × V) → Hp → Prop} : tPairs [(tk, tv)] σ H R = tk σ H fun x H1 => tv σ H1 fun y H2 => R [(x, y)] H2 := rfl
theorem y2cy {K : PySem.W.Frag} {T : String} {r : V → List V → Hp → VK → Prop} {to : TE} : tBM0 K T r to σ H Q = to σ H fun x H1 => tyV K T x H1 ∧ r x [] H1 Q := rfl
end
end L2
set_option linter.all false
set_option maxHeartbeats 4000000
set_option maxRecDepth 100000
namespace L2
open PySem PySem.Spec PyProof.Rows Ch
def BG {α : Type} (f : α → Str) (P : α → V → Prop) (as : List α) (kvs : List (Key × V)) : Prop := kvs.map (·.1) = as.map (fun a => Sum.inr (f a)) ∧ All2 P as (kvs.map (·.2))
section
variable {α : Type} {f : α → Str} {P P' : α → V → Prop} {as : List α} {kvs : List (Key × V)} {a : α} {v : V}
theorem BG.mono (h : BG f P as kvs) (m : ∀ a x, P a x → P' a x) : BG f P' as kvs := ⟨h.1, h.2.mono m⟩
theorem BG.length (h : BG f P as kvs) : kvs.length = as.length := by simpa using congrArg List.length h.1
theorem BG.cons : BG f P (a :: as) kvs ↔ ∃ w r, kvs = (Sum.inr (f a), w) :: r ∧ P a w ∧ BG f P as r := by
 constructor
 ·rintro ⟨h1, h2⟩
  match kvs, h1, h2 with
  | (k, w) :: r, h1, h2 =>
   rw [List.map_cons, List.map_cons, List.cons.injEq] at h1
   obtain ⟨y, r', e, p, h2⟩ := h2
   rw [List.map_cons, List.cons.injEq] at e
   obtain ⟨rfl, rfl⟩ := e
   obtain ⟨h0, h1⟩ := h1
   have h0 : k = Sum.inr (f a) := h0
   subst h0
   exact ⟨_, r, rfl, p, h1, h2⟩
 ·rintro ⟨w, r, rfl, p, h⟩
  exact ⟨by rw [List.map_cons, List.map_cons, h.1], w, r.map (·.2), rfl, p, h.2⟩
theorem BG.nil : BG f P [] kvs ↔ kvs = [] := by
 constructor
 ·rintro ⟨h, _⟩
  simpa using h
 ·rintro rfl
  exact ⟨rfl, rfl⟩
theorem BG.any : ∀ {as : List α} {kvs : List (Key × V)} {z : Str}, BG f P as kvs → (kvs.any fun kv => decide (kv.1 = Sum.inr z)) = decide (z ∈ as.map f)
 | [], kvs, z, h => by rw [BG.nil.mp h]; simp
 | a :: as, kvs, z, h => by
  obtain ⟨w, r, rfl, _, h⟩ := BG.cons.mp h
  rw [List.any_cons, BG.any h]
  by_cases c : f a = z
  ·subst c
   simp
  ·have c1 : (Sum.inr (f a) : Key) ≠ Sum.inr z := fun e => c (by injection e)
   have c2 : z ≠ f a := fun e => c e.symm
   simp [c1, c2]
theorem BG.get : ∀ {as : List α} {kvs : List (Key × V)} {z : Str}, BG f P as kvs → (∃ a v, a ∈ as ∧ f a = z ∧ valV kvs (Sum.inr z) = some v ∧ P a v) ∨ (z ∉ as.map f ∧ valV kvs (Sum.inr z) = none)
 | [], kvs, z, h => by
  rw [BG.nil.mp h]
  exact .inr ⟨by simp, rfl⟩
 | a :: as, kvs, z, h => by
  obtain ⟨w, r, rfl, p, h⟩ := BG.cons.mp h
  by_cases c : f a = z
  ·subst c
   exact .inl ⟨a, w, by simp, rfl, valV_pos rfl, p⟩
  ·have c1 : (Sum.inr (f a) : Key) ≠ Sum.inr z := fun e => c (by injection e)
   have c2 : z ≠ f a := fun e => c e.symm
   have e : valV ((Sum.inr (f a), w) :: r) (Sum.inr z) = valV r (Sum.inr z) := by simp [valV, List.find?_cons, c1]
   rw [e]
   rcases BG.get h (z := z) with ⟨b, v, h1, h2, h3, h4⟩ | ⟨h1, h2⟩
   ·exact .inl ⟨b, v, by simp [h1], h2, h3, h4⟩
   ·exact .inr ⟨by simp [c2]; simpa using h1, h2⟩
theorem BG.some {z : Str} (h : BG f P as kvs) (hz : z ∈ as.map f) : ∃ a v, a ∈ as ∧ f a = z ∧ valV kvs (Sum.inr z) = some v ∧ P a v := by
 rcases h.get (z := z) with h | ⟨h, _⟩
 ·exact h
 ·exact absurd hz h
theorem BG.none {z : Str} (h : BG f P as kvs) (hz : z ∉ as.map f) : valV kvs (Sum.inr z) = none := by
 rcases h.get (z := z) with ⟨a, v, h1, h2, _⟩ | ⟨_, h⟩
 ·exact absurd (h2 ▸ List.mem_map_of_mem (f := f) h1) hz
 ·exact h
theorem BG.val {z : Str} (h : BG f P as kvs) : (valV kvs (Sum.inr z)).isSome = decide (z ∈ as.map f) := by
 by_cases c : z ∈ as.map f
 ·obtain ⟨a, v, _, _, e, _⟩ := h.some c
  rw [e, decide_eq_true c]
  rfl
 ·rw [h.none c, decide_eq_false c]
  rfl
theorem BG.new (h : BG f P as kvs) (hn : f a ∉ as.map f) (p : P a v) : BG f P (as ++ [a]) (putK kvs (Sum.inr (f a)) v) := by
 have e : putK kvs (Sum.inr (f a)) v = kvs ++ [(Sum.inr (f a), v)] := by
  unfold putK
  rw [h.any, if_neg (by simpa using hn)]
 rw [e]
 exact ⟨by rw [List.map_append, List.map_append, h.1]; rfl, by rw [List.map_append]; exact h.2.append (.one p)⟩
end
structure PD where
 nm : Str
 st : Str
 en : Str
 sz : Int × Int
 mo : Int × Int
 wt : Int
def leadOf (p : PD) (f : Str) : List (Str × Pr) := if p.st = f then [(p.en, (p.nm, true))] else if p.en = f then [(p.st, (p.nm, false))] else []
def leadsOf (ls : List PD) (f : Str) : List (Str × Pr) := ls.flatMap fun p => leadOf p f
theorem leads_app (ls : List PD) (p : PD) (f : Str) : leadsOf (ls ++ [p]) f = leadsOf ls f ++ leadOf p f := by simp [leadsOf]
theorem lead_mem {ls : List PD} {f g : Str} {pr : Pr} : (g, pr) ∈ leadsOf ls f ↔ ∃ p ∈ ls, (p.st = f ∧ p.en = g ∧ pr = (p.nm, true)) ∨ (p.st ≠ f ∧ p.en = f ∧ p.st = g ∧ pr = (p.nm, false)) := by
 unfold leadsOf
 rw [List.mem_flatMap]
 refine exists_congr fun p => and_congr_right fun _ => ?_
 unfold leadOf
 by_cases c1 : p.st = f
 ·rw [if_pos c1, List.mem_singleton, Prod.mk.injEq]
  exact ⟨fun h => .inl ⟨c1, h.1.symm, h.2⟩, fun h => h.elim (fun h => ⟨h.2.1.symm, h.2.2⟩) fun h => absurd c1 h.1⟩
 ·rw [if_neg c1]
  by_cases c2 : p.en = f
  ·rw [if_pos c2, List.mem_singleton, Prod.mk.injEq]
   exact ⟨fun h => .inr ⟨c1, c2, h.1.symm, h.2⟩, fun h => h.elim (fun h => absurd h.1 c1) fun h => ⟨h.2.2.1.symm, h.2.2.2⟩⟩
  ·rw [if_neg c2]
   exact ⟨fun h => by simp at h, fun h => h.elim (fun h => absurd h.1 c1) fun h => absurd h.2.1 c2⟩
theorem nm_uniq : ∀ {ls : List PD} {p q : PD}, (ls.map (·.nm)).Nodup → p ∈ ls → q ∈ ls → p.nm = q.nm → p = q
 | [], _, _, _, hp, _, _ => by cases hp
 | a :: ls, p, q, hn, hp, hq, e => by
  rw [List.map_cons, List.nodup_cons] at hn
  rcases List.mem_cons.mp hp with h1 | h1 <;> rcases List.mem_cons.mp hq with h2 | h2
  ·rw [h1, h2]
  ·subst h1
   exact absurd (e ▸ List.mem_map.mpr ⟨q, h2, rfl⟩) hn.1
  ·subst h2
   exact absurd (e ▸ List.mem_map.mpr ⟨p, h1, rfl⟩) hn.1
  ·exact nm_uniq hn.2 h1 h2 e
inductive WalkTo (ls : List PD) (a : Str) : List Pr → Str → Prop
 | nil : WalkTo ls a [] a
 | snoc {w : List Pr} {f g : Str} {pr : Pr} : WalkTo ls a w f → (g, pr) ∈ leadsOf ls f → WalkTo ls a (w ++ [pr]) g
def Conn (ls : List PD) (a b : Str) : Prop := ∃ w, WalkTo ls a w b
theorem conn_in {ls : List PD} {a b : Str} {S : List Str} (ha : a ∈ S) (hc : ∀ f ∈ S, ∀ e ∈ leadsOf ls f, e.1 ∈ S) (h : Conn ls a b) : b ∈ S := by
 obtain ⟨w, h⟩ := h
 induction h with
 | nil => exact ha
 | snoc _ hm ih => exact hc _ ih _ hm
def fcsOf (ls : List PD) : List Str := ls.flatMap fun p => [p.st, p.en]
theorem lead_fcs {ls : List PD} {f : Str} {e : Str × Pr} (h : e ∈ leadsOf ls f) : e.1 ∈ fcsOf ls := by
 obtain ⟨p, hp, he⟩ := List.mem_flatMap.mp h
 refine List.mem_flatMap.mpr ⟨p, hp, ?_⟩
 unfold leadOf at he
 split at he
 ·rw [List.mem_singleton.mp he]
  simp
 ·split at he
  ·rw [List.mem_singleton.mp he]
   simp
  ·simp at he
theorem walk_fcs {ls : List PD} {a b : Str} {w : List Pr} (h : WalkTo ls a w b) : b ∈ a :: fcsOf ls := by
 cases h with
 | nil => simp
 | snoc _ hm => exact List.mem_cons_of_mem _ (lead_fcs hm)
theorem fcs_len (ls : List PD) : (fcsOf ls).length = 2 * ls.length := by
 unfold fcsOf
 induction ls with
 | nil => rfl
 | cons p ls ih =>
  rw [List.flatMap_cons, List.length_append, ih]
  simp
  omega
end L2
set_option linter.all false
set_option maxHeartbeats 4000000
set_option maxRecDepth 100000
namespace L2
open PySem PySem.Spec PyProof.Rows
section
variable {X : Cx} {pins : List (Addr × Obj)} {σ : List (Option V)} {H H' : Hp} {s s' : Shared} {d : Addr} {kvs kvs' : List (Key × V)} {od : Obj}
end
def Itv (d : Addr) (od : Obj) (kvs : List (Key × V)) : It :=
 ⟨fun i H => H d = some (.frz od (.dK kvs)) ∧ i < kvs.length, fun i H x H' => H' = H ∧ (kvs.map (·.2))[i]? = some x, fun i H => H d = some (.frz od (.dK kvs)) ∧ kvs.length ≤ i⟩
section
variable {X : Cx} {tg : Expr}
def iVals (td : TE) : TI := fun σ H R => td σ H fun x H1 => ∃ d kvs, x = .ref d ∧ H1 d = some (.dK kvs) ∧ ∀ od, R (Itv d od kvs) (upd H1 d (.frz od (.dK kvs)))
def tThaw (t : TE) : TE := fun σ H Q => ∃ d kvs, H d = some (.dK kvs) ∧ t σ H fun v H' => ∃ od kvs', H' d = some (.frz od (.dK kvs')) ∧ Q v (upd H' d (.dK kvs'))
end
section
variable {k : Nat} {cs : List (Nat × Str)} {g : TG} {te tl td : TE} {σ : St} {H H1 : Hp} {Q : VK} {d : Addr} {od : Obj} {kvs : List (Key × V)}
theorem y37y : tThaw (tComp k cs (iVals td) g te) σ H Q = ∃ d kvs, H d = some (.dK kvs) ∧ td σ H fun x H1 => ∃ d1 kvs1, x = .ref d1 ∧ H1 d1 = some (.dK kvs1) ∧ ∀ od, CompJ (Itv d1 od kvs1) k cs g te σ (fun v H' => ∃ od kvs', H' d = some (.frz od (.dK kvs')) ∧ Q v (upd H' d (.dK kvs'))) (upd H1 d1 (.frz od (.dK kvs1))) := rfl
end
section
variable {X : Cx} {k k' : Nat} {x : Str} {C : Addr} {ps : List Str} {sp : Sp} {E : XK} {p pos : Pos}
theorem KCal.ev0 (G : KCal X.prog X.w X.K X.mg X.base k x C ps sp) (hr : Room k' X.A) (hk : k + 1 ≤ k') (hg : Gl X x) (hx : Passes (CX1 X.prog X.w) X E) (hdb : (x == ("__debug__" : Str)) = false := by decide) :
  PE X (.Call (.Name x p) [] [] pos) (tMake C sp [] E tNil) := by
 obtain ⟨f, fd, F, hm, M, hb⟩ := G.ex
 exact pe_make0 M F (hr.mono hk) hg hm hb .nil hx hdb
end
end L2
set_option linter.all false
set_option maxHeartbeats 4000000
set_option maxRecDepth 100000
namespace L2
open PySem PySem.Spec PyProof.Rows Ch
def wtB : D → Bool
 | .int i => decide (1 ≤ i)
 | _ => false
def partB : D → Bool
 | .tup [n, s, e, z, m, w] => nameB n && facesB s e && (fracB z && fracB m && wholeB w) && (!lessD m (.tup [.int 0, .int 1]) && wtB w)
 | _ => false
def gapB : D → Bool
 | .tup [n, s, e, l, g] => tieB (.tup [n, s, e, l, g]) && !nonD l && !nonD g
 | _ => false
structure POk (p : PD) : Prop where
 n1 : nameS p.nm = true
 n2 : nameS p.st = true
 n3 : nameS p.en = true
 ne : p.st ≠ p.en
 z : FOk 200 p.sz
 m : FOk 200 p.mo
 m0 : 0 ≤ p.mo.1
 w : 1 ≤ p.wt
 ws : Mth.Sz 200 p.wt
structure GD where
 nm : Str
 st : Str
 en : Str
 lo : Int × Int
 hi : Int × Int
def GD.td (g : GD) : TD := ⟨g.nm, g.st, g.en, some g.lo, some g.hi⟩
def pdD (p : PD) : D := .tup [.str p.nm, .str p.st, .str p.en, frD p.sz, frD p.mo, .int p.wt]
theorem POk.part {p : PD} (h : POk p) : partB (pdD p) = true := by
 have e : eqD (.str p.st) (.str p.en) = false := by simp only [eqD, beq_eq_false_iff_ne]; exact h.ne
 have l : lessD (frD p.mo) (.tup [.int 0, .int 1]) = false := by
  simp [frD, lessD]
  exact h.m0
 simp [pdD, partB, nameB, facesB, h.n1, h.n2, h.n3, e, l, frD, fracB, wholeB, wtB, h.z.b1, h.z.g1, h.m.b1, h.m.g1, h.w]
 simpa [frD, lessD] using h.m0
theorem POk.sz {p : PD} (h : POk p) : szD (pdD p) := by
 simp only [pdD, frD, szD, szL]
 have := len8 h.n1
 have := len8 h.n2
 have := len8 h.n3
 exact ⟨by omega, by omega, by omega, ⟨h.z.s1.mono (by decide), h.z.s2.mono (by decide), trivial⟩, ⟨h.m.s1.mono (by decide), h.m.s2.mono (by decide), trivial⟩, h.ws.mono (by decide), trivial⟩
theorem gap_ok {g : GD} (h : TOk g.td) : gapB (tdD g.td) = true := by
 have := h.tie
 simp only [tdD, gapB] at this ⊢
 rw [this]
 rfl
def PDV (K : PySem.W.Frag) (H : Hp) (p : PD) (x : V) : Prop := ∃ b vz vm, x = .ref b ∧ SqT K H b [.str p.nm, .str p.st, .str p.en, vz, vm, .int p.wt] ∧ FrV K H vz p.sz.1 p.sz.2 ∧ FrV K H vm p.mo.1 p.mo.2
section
variable {K : PySem.W.Frag} {H H' : Hp}
theorem PDV.sameT {p : PD} {x : V} (S : SameT H H') : PDV K H p x → PDV K H' p x := fun ⟨b, vz, vm, e, q, h1, h2⟩ => ⟨b, vz, vm, e, q.sameT S, h1.sameT S, h2.sameT S⟩
theorem PDV.rep {p : PD} {x : V} : PDV K H p x → Rep K H (pdD p) x := fun ⟨b, vz, vm, e, q, h1, h2⟩ => by
 simp only [pdD, Rep, RepL]
 exact ⟨b, _, e, q, _, _, rfl, rfl, _, _, rfl, rfl, _, _, rfl, rfl, _, _, rfl, FrV.rep h1, _, _, rfl, FrV.rep h2, _, _, rfl, rfl, rfl⟩
end
def LeV (H : Hp) (e : Str × Pr) (x : V) : Prop := ∃ b c, x = .ref b ∧ H b = some (.tup [.str e.1, .ref c]) ∧ H c = some (.tup [.str e.2.1, .bl e.2.2])
theorem LeV.sameT {H H' : Hp} {e : Str × Pr} {x : V} (S : SameT H H') : LeV H e x → LeV H' e x := fun ⟨b, c, h1, h2, h3⟩ => ⟨b, c, h1, S _ _ rfl h2, S _ _ rfl h3⟩
structure JD (H0 H : Hp) (L : Str → List (Str × Pr)) (kvs : List (Key × V)) : Prop where
 at_ : ∀ (f : Str), (valV kvs (Sum.inr f) = none ∧ L f = []) ∨ ∃ l xs, valV kvs (Sum.inr f) = some (.ref l) ∧ H0 l = none ∧ H l = some (.lst xs) ∧ All2 (LeV H) (L f) xs
 inj : ∀ (f g : Str) (l : Addr), valV kvs (Sum.inr f) = some (.ref l) → valV kvs (Sum.inr g) = some (.ref l) → f = g
theorem JD.same {H0 H H' : Hp} {L : Str → List (Str × Pr)} {kvs : List (Key × V)} (S : Same H H') (h : JD H0 H L kvs) : JD H0 H' L kvs where
 at_ := fun f => by
  rcases h.at_ f with h | ⟨l, xs, h1, h2, h3, h4⟩
  ·exact .inl h
  ·exact .inr ⟨l, xs, h1, h2, S _ _ h3, h4.mono fun _ _ z => z.sameT S.t⟩
 inj := h.inj
theorem JD.sx {H0 H H' : Hp} {L : Str → List (Str × Pr)} {kvs kv2 : List (Key × V)} {d : Addr} (S : ∀ b u, b ≠ d → H b = some u → H' b = some u) (hd : H d = some (.dK kv2)) (h : JD H0 H L kvs) : JD H0 H' L kvs where
 at_ := fun f => by
  have T : SameT H H' := fun b u t q => S b u (fun z => by rw [z, hd] at q; cases q; simp [isTF] at t) q
  rcases h.at_ f with h | ⟨l, xs, h1, h2, h3, h4⟩
  ·exact .inl h
  ·exact .inr ⟨l, xs, h1, h2, S _ _ (fun z => by rw [z, hd] at h3; cases h3) h3, h4.mono fun _ _ z => z.sameT T⟩
 inj := h.inj
theorem JD.sy {H0 H H' : Hp} {L : Str → List (Str × Pr)} {kvs : List (Key × V)} {x : Addr} {o : HO} (S : ∀ b u, b ≠ x → H b = some u → H' b = some u) (hx : H x = some o) (hn : ∀ xs, o ≠ .lst xs) (ht : isTF o = false) (h : JD H0 H L kvs) : JD H0 H' L kvs where
 at_ := fun f => by
  have T : SameT H H' := fun b u t q => S b u (fun z => by rw [z, hx] at q; cases q; rw [ht] at t; cases t) q
  rcases h.at_ f with h | ⟨l, xs, h1, h2, h3, h4⟩
  ·exact .inl h
  ·exact .inr ⟨l, xs, h1, h2, S _ _ (fun z => by rw [z, hx] at h3; exact hn _ (Option.some.inj h3)) h3, h4.mono fun _ _ z => z.sameT T⟩
 inj := h.inj
theorem JD.nil {H0 H : Hp} : JD H0 H (fun _ => []) [] := ⟨fun f => .inl ⟨rfl, rfl⟩, fun f g l h => by simp [valV] at h⟩
def addL (L : Str → List (Str × Pr)) (f : Str) (e : Str × Pr) : Str → List (Str × Pr) := fun g => if g = f then L g ++ [e] else L g
theorem JD.more {H0 H H' : Hp} {L : Str → List (Str × Pr)} {kvs : List (Key × V)} {f : Str} {e : Str × Pr} {l b : Addr} {xs : List V} (h : JD H0 H L kvs) (hv : valV kvs (Sum.inr f) = some (.ref l)) (hl : H l = some (.lst xs)) (hb : LeV H e (.ref b)) (e' : upd H l (.lst (xs ++ [.ref b])) = H') : JD H0 H' (addL L f e) kvs where
 at_ := fun g => by
  have T : SameT H H' := SameT.put e' hl rfl
  have hl' : H' l = some (.lst (xs ++ [.ref b])) := by rw [← e', upd_same]
  by_cases c : g = f
  ·subst c
   rcases h.at_ g with ⟨h1, _⟩ | ⟨l2, xs2, h1, h2, h3, h4⟩
   ·rw [hv] at h1
    cases h1
   ·rw [hv] at h1
    cases h1
    rw [hl] at h3
    cases h3
    refine .inr ⟨l, _, hv, h2, hl', ?_⟩
    unfold addL
    rw [if_pos rfl]
    exact (h4.mono fun _ _ z => z.sameT T).append (.one (hb.sameT T))
  ·unfold addL
   rw [if_neg c]
   rcases h.at_ g with h1 | ⟨l2, xs2, h1, h2, h3, h4⟩
   ·exact .inl h1
   ·have ne : l2 ≠ l := fun z => c (h.inj g f l (by rw [h1, z]) hv)
    exact .inr ⟨l2, xs2, h1, h2, by rw [← e', upd_ne ne]; exact h3, h4.mono fun _ _ z => z.sameT T⟩
 inj := h.inj
theorem JD.first {H0 H H' : Hp} {L : Str → List (Str × Pr)} {kvs : List (Key × V)} {f : Str} {e : Str × Pr} {l b : Addr} (h : JD H0 H L kvs) (hv : valV kvs (Sum.inr f) = none) (h0 : H0 l = none) (hn : ∀ g l', valV kvs (Sum.inr g) = some (.ref l') → l' ≠ l) (hl : H l = some (.lst [])) (hb : LeV H e (.ref b)) (e' : upd H l (.lst [.ref b]) = H') : JD H0 H' (addL L f e) (putK kvs (Sum.inr f) (.ref l)) where
 at_ := fun g => by
  have T : SameT H H' := SameT.put e' hl rfl
  have hl' : H' l = some (.lst [.ref b]) := by rw [← e', upd_same]
  rw [valV_put]
  by_cases c : g = f
  ·subst c
   rw [if_pos rfl]
   refine .inr ⟨l, _, rfl, h0, hl', ?_⟩
   unfold addL
   rw [if_pos rfl]
   rcases h.at_ g with ⟨_, h2⟩ | ⟨l2, xs2, h1, _⟩
   ·rw [h2]
    exact .one (hb.sameT T)
   ·rw [hv] at h1
    cases h1
  ·have c' : (Sum.inr g : Key) ≠ Sum.inr f := fun z => c (by injection z)
   rw [if_neg c']
   unfold addL
   rw [if_neg c]
   rcases h.at_ g with h1 | ⟨l2, xs2, h1, h2, h3, h4⟩
   ·exact .inl h1
   ·exact .inr ⟨l2, xs2, h1, h2, by rw [← e', upd_ne (hn g l2 h1)]; exact h3, h4.mono fun _ _ z => z.sameT T⟩
 inj := fun g1 g2 l' h1 h2 => by
  rw [valV_put] at h1 h2
  by_cases c1 : (Sum.inr g1 : Key) = Sum.inr f
  ·by_cases c2 : (Sum.inr g2 : Key) = Sum.inr f
   ·have := c1.trans c2.symm
    injection this
   ·rw [if_pos c1] at h1
    rw [if_neg c2] at h2
    cases h1
    exact absurd rfl (hn g2 l h2)
  ·by_cases c2 : (Sum.inr g2 : Key) = Sum.inr f
   ·rw [if_neg c1] at h1
    rw [if_pos c2] at h2
    cases h2
    exact absurd rfl (hn g1 l h1)
   ·rw [if_neg c1] at h1
    rw [if_neg c2] at h2
    exact h.inj g1 g2 l' h1 h2
theorem add_leads {ls : List PD} {p : PD} (h : p.st ≠ p.en) : addL (addL (leadsOf ls) p.st (p.en, (p.nm, true))) p.en (p.st, (p.nm, false)) = leadsOf (ls ++ [p]) := by
 funext g
 rw [leads_app]
 unfold addL leadOf
 by_cases c1 : g = p.en
 ·subst c1
  have h' : p.en ≠ p.st := fun z => h z.symm
  simp [h, h']
 ·have c1' : p.en ≠ g := fun z => c1 z.symm
  by_cases c2 : g = p.st
  ·subst c2
   simp [c1]
  ·have c2' : p.st ≠ g := fun z => c2 z.symm
   simp [c1, c2, c1', c2']
theorem lead_len (ls : List PD) (f : Str) : (leadsOf ls f).length ≤ ls.length := by
 unfold leadsOf
 induction ls with
 | nil => simp
 | cons p ls ih =>
  rw [List.flatMap_cons, List.length_append, List.length_cons]
  have : (leadOf p f).length ≤ 1 := by
   unfold leadOf
   split
   ·simp
   ·split <;> simp
  omega
end L2
set_option linter.all false
set_option maxHeartbeats 4000000
set_option maxRecDepth 100000
namespace L2
open PySem PySem.Spec PyProof.Rows Ch
def PWy (H H' : Hp) (wl : Addr) (a : Str × List Pr) (v : V) : Prop := ∃ l xs, v = .ref l ∧ H l = none ∧ l ≠ wl ∧ H' l = some (.lst xs) ∧ All2 (CV H') a.2 xs
structure Srch (H : Hp) (ls : List PD) (one : Str) (fd wl : Addr) (H' : Hp) (ws : List (Str × List Pr)) (wt : List Str) : Prop where
 same : Same H H'
 dict : ∃ kvs, H' fd = some (.dK kvs) ∧ BG (·.1) (PWy H H' wl) ws kvs
 nd : (ws.map (·.1)).Nodup
 here : one ∈ ws.map (·.1)
 walk : ∀ a ∈ ws, WalkTo ls one a.2 a.1
 wait : H' wl = some (.lst (wt.map V.str))
 sub : ∀ f ∈ wt, f ∈ ws.map (·.1)
 lw : ∀ a ∈ ws, a.2.length ≤ ws.length
 sim : ∀ a ∈ ws, (a.2.map (·.1)).Nodup ∧ ∀ p ∈ ls, p.nm ∈ a.2.map (·.1) → p.st ∈ ws.map (·.1) ∧ p.en ∈ ws.map (·.1)
section
variable {H H' H'' : Hp} {ls : List PD} {one : Str} {fd wl : Addr} {ws : List (Str × List Pr)} {wt : List Str}
theorem Srch.len (h : Srch H ls one fd wl H' ws wt) (hl : ls.length ≤ 20) : ws.length ≤ 41 := by
 have := sub_len (ws.map (·.1)) (one :: fcsOf ls) h.nd fun z hz => by
  obtain ⟨a, ha, rfl⟩ := List.mem_map.mp hz
  exact walk_fcs (h.walk a ha)
 rw [List.length_map, List.length_cons, fcs_len] at this
 omega
theorem Srch.grow (h : Srch H ls one fd wl H' ws wt) (S : Same H' H'') : Srch H ls one fd wl H'' ws wt := by
 obtain ⟨kvs, h1, h2⟩ := h.dict
 exact ⟨h.same.trans S, ⟨kvs, S _ _ h1, h2.mono fun a v ⟨l, xs, e, hn, hw, hx, ha⟩ => ⟨l, xs, e, hn, hw, S _ _ hx, ha.mono fun _ _ z => z.sameT S.t⟩⟩, h.nd, h.here, h.walk, S _ _ h.wait, h.sub, h.lw, h.sim⟩
theorem Srch.wait' {wt' : List Str} (h : Srch H ls one fd wl H' ws wt) (hw : H wl = none) (e : upd H' wl (.lst (wt'.map V.str)) = H'') (hs : ∀ f ∈ wt', f ∈ ws.map (·.1)) : Srch H ls one fd wl H'' ws wt' := by
 obtain ⟨kvs, h1, h2⟩ := h.dict
 have T : SameT H' H'' := SameT.put e h.wait rfl
 have nfw : fd ≠ wl := fun z => by have := h.wait; rw [← z, h1] at this; cases this
 refine ⟨fun b u q => by rw [← e, upd_ne (ne_of_none q hw)]; exact h.same _ _ q, ⟨kvs, by rw [← e, upd_ne nfw]; exact h1, h2.mono fun a v ⟨l, xs, e1, hn, hne, hx, ha⟩ => ⟨l, xs, e1, hn, hne, by rw [← e, upd_ne hne]; exact hx, ha.mono fun _ _ z => z.sameT T⟩⟩, h.nd, h.here, h.walk, by rw [← e, upd_same], hs, h.lw, h.sim⟩
theorem Srch.find {g : Str} {w : List Pr} {l : Addr} {xs : List V} {kvs : List (Key × V)} (h : Srch H ls one fd wl H' ws wt) (hk : H' fd = some (.dK kvs)) (hb : BG (·.1) (PWy H H' wl) ws kvs) (hf : H fd = none) (hg : g ∉ ws.map (·.1)) (hwk : WalkTo ls one w g) (hlw : w.length ≤ ws.length + 1) (hsm : (w.map (·.1)).Nodup ∧ ∀ p ∈ ls, p.nm ∈ w.map (·.1) → p.st ∈ (ws ++ [(g, w)]).map (·.1) ∧ p.en ∈ (ws ++ [(g, w)]).map (·.1)) (hl : H l = none) (hne : l ≠ wl) (hx : H' l = some (.lst xs)) (ha : All2 (CV H') w xs)
  (e : upd H' fd (.dK (putK kvs (Sum.inr g) (.ref l))) = H'') : Srch H ls one fd wl H'' (ws ++ [(g, w)]) wt := by
 have T : SameT H' H'' := SameT.put e hk rfl
 have nfw : wl ≠ fd := fun z => by have := h.wait; rw [z, hk] at this; cases this
 have nl : ∀ {b : Addr} {ys : List V}, H' b = some (.lst ys) → H'' b = some (.lst ys) := fun q => by rw [← e, upd_ne (fun z => by rw [z, hk] at q; cases q)]; exact q
 refine ⟨fun b u q => by rw [← e, upd_ne (ne_of_none q hf)]; exact h.same _ _ q, ⟨_, by rw [← e, upd_same], ?_⟩, ?_, ?_, ?_, nl h.wait, ?_, ?_, ?_⟩
 ·have := hb.mono (P' := PWy H H'' wl) fun a v ⟨l, xs, e1, hn, hne, hx, ha⟩ => ⟨l, xs, e1, hn, hne, nl hx, ha.mono fun _ _ z => z.sameT T⟩
  exact this.new (a := (g, w)) hg ⟨l, xs, rfl, hl, hne, nl hx, ha.mono fun _ _ z => z.sameT T⟩
 ·rw [List.map_append, List.nodup_append]
  refine ⟨h.nd, by simp, fun a ha b hb z => hg ?_⟩
  rw [List.map_cons, List.map_nil, List.mem_singleton] at hb
  have hb : b = g := hb
  rw [← hb, ← z]
  exact ha
 ·rw [List.map_append]
  exact List.mem_append.mpr (.inl h.here)
 ·intro a ha
  rcases List.mem_append.mp ha with ha | ha
  ·exact h.walk a ha
  ·rw [List.mem_singleton.mp ha]
   exact hwk
 ·intro f hf'
  rw [List.map_append]
  exact List.mem_append.mpr (.inl (h.sub f hf'))
 ·intro a ha
  rw [List.length_append, List.length_singleton]
  rcases List.mem_append.mp ha with ha | ha
  ·have := h.lw a ha
   omega
  ·rw [List.mem_singleton.mp ha]
   exact hlw
 ·intro a ha
  rcases List.mem_append.mp ha with ha | ha
  ·refine ⟨(h.sim a ha).1, fun p hp hn => ?_⟩
   have := (h.sim a ha).2 p hp hn
   rw [List.map_append]
   exact ⟨List.mem_append.mpr (.inl this.1), List.mem_append.mpr (.inl this.2)⟩
  ·rw [List.mem_singleton.mp ha]
   exact hsm
end
end L2
set_option linter.all false
set_option maxHeartbeats 4000000
set_option maxRecDepth 100000
namespace L2
open PySem PySem.Spec PyProof.Rows Ch
inductive PR
 | ok (ls : List PD)
 | noPart
 | twice
 | ring
open Classical in
noncomputable def partsW : List PD → List (PD ⊕ D) → PR
 | acc, [] => .ok acc
 | _, .inr _ :: _ => .noPart
 | acc, .inl p :: r => if p.nm ∈ acc.map (·.nm) then .twice else if Conn acc p.st p.en then .ring else partsW (acc ++ [p]) r
inductive GR
 | ok (gs : List GD)
 | noGap
 | twice
 | apart
open Classical in
noncomputable def gapsW (ls : List PD) : List GD → List (GD ⊕ D) → GR
 | acc, [] => .ok acc
 | _, .inr _ :: _ => .noGap
 | acc, .inl g :: r => if g.nm ∈ acc.map (·.nm) then .twice else if Conn ls g.st g.en then gapsW ls (acc ++ [g]) r else .apart
theorem partsW_bad (acc : List PD) (c : D) (r : List (PD ⊕ D)) : partsW acc (.inr c :: r) = .noPart := rfl
theorem partsW_two {acc : List PD} {p : PD} {r : List (PD ⊕ D)} (h : p.nm ∈ acc.map (·.nm)) : partsW acc (.inl p :: r) = .twice := by
 rw [partsW, if_pos h]
theorem partsW_ring {acc : List PD} {p : PD} {r : List (PD ⊕ D)} (h : p.nm ∉ acc.map (·.nm)) (hc : Conn acc p.st p.en) : partsW acc (.inl p :: r) = .ring := by
 rw [partsW, if_neg h, if_pos hc]
theorem partsW_go {acc : List PD} {p : PD} {r : List (PD ⊕ D)} (h : p.nm ∉ acc.map (·.nm)) (hc : ¬ Conn acc p.st p.en) : partsW acc (.inl p :: r) = partsW (acc ++ [p]) r := by
 rw [partsW, if_neg h, if_neg hc]
theorem gapsW_bad (ls : List PD) (acc : List GD) (c : D) (r : List (GD ⊕ D)) : gapsW ls acc (.inr c :: r) = .noGap := rfl
theorem gapsW_two {ls : List PD} {acc : List GD} {g : GD} {r : List (GD ⊕ D)} (h : g.nm ∈ acc.map (·.nm)) : gapsW ls acc (.inl g :: r) = .twice := by
 rw [gapsW, if_pos h]
theorem gapsW_apart {ls : List PD} {acc : List GD} {g : GD} {r : List (GD ⊕ D)} (h : g.nm ∉ acc.map (·.nm)) (hc : ¬ Conn ls g.st g.en) : gapsW ls acc (.inl g :: r) = .apart := by
 rw [gapsW, if_neg h, if_neg hc]
theorem gapsW_go {ls : List PD} {acc : List GD} {g : GD} {r : List (GD ⊕ D)} (h : g.nm ∉ acc.map (·.nm)) (hc : Conn ls g.st g.en) : gapsW ls acc (.inl g :: r) = gapsW ls (acc ++ [g]) r := by
 rw [gapsW, if_neg h, if_pos hc]
def WOV (H : Hp) (ls : List PD) (g : GD) (v : V) : Prop := ∃ l xs w, v = .ref l ∧ H l = some (.lst xs) ∧ All2 (CV H) w xs ∧ WalkTo ls g.st w g.en ∧ (w.map (·.1)).Nodup
theorem WOV.same {H H' : Hp} {ls : List PD} {g : GD} {v : V} (S : Same H H') : WOV H ls g v → WOV H' ls g v := fun ⟨l, xs, w, h1, h2, h3, h4⟩ => ⟨l, xs, w, h1, S _ _ h2, h3.mono fun _ _ z => z.sameT S.t, h4⟩
end L2
set_option linter.all false
set_option maxHeartbeats 4000000
set_option maxRecDepth 100000
namespace L2
open PySem PySem.Spec PyProof.Rows Ch
abbrev Fr2 := Int × Int
end L2
set_option linter.all false
set_option maxHeartbeats 4000000
set_option maxRecDepth 100000
namespace L2
open PySem PySem.Spec PyProof.Rows Ch
section
variable {K : PySem.W.Frag} {k : Nat} {cs : List (Nat × Str)} {g : TG} {te : TE} {ta : TA} {σ : St} {H H1 : Hp} {Q : VK} {a b : Addr} {xs zs : List V}
end
end L2
set_option linter.all false
set_option maxHeartbeats 4000000
set_option maxRecDepth 100000
namespace L2
open PySem PySem.Spec PyProof.Rows Ch
section
variable {X : Cx}
end
section
variable {K : PySem.W.Frag} {H : Hp} {Q : VK}
end
end L2
set_option linter.all false
set_option maxHeartbeats 4000000
set_option maxRecDepth 100000
namespace L2
open PySem PySem.Spec PyProof.Rows Ch
def fc (j : Nat) : Str := ⟨#[102 + j]⟩
theorem All2.map {α β : Type} {P : α → V → Prop} {P' : β → V → Prop} {f : α → β} : ∀ {as : List α} {xs : List V}, All2 P as xs → (∀ a ∈ as, ∀ x, P a x → P' (f a) x) → All2 P' (as.map f) xs
 | [], xs, h, _ => h
 | a :: as, xs, h, m => by
  obtain ⟨x, r, rfl, h1, h2⟩ := h
  exact ⟨x, r, rfl, m a (by simp) x h1, All2.map h2 fun b hb => m b (by simp [hb])⟩
theorem gaps_ok {ls : List PD} : ∀ (gs acc : List GD), ((acc ++ gs).map (·.nm)).Nodup → (∀ g ∈ gs, Conn ls g.st g.en) → gapsW ls acc (gs.map Sum.inl) = .ok (acc ++ gs)
 | [], acc, _, _ => by
  rw [List.map_nil, gapsW, List.append_nil]
 | g :: gs, acc, hn, hc => by
  have ea : acc ++ g :: gs = (acc ++ [g]) ++ gs := by simp
  have ne : g.nm ∉ acc.map (·.nm) := by
   have h2 := hn
   rw [List.map_append, List.map_cons, List.nodup_append] at h2
   exact fun z => h2.2.2 _ z _ (by simp) rfl
  rw [List.map_cons, gapsW_go ne (hc g (by simp)), gaps_ok gs (acc ++ [g]) (by rw [← ea]; exact hn) (fun u hu => hc u (by simp [hu])), ea]
end L2
set_option linter.all false
set_option maxHeartbeats 4000000
set_option maxRecDepth 100000
namespace L2
open PySem PySem.Spec PyProof.Rows Ch
section
variable {prog : Program} {w : World} {A : Around} {E : Value → Shared → Prop} {s : Shared}
end
end L2
set_option linter.all false
set_option maxHeartbeats 4000000
set_option maxRecDepth 100000
namespace L2
open PySem PySem.Spec PyProof.Rows Ch
section
variable {prog : Program} {w : World} {A : Around} {E : Value → Shared → Prop} {s : Shared}
end
section
variable {X : Cx}
end
section
variable {X : Cx} {elts : List Expr} {x1 : Nat} {tp : Pos}
end
section
variable {K : PySem.W.Frag} {k : Nat} {cs : List (Nat × Str)} {g : TG} {te : TE} {ta : TA} {σ : St} {H H1 : Hp} {Q : VK} {a : Addr} {xs : List V}
theorem CompJ.range {lo : Int} {n : Nat} (Pv : Nat → List V → Hp → Prop) (h0 : Pv 0 [] H1) (hl : ∀ i ys H', i ≤ n → Pv i ys H' → ys.length ≤ sizeLine)
  (hs : ∀ i ys H2, i < n → Pv i ys H2 → g (.int (lo + i)) (List.replicate k none ++ capsAt cs σ) H2 fun σ4 H4 => te σ4 H4 fun y H5 => Pv (i + 1) (ys ++ [y]) H5) (hd : ∀ ys H2, Pv n ys H2 → ∀ p, H2 p = none → Q (.ref p) (upd H2 p (.lst ys))) :
  CompJ (Itr lo n) k cs g te σ Q H1 := by
 refine ⟨fun i m ys H' => Pv i ys H' ∧ i ≤ n ∧ m = n - i, ⟨_, h0, Nat.zero_le _, rfl⟩, ?_⟩
 rintro i m ys H2 ⟨hp, hi, rfl⟩
 refine ⟨hl i ys H2 hi hp, ?_⟩
 by_cases c : i < n
 ·refine .inr ⟨c, ?_⟩
  rintro v H3 ⟨rfl, rfl⟩
  have e : (fun (σ4 : St) (H4 : Hp) => te σ4 H4 fun y H5 => Pv (i + 1) (ys ++ [y]) H5) = fun σ4 H4 => te σ4 H4 fun y H5 => ∃ m', m' < n - i ∧ Pv (i + 1) (ys ++ [y]) H5 ∧ i + 1 ≤ n ∧ m' = n - (i + 1) := by
   funext σ4 H4
   congr 1
   funext y H5
   exact propext ⟨fun q => ⟨_, Nat.sub_lt_sub_left c (Nat.lt_succ_self i), q, c, rfl⟩, fun ⟨_, _, q, _⟩ => q⟩
  rw [← e]
  exact hs i ys _ c hp
 ·have ei : i = n := by omega
  subst ei
  exact .inl ⟨Nat.le_refl _, hd ys H2 hp⟩
end
end L2
set_option linter.all false
set_option maxHeartbeats 4000000
set_option maxRecDepth 100000
namespace L2
open PySem PySem.Spec PyProof.Rows Ch
def Itq (lo c : Int) (n : Nat) : It := ⟨fun i _ => i < n, fun i H x H' => H' = H ∧ x = .int (lo + i * c), fun i _ => n ≤ i⟩
theorem turn_rangeS {P : Program} {w : World} {K : PySem.W.Frag} {tg : Expr} (it : Addr) (lo c : Int) (n : Nat) : Turn P w K tg (Itq lo c n) [it] it (fun i h => IsRangeIter h it (lo + (i : Nat) * c) ((n : Int) - (i : Nat)) c) where
 mem := by simp
 obj := fun i h st b hb => by
  have e : b = it := by simpa using hb
  subst e
  exact ⟨_, st, fun v z => by
   have z' : Data.fields _ = Data.cell v := z
   cases z'⟩
 keep := fun i h h' st k => k it (by simp) _ st
 item := by
  intro X hP hw hK hc i pins s σ H E I hf st hg
  subst hP hw hK
  obtain ⟨f0, f1, f2, f3, f4, f5⟩ := hf it (by simp)
  have W := Walks.range (prog := X.prog) (w := X.w) (I.ok.hd hc) it lo c n
  refine W.item i s _ _ hg st fun v h' tk hv st' kk => ?_
  obtain ⟨t, rfl⟩ := hv
  have I1 : Inv X pins σ H { s with heap := h', toks := tk } := I.turned (fun b o hb e => kk b o (by simpa using hb) e) f0 f1 f3 f4 f5
  exact ⟨_, rfl, go_of (s := { s with heap := h', toks := tk }) (n := "range_iterator") st' rfl rfl (by decide) ⟨.int (lo + i * c), H, I1, ⟨t, rfl⟩, ⟨rfl, rfl⟩, st', fun b hb => (hf b hb).1⟩⟩
 done := by
  intro X hP hw hK hc i pins s σ H E I hf st hg
  subst hP hw hK
  obtain ⟨f0, f1, f2, f3, f4, f5⟩ := hf it (by simp)
  exact wpAny_pyNext_range_end (I.ok.hd hc) st (by have : n ≤ i := hg; omega) fun h' eb => ⟨rfl, I.turned (t' := s.toks) (fun b o hb e => eb b o hb e) f0 f1 f3 f4 f5⟩
 self := fun _ _ _ _ _ st h => wpAny_pyIter_rangeiter st h
def rsz (lo hi c : Int) : Nat := (if lo < hi then (hi - lo - 1) / c + 1 else 0).toNat
theorem range_size {lo hi c : Int} (hc : 1 ≤ c) : ((rsz lo hi c : Nat) : Int) = Builtin.Range.rangeSize lo hi c := by
 unfold rsz Builtin.Range.rangeSize
 rw [if_pos (show c > 0 by omega)]
 split
 ·have := Int.ediv_nonneg (a := hi - lo - 1) (b := c) (by omega) (by omega)
  omega
 ·rfl
theorem range_small {lo hi c : Int} (h1 : 0 ≤ lo) (h2 : lo < 2 ^ 40) (h3 : 0 ≤ hi) (h4 : hi < 2 ^ 40) (h5 : 1 ≤ c) (h6 : c < 2 ^ 30) : Builtin.Range.small lo hi c = true := by
 unfold Builtin.Range.small
 have e : 0 ≤ Builtin.Range.rangeSize lo hi c ∧ Builtin.Range.rangeSize lo hi c < 2 ^ 41 := by
  rw [← range_size h5]
  refine ⟨by omega, ?_⟩
  unfold rsz
  split
  ·have a1 := Int.ediv_nonneg (a := hi - lo - 1) (b := c) (by omega) (by omega)
   have a2 := Int.ediv_le_self c (show 0 ≤ hi - lo - 1 by omega)
   omega
  ·simp
 generalize Builtin.Range.rangeSize lo hi c = z at e ⊢
 simp only [Builtin.Range.rangeFitsLong, Bool.and_eq_true, Bool.or_eq_true, decide_eq_true_eq, beq_iff_eq]
 rw [if_pos (by omega)]
 simp only [Bool.and_eq_true, decide_eq_true_eq]
 omega
section
variable {X : Cx} {tg : Expr}
theorem rit_it {pins : List (Addr × Obj)} {σ : St} {H : Hp} {s : Shared} {R : It → Hp → Prop} {h : Heap} {lo c : Int} {n : Nat} {t' : Nat} (I : Inv X pins σ H { s with heap := h, toks := t' }) (q : R (Itq lo c n) H) :
  PIE X pins σ tg R (.ref h.objs.size) { s with heap := h.push { cls := .type "range_iterator", data := .fields #[rawInt lo, rawInt (n : Int), rawInt c] }, toks := t' } := by
 refine ⟨h.objs.size, [h.objs.size], _, _, H, rfl, I.kept (t' := t') fun b o e => Heap.get?_push_of_some _ e, turn_rangeS _ lo c n, ?_, fun b hb => ?_, q⟩
 ·have e1 : lo + ((0 : Nat) : Int) * c = lo := by simp
  have e2 : (n : Int) - ((0 : Nat) : Int) = n := by simp
  show IsRangeIter _ _ (lo + ((0 : Nat) : Int) * c) ((n : Int) - ((0 : Nat) : Int)) c
  rw [e1, e2]
  exact Heap.get?_push_size _ rfl
 ·have e : b = h.objs.size := by simpa using hb
  subst e
  exact I.fpOk (Nat.le_refl _) (I.hok.fresh (Nat.le_refl _))
def iRng3 (ta : TA) : TI := fun σ H R => ta σ H fun vs H1 => ∃ i j c : Int, vs = [.int i, .int j, .int c] ∧ (0 ≤ i ∧ i < 2 ^ 40 ∧ 0 ≤ j ∧ j < 2 ^ 40 ∧ 1 ≤ c ∧ c < 2 ^ 30) ∧ R (Itq i c (rsz i j c)) H1
theorem pi_range3 {a b d : Expr} {ta : TA} {p pos : Pos} (hg : Gl X "range") (hm : X.mg "range" = none) (ha : PA X [a, b, d] ta)
  (hs : starEach [a, b, d] X.env = [(false, eval a X.env), (false, eval b X.env), (false, eval d X.env)] := by rfl) (hs2 : starEach [b, d] X.env = [(false, eval b X.env), (false, eval d X.env)] := by rfl) : PI X tg (.Call (.Name "range" p) [a, b, d] [] pos) (iRng3 ta) := by
 intro pins s σ H R I h
 refine wpAny_Call_Name_kw (ld_blt I hg hm bt_range ?_)
 refine PyProof.Rows.callWith_type1 (thn (ha pos pins s σ H _ I h) fun us s1 ⟨vs, H1, I1, r1, q1⟩ => ?_) (by rw [hs, hs2]) (by rw [hs2]; rfl)
 obtain ⟨i, j, c, e, ⟨q1, q2, q3, q4, q5, q6⟩, q⟩ := q1
 subst e
 cases r1 with
 | cons r rr =>
  cases rr with
  | cons r' rr =>
   cases rr with
   | cons r'' rr =>
    cases rr
    obtain ⟨t, rfl⟩ := r
    obtain ⟨t', rfl⟩ := r'
    obtain ⟨t'', rfl⟩ := r''
    refine call_range_3 (by omega) ?_ (Or.inl (PyProof.noPylong_small (by omega)))
    refine wpAny_pyIter_range (IsRange.new ..) (range_small q1 q2 q3 q4 q5 q6) ?_
    rw [← range_size q5]
    exact rit_it (I1.kept (t' := s1.toks) fun b o e => Heap.get?_push_of_some _ e) q
def iRevR (ta : TA) : TI := fun σ H R => ta σ H fun vs H1 => ∃ n : Nat, vs = [.int n] ∧ n ≤ 1000 ∧ R (Itq ((n : Int) - 1) (-1) n) H1
end
section
variable {ta : TA} {g : TG} {tb : TS} {D : Ends} {σ : St} {H : Hp}
def ForQ (lo c : Int) (n : Nat) (g : TG) (tb : TS) (D : Ends) (σ : St) (H : Hp) : Prop := ∃ W : Nat → Nat → St → Hp → Prop, (∃ m, W 0 m σ H) ∧ ∀ i m σ H, W i m σ H →
 ((Itq lo c n).stop i H ∧ D.nx σ H) ∨ ((Itq lo c n).go i H ∧ ∃ N : St → Hp → Prop, (∀ σ' H', N σ' H' → ∃ m', m' < m ∧ W (i + 1) m' σ' H') ∧ ∀ x H', (Itq lo c n).yld i H x H' → g x σ H' fun σ2 H2 => tb { D with nx := N, ct := N, bk := D.nx } σ2 H2)
theorem y4fy : tFor (iRng3 ta) g tb D σ H = ta σ H fun vs H1 => ∃ i j c : Int, vs = [.int i, .int j, .int c] ∧ (0 ≤ i ∧ i < 2 ^ 40 ∧ 0 ≤ j ∧ j < 2 ^ 40 ∧ 1 ≤ c ∧ c < 2 ^ 30) ∧ ForQ i c (rsz i j c) g tb D σ H1 := rfl
theorem y50y : tFor (iRevR ta) g tb D σ H = ta σ H fun vs H1 => ∃ n : Nat, vs = [.int n] ∧ n ≤ 1000 ∧ ForQ ((n : Int) - 1) (-1) n g tb D σ H1 := rfl
theorem ForQ.by {lo c : Int} {n : Nat} (Pv : Nat → St → Hp → Prop) (h0 : Pv 0 σ H)
  (hs : ∀ i σ H, i < n → Pv i σ H → g (.int (lo + i * c)) σ H fun σ2 H2 => tb { D with nx := Pv (i + 1), ct := Pv (i + 1), bk := D.nx } σ2 H2) (hd : ∀ σ H, Pv n σ H → D.nx σ H) : ForQ lo c n g tb D σ H := by
 refine ⟨fun i m σ H => m = n - i ∧ i ≤ n ∧ Pv i σ H, ⟨n, by simp, Nat.zero_le _, h0⟩, ?_⟩
 rintro i m σ H ⟨rfl, hi, p⟩
 by_cases hlt : i < n
 ·refine .inr ⟨hlt, Pv (i + 1), fun σ' H' p' => ⟨n - (i + 1), by omega, rfl, hlt, p'⟩, fun x H' y => ?_⟩
  obtain ⟨e, y⟩ := y
  subst e y
  exact hs i σ _ hlt p
 ·have e : i = n := by omega
  subst e
  exact .inl ⟨Nat.le_refl _, hd σ H p⟩
end
theorem y59y {c : TT} {ta tb : TE} {σ : St} {H : Hp} {Q : VK} : tIf c ta tb σ H Q = c σ H fun b H1 => if b = true then ta σ H1 Q else tb σ H1 Q := rfl
def rLenD (xs : List V) (H : Hp) (Q : VK) : Prop := ∃ d kvs, xs = [.ref d] ∧ H d = some (.dK kvs) ∧ Q (.int (kvs.length : Int)) H
theorem call_lenD {X : Cx} : CallR X (.builtin "len") rLenD := by
 intro pins s σ H xs us Q I r h
 obtain ⟨d, kvs, rfl, e, q⟩ := h
 obtain ⟨u, rfl, rx⟩ := vals1 r
 cases rx
 obtain ⟨hz, hS, vs, rel, dd⟩ := dk_of I.hok e
 have hn := line63
 have lv : vs.length = kvs.length := rel.length.symm
 exact call_len_dict hS dd (by omega) ⟨.int (kvs.length : Int), H, I.tok _, ⟨s.toks + 1, by rw [lv]⟩, q⟩
end L2
set_option linter.all false
set_option maxHeartbeats 4000000
namespace L2
open PySem Ch
def vl (a : Int × Int) : Rat := (a.1 : Rat) / (a.2 : Rat)
theorem rat_ne {a : Int} (h : 1 ≤ a) : (a : Rat) ≠ 0 := fun z => by
 have : a = 0 := by exact_mod_cast z
 omega
theorem vl_add {a c : Int × Int} (ha : 1 ≤ a.2) (hc : 1 ≤ c.2) : vl (addF a c) = vl a + vl c := by
 have b0 : a.2 * c.2 ≠ 0 := Int.mul_ne_zero (by omega) (by omega)
 have cr := Mth.cross (t := a.1 * c.2 + c.1 * a.2) b0
 have bp := Mth.bot_pos (t := a.1 * c.2 + c.1 * a.2) b0
 unfold vl addF
 dsimp only
 generalize Mth.top (a.1 * c.2 + c.1 * a.2) (a.2 * c.2) = t at *
 generalize Mth.bot (a.1 * c.2 + c.1 * a.2) (a.2 * c.2) = b at *
 have h1 := rat_ne ha
 have h2 := rat_ne hc
 have h3 := rat_ne bp
 have e : (t : Rat) * ((a.2 : Rat) * (c.2 : Rat)) = ((a.1 : Rat) * (c.2 : Rat) + (c.1 : Rat) * (a.2 : Rat)) * (b : Rat) := by exact_mod_cast cr
 generalize (a.1 : Rat) = x at *
 generalize (a.2 : Rat) = y at *
 generalize (c.1 : Rat) = z at *
 generalize (c.2 : Rat) = u at *
 generalize (t : Rat) = t at *
 generalize (b : Rat) = b at *
 grind
theorem vl_neg (a : Int × Int) : vl (negF a) = - vl a := by
 unfold vl negF
 rw [Rat.intCast_neg]
 grind
theorem vl_less {a c : Int × Int} (ha : 1 ≤ a.2) (hc : 1 ≤ c.2) : lessF a c = true ↔ vl a < vl c := by
 unfold lessF vl
 rw [decide_eq_true_iff]
 have h1 : (0 : Rat) < (a.2 : Rat) := by exact_mod_cast (show 0 < a.2 by omega)
 have h2 : (0 : Rat) < (c.2 : Rat) := by exact_mod_cast (show 0 < c.2 by omega)
 have e : ((a.1 * c.2 < c.1 * a.2) ↔ ((a.1 : Rat) * (c.2 : Rat) < (c.1 : Rat) * (a.2 : Rat))) := by
  constructor
  ·intro h
   exact_mod_cast h
  ·intro h
   exact_mod_cast h
 rw [e]
 rw [Rat.div_lt_iff h1]
 generalize (a.1 : Rat) = x at *
 generalize (a.2 : Rat) = y at *
 generalize (c.1 : Rat) = z at *
 generalize (c.2 : Rat) = u at *
 have e2 : z / u * y = z * y / u := by grind
 rw [e2, Rat.lt_div_iff h2]
end L2
set_option linter.all false
set_option maxHeartbeats 4000000
namespace L2
open PySem Ch
theorem WalkTo.trans {ls : List PD} {a b c : Str} {w w' : List Pr} (h : WalkTo ls a w b) (h' : WalkTo ls b w' c) : WalkTo ls a (w ++ w') c := by
 induction h' with
 | nil =>
  rw [List.append_nil]
  exact h
 | snoc _ hm ih =>
  rw [← List.append_assoc]
  exact .snoc ih hm
theorem Conn.trans {ls : List PD} {a b c : Str} : Conn ls a b → Conn ls b c → Conn ls a c := fun ⟨w, h⟩ ⟨w', h'⟩ => ⟨w ++ w', h.trans h'⟩
theorem Conn.refl {ls : List PD} {a : Str} : Conn ls a a := ⟨[], .nil⟩
theorem Conn.lead {ls : List PD} {f g : Str} {pr : Pr} (h : (g, pr) ∈ leadsOf ls f) : Conn ls f g := ⟨[] ++ [pr], .snoc .nil h⟩
theorem Conn.symm {ls : List PD} (hn : ∀ p ∈ ls, p.st ≠ p.en) {a b : Str} (h : Conn ls a b) : Conn ls b a := by
 obtain ⟨w, h⟩ := h
 induction h with
 | nil => exact .refl
 | snoc _ hm ih =>
  obtain ⟨p, hp, h | h⟩ := lead_mem.mp hm
  ·exact Conn.trans (.lead (lead_mem.mpr ⟨p, hp, .inr ⟨fun z => hn p hp (z.trans h.2.1.symm), h.2.1, h.1, rfl⟩⟩)) ih
  ·exact Conn.trans (.lead (lead_mem.mpr ⟨p, hp, .inl ⟨h.2.2.1, h.2.1, rfl⟩⟩)) ih
theorem Conn.mono {ls : List PD} {p : PD} {a b : Str} (h : Conn ls a b) : Conn (ls ++ [p]) a b := by
 obtain ⟨w, h⟩ := h
 refine ⟨w, ?_⟩
 induction h with
 | nil => exact .nil
 | snoc _ hm ih => exact .snoc ih (by rw [leads_app]; exact List.mem_append.mpr (.inl hm))
theorem conn_part {ls : List PD} {p : PD} (hp : p ∈ ls) : Conn ls p.st p.en := .lead (pr := (p.nm, true)) (lead_mem.mpr ⟨p, hp, .inl ⟨rfl, rfl, rfl⟩⟩)
theorem conn_fcs {ls : List PD} (hn : ∀ p ∈ ls, p.st ≠ p.en) {a b : Str} (h : Conn ls a b) (hne : a ≠ b) : a ∈ fcsOf ls ∧ b ∈ fcsOf ls := by
 have one : ∀ {a b : Str}, Conn ls a b → a ≠ b → b ∈ fcsOf ls := fun {a b} h hne => by
  obtain ⟨w, h⟩ := h
  rcases List.mem_cons.mp (walk_fcs h) with e | e
  ·exact absurd e.symm hne
  ·exact e
 exact ⟨one (h.symm hn) (Ne.symm hne), one h hne⟩
theorem partsW_snoc {p : PD} : ∀ (l1 acc : List PD), partsW acc (l1.map Sum.inl) = .ok (acc ++ l1) → p.nm ∉ (acc ++ l1).map (·.nm) → ¬ Conn (acc ++ l1) p.st p.en → partsW acc ((l1 ++ [p]).map Sum.inl) = .ok (acc ++ (l1 ++ [p]))
 | [], acc, _, h2, h3 => by
  rw [List.append_nil] at h2 h3
  rw [List.nil_append, List.map_cons, List.map_nil, partsW_go h2 h3, partsW]
 | q :: l1, acc, h1, h2, h3 => by
  have ea : acc ++ q :: l1 = (acc ++ [q]) ++ l1 := by simp
  rw [ea] at h1 h2 h3
  rw [List.cons_append, List.map_cons]
  rw [List.map_cons, partsW] at h1
  split at h1
  ·cases h1
  ·rename_i c1
   split at h1
   ·cases h1
   ·rename_i c2
    rw [partsW_go c1 c2, partsW_snoc l1 (acc ++ [q]) h1 h2 h3]
    simp
theorem Conn.sub {L L' : List PD} (hs : ∀ p ∈ L, p ∈ L') {a b : Str} (h : Conn L a b) : Conn L' a b := by
 obtain ⟨w, h⟩ := h
 refine ⟨w, ?_⟩
 induction h with
 | nil => exact .nil
 | snoc _ hm ih =>
  obtain ⟨p, hp, h⟩ := lead_mem.mp hm
  exact .snoc ih (lead_mem.mpr ⟨p, hs p hp, h⟩)
def Tree (ls : List PD) : Prop := ∀ p ∈ ls, ¬ Conn (ls.filter fun x => decide (x.nm ≠ p.nm)) p.st p.en
theorem lead_ends {L : List PD} {x : Str} {e : Str × Pr} (h : e ∈ leadsOf L x) : x ∈ fcsOf L ∧ e.1 ∈ fcsOf L := by
 refine ⟨?_, lead_fcs h⟩
 obtain ⟨p, hp, h⟩ := (lead_mem (g := e.1) (pr := e.2)).mp h
 refine List.mem_flatMap.mpr ⟨p, hp, ?_⟩
 rcases h with h | h
 ·rw [← h.1]; simp
 ·rw [← h.2.1]; simp
theorem Conn.retract {L : List PD} {q : PD} {f s0 : Str} (hq : (q.st = f ∧ q.en = s0) ∨ (q.st = s0 ∧ q.en = f)) (hf : f ∉ fcsOf L) {a b : Str} (h : Conn (L ++ [q]) a b) : Conn L (if a = f then s0 else a) (if b = f then s0 else b) := by
 obtain ⟨w, h⟩ := h
 induction h with
 | nil => exact .refl
 | snoc _ hm ih =>
  refine ih.trans ?_
  rw [leads_app] at hm
  rcases List.mem_append.mp hm with h | h
  ·have e := lead_ends h
   have n1 : ∀ x ∈ fcsOf L, x ≠ f := fun x hx z => hf (z ▸ hx)
   rw [if_neg (n1 _ e.1), if_neg (n1 _ e.2)]
   exact .lead h
  ·have eq1 : ∀ x, leadsOf [q] x = leadOf q x := fun x => by simp [leadsOf]
   have h' := h
   rw [← eq1] at h'
   obtain ⟨p, hp, k⟩ := lead_mem.mp h'
   rw [List.mem_singleton] at hp
   subst hp
   have e : ∀ x : Str, x = p.st ∨ x = p.en → (if x = f then s0 else x) = s0 := fun x hx => by
    split
    ·rfl
    ·rename_i n
     rcases hq with ⟨h1, h2⟩ | ⟨h1, h2⟩ <;> rcases hx with hx | hx
     ·exact absurd (hx.trans h1) n
     ·exact hx.trans h2
     ·exact hx.trans h1
     ·exact absurd (hx.trans h2) n
   rcases k with k | k
   ·rw [e _ (.inl k.1.symm), e _ (.inr k.2.1.symm)]
    exact .refl
   ·rw [e _ (.inr k.2.1.symm), e _ (.inl k.2.2.1.symm)]
    exact .refl
theorem partsW_tree {ls : List PD} (ht : Tree ls) : ∀ (l acc : List PD), ((acc ++ l).map (·.nm)).Nodup → (∀ x ∈ acc ++ l, x ∈ ls) → partsW acc (l.map Sum.inl) = .ok (acc ++ l)
 | [], acc, _, _ => by rw [List.map_nil, partsW, List.append_nil]
 | p :: l, acc, hn, hs => by
  have ea : acc ++ p :: l = (acc ++ [p]) ++ l := by simp
  have ne : p.nm ∉ acc.map (·.nm) := by
   have h2 := hn
   rw [List.map_append, List.map_cons, List.nodup_append] at h2
   exact fun z => h2.2.2 _ z _ (by simp) rfl
  have nc : ¬ Conn acc p.st p.en := fun z => ht p (hs p (by simp)) (z.sub fun x hx => List.mem_filter.mpr ⟨hs x (by simp [hx]), by
   rw [decide_eq_true_iff]
   exact fun e => ne (by rw [← e]; exact List.mem_map.mpr ⟨x, hx, rfl⟩)⟩)
  rw [List.map_cons, partsW_go ne nc, partsW_tree ht l (acc ++ [p]) (by rw [← ea]; exact hn) (by rw [← ea]; exact hs), ea]
def sgn (b : Bool) (a : Int × Int) : Int × Int := if b then a else negF a
def nmK (s st k : Nat) : Str := ⟨(List.replicate st s ++ ([97 + k] ++ List.replicate (3 - st) s)).toArray⟩
theorem nmK_inj {s st i j : Nat} (h : nmK s st i = nmK s st j) : i = j := by
 unfold nmK at h
 injection h with h
 have h := congrArg Array.toList h
 simp at h
 exact h
theorem nmK_name {s st k : Nat} (hs : 97 ≤ s ∧ s ≤ 122) (hst : st ≤ 3) (hk : k ≤ 25) : nameS (nmK s st k) = true := by
 unfold nameS nmK
 simp [Str.length, lowB]
 exact ⟨by omega, .inr hs, by omega, .inr hs⟩
theorem FB.mono {A B C D : Nat} {a : Int × Int} (h : FB A B a) (h1 : A ≤ C) (h2 : B ≤ D) : FB C D a := ⟨h.s1.mono h1, h.s2.mono h2, h.b1, h.g1⟩
theorem zero_fb : FB 1 1 (0, 1) := ⟨.lit (by decide) (by decide), .lit (by decide) (by decide), by decide, by decide⟩
structure SpD where
 f : Str
 r : Str
 p : Int × Int
structure Grn (st : Nat) (ls : List PD) (sp : List SpD) : Prop where
 nm : ∀ i p, ls[i]? = some p → p.nm = nmK 112 st i
 fc : ∀ i s, sp[i]? = some s → s.f = nmK 102 st i
 ok : ∀ p ∈ ls, POk p
 sub : ∀ p ∈ ls, p.st ∈ sp.map (·.f) ∧ p.en ∈ sp.map (·.f)
 con : ∀ s ∈ sp, Conn ls s.r s.f
 pl : ∀ p ∈ ls, ∀ s ∈ sp, ∀ t ∈ sp, s.f = p.st → t.f = p.en → vl t.p = vl s.p + vl p.sz
 fb : ∀ s ∈ sp, FB (134 + 21 * ls.length) (20 * ls.length + 1) s.p
 good : partsW [] (ls.map Sum.inl) = .ok ls
 tr : Tree ls
theorem Grn.new {st : Nat} {ls : List PD} {sp : List SpD} (h : Grn st ls sp) {n : Nat} (hn : sp.length ≤ n) : nmK 102 st n ∉ sp.map (·.f) := fun z => by
 obtain ⟨s, hs, e⟩ := List.mem_map.mp z
 obtain ⟨i, hi⟩ := List.getElem?_of_mem hs
 have li := (List.getElem?_eq_some_iff.mp hi).1
 have e2 : s.f = nmK 102 st n := e
 rw [h.fc i s hi] at e2
 have := nmK_inj e2
 omega
theorem Grn.nil {st : Nat} : Grn st [] [] := ⟨by simp, by simp, by simp, by simp, by simp, by simp, by simp, by rw [List.map_nil, partsW], fun p hp => by cases hp⟩
theorem Grn.inj {st : Nat} {ls : List PD} {sp : List SpD} (h : Grn st ls sp) {s t : SpD} (hs : s ∈ sp) (ht : t ∈ sp) (e : s.f = t.f) : s = t := by
 obtain ⟨i, hi⟩ := List.getElem?_of_mem hs
 obtain ⟨j, hj⟩ := List.getElem?_of_mem ht
 rw [h.fc i s hi, h.fc j t hj] at e
 have := nmK_inj e
 subst this
 rw [hi] at hj
 exact Option.some.inj hj
theorem snoc_get {α : Type} {l : List α} {a x : α} {i : Nat} (h : (l ++ [a])[i]? = some x) : l[i]? = some x ∨ (i = l.length ∧ x = a) := by
 by_cases c : i < l.length
 ·rw [List.getElem?_append_left c] at h
  exact .inl h
 ·have li := (List.getElem?_eq_some_iff.mp h).1
  rw [List.length_append, List.length_singleton] at li
  have e : i = l.length := by omega
  subst e
  rw [List.getElem?_append_right (Nat.le_refl _), Nat.sub_self] at h
  cases h
  exact .inr ⟨rfl, rfl⟩
theorem Grn.face {st : Nat} {ls : List PD} {sp : List SpD} (h : Grn st ls sp) : Grn st ls (sp ++ [⟨nmK 102 st sp.length, nmK 102 st sp.length, (0, 1)⟩]) where
 nm := h.nm
 fc := fun i s hi => by
  rcases snoc_get hi with hi | ⟨rfl, rfl⟩
  ·exact h.fc i s hi
  ·rfl
 ok := h.ok
 sub := fun p hp => by
  rw [List.map_append]
  exact ⟨List.mem_append.mpr (.inl (h.sub p hp).1), List.mem_append.mpr (.inl (h.sub p hp).2)⟩
 con := fun s hs => by
  rcases List.mem_append.mp hs with hs | hs
  ·exact h.con s hs
  ·rw [List.mem_singleton.mp hs]
   exact .refl
 pl := fun p hp s hs t ht e1 e2 => by
  have nw := h.new (Nat.le_refl sp.length)
  rcases List.mem_append.mp hs with hs | hs
  ·rcases List.mem_append.mp ht with ht | ht
   ·exact h.pl p hp s hs t ht e1 e2
   ·rw [List.mem_singleton.mp ht] at e2
    dsimp only at e2
    exact absurd (e2 ▸ (h.sub p hp).2) nw
  ·rw [List.mem_singleton.mp hs] at e1
   dsimp only at e1
   exact absurd (e1 ▸ (h.sub p hp).1) nw
 fb := fun s hs => by
  rcases List.mem_append.mp hs with hs | hs
  ·exact h.fb s hs
  ·rw [List.mem_singleton.mp hs]
   exact zero_fb.mono (by omega) (by omega)
 good := h.good
 tr := h.tr
theorem Grn.part {st : Nat} {ls : List PD} {sp : List SpD} (h : Grn st ls sp) (hst : st ≤ 3) {s0 : SpD} (h0 : s0 ∈ sp) {p : PD} {d : Bool} (hnm : p.nm = nmK 112 st ls.length)
  (h1 : p.st = if d then s0.f else nmK 102 st sp.length) (h2 : p.en = if d then nmK 102 st sp.length else s0.f) (hz : FB 133 20 p.sz) (hok : POk p) : Grn st (ls ++ [p]) (sp ++ [⟨nmK 102 st sp.length, s0.r, addF s0.p (sgn d p.sz)⟩]) := by
 have nw := h.new (Nat.le_refl sp.length)
 have m0 : s0.f ∈ sp.map (·.f) := List.mem_map.mpr ⟨s0, h0, rfl⟩
 have ne0 : nmK 102 st sp.length ≠ s0.f := fun z => nw (z ▸ m0)
 have hn : ∀ q ∈ ls, q.st ≠ q.en := fun q hq => (h.ok q hq).ne
 have nf : nmK 102 st sp.length ∉ fcsOf ls := fun z => by
  obtain ⟨q, hq, hm⟩ := List.mem_flatMap.mp z
  simp at hm
  rcases hm with e | e
  ·exact nw (e ▸ (h.sub q hq).1)
  ·exact nw (e ▸ (h.sub q hq).2)
 have nc : ¬ Conn ls p.st p.en := fun z => by
  have := conn_fcs hn z hok.ne
  cases d with
  | true =>
   rw [if_pos rfl] at h1 h2
   exact nf (h2 ▸ this.2)
  | false =>
   rw [if_neg (by decide)] at h1 h2
   exact nf (h1 ▸ this.1)
 have nn : p.nm ∉ ls.map (·.nm) := fun z => by
  obtain ⟨q, hq, e⟩ := List.mem_map.mp z
  obtain ⟨i, hi⟩ := List.getElem?_of_mem hq
  have li := (List.getElem?_eq_some_iff.mp hi).1
  have e2 : q.nm = p.nm := e
  rw [h.nm i q hi, hnm] at e2
  have := nmK_inj e2
  omega
 have fb0 := h.fb s0 h0
 have fbz : FB 133 20 (sgn d p.sz) := by
  cases d with
  | true => exact hz
  | false => exact hz.neg
 have fbn : FB (134 + 21 * (ls.length + 1)) (20 * (ls.length + 1) + 1) (addF s0.p (sgn d p.sz)) := by
  have := FB.add (n := 154 + 21 * ls.length) (m := 20 * (ls.length + 1) + 1) fb0 fbz (by omega) (by omega) (by omega)
  have e : 134 + 21 * (ls.length + 1) = 154 + 21 * ls.length + 1 := by omega
  rw [e]
  exact this
 have va : vl (addF s0.p (sgn d p.sz)) = vl s0.p + vl (sgn d p.sz) := vl_add fb0.b1 fbz.b1
 refine ⟨fun i q hi => ?_, fun i s hi => ?_, fun q hq => ?_, fun q hq => ?_, fun s hs => ?_, fun q hq s hs t ht e1 e2 => ?_, fun s hs => ?_, ?_, fun q hq z => ?_⟩
 ·rcases snoc_get hi with hi | ⟨rfl, rfl⟩
  ·exact h.nm i q hi
  ·exact hnm
 ·rcases snoc_get hi with hi | ⟨rfl, rfl⟩
  ·exact h.fc i s hi
  ·rfl
 ·rcases List.mem_append.mp hq with hq | hq
  ·exact h.ok q hq
  ·rw [List.mem_singleton.mp hq]
   exact hok
 ·rw [List.map_append]
  rcases List.mem_append.mp hq with hq | hq
  ·exact ⟨List.mem_append.mpr (.inl (h.sub q hq).1), List.mem_append.mpr (.inl (h.sub q hq).2)⟩
  ·rw [List.mem_singleton.mp hq, h1, h2]
   have mn : nmK 102 st sp.length ∈ [(⟨nmK 102 st sp.length, s0.r, addF s0.p (sgn d p.sz)⟩ : SpD)].map (·.f) := by simp
   cases d with
   | true => exact ⟨List.mem_append.mpr (.inl m0), List.mem_append.mpr (.inr mn)⟩
   | false => exact ⟨List.mem_append.mpr (.inr mn), List.mem_append.mpr (.inl m0)⟩
 ·rcases List.mem_append.mp hs with hs | hs
  ·exact (h.con s hs).mono
  ·rw [List.mem_singleton.mp hs]
   have hp : p ∈ ls ++ [p] := by simp
   have hn' : ∀ q ∈ ls ++ [p], q.st ≠ q.en := fun q hq => by
    rcases List.mem_append.mp hq with hq | hq
    ·exact hn q hq
    ·rw [List.mem_singleton.mp hq]
     exact hok.ne
   have c := conn_part hp
   cases d with
   | true =>
    rw [if_pos rfl] at h1 h2
    rw [h1, h2] at c
    exact ((h.con s0 h0).mono).trans c
   | false =>
    rw [if_neg (by decide)] at h1 h2
    rw [h1, h2] at c
    exact ((h.con s0 h0).mono).trans (c.symm hn')
 ·rcases List.mem_append.mp hq with hq | hq
  ·rcases List.mem_append.mp hs with hs | hs
   ·rcases List.mem_append.mp ht with ht | ht
    ·exact h.pl q hq s hs t ht e1 e2
    ·rw [List.mem_singleton.mp ht] at e2
     dsimp only at e2
     exact absurd (e2 ▸ (h.sub q hq).2) nw
   ·rw [List.mem_singleton.mp hs] at e1
    dsimp only at e1
    exact absurd (e1 ▸ (h.sub q hq).1) nw
  ·have hq := List.mem_singleton.mp hq
   subst hq
   cases d with
   | true =>
    rw [if_pos rfl] at h1 h2
    rw [h1] at e1
    rw [h2] at e2
    have s_ : s = s0 := by
     rcases List.mem_append.mp hs with hs | hs
     ·exact h.inj hs h0 e1
     ·rw [List.mem_singleton.mp hs] at e1
      dsimp only at e1
      exact absurd e1 ne0
    have t_ : t.p = addF s0.p (sgn true q.sz) := by
     rcases List.mem_append.mp ht with ht | ht
     ·exact absurd (e2 ▸ List.mem_map.mpr ⟨t, ht, rfl⟩) nw
     ·rw [List.mem_singleton.mp ht]
    rw [s_, t_, va]
    rfl
   | false =>
    rw [if_neg (by decide)] at h1 h2
    rw [h1] at e1
    rw [h2] at e2
    have t_ : t = s0 := by
     rcases List.mem_append.mp ht with ht | ht
     ·exact h.inj ht h0 e2
     ·rw [List.mem_singleton.mp ht] at e2
      dsimp only at e2
      exact absurd e2 ne0
    have s_ : s.p = addF s0.p (sgn false q.sz) := by
     rcases List.mem_append.mp hs with hs | hs
     ·exact absurd (e1 ▸ List.mem_map.mpr ⟨s, hs, rfl⟩) nw
     ·rw [List.mem_singleton.mp hs]
    have vn : vl (sgn false q.sz) = - vl q.sz := vl_neg q.sz
    rw [t_, s_, va, vn]
    grind
 ·rw [List.length_append, List.length_singleton]
  rcases List.mem_append.mp hs with hs | hs
  ·have := h.fb s hs
   exact this.mono (by omega) (by omega)
  ·rw [List.mem_singleton.mp hs]
   exact fbn
 ·have := partsW_snoc (p := p) ls [] (by rw [List.nil_append]; exact h.good) (by rw [List.nil_append]; exact nn) (by rw [List.nil_append]; exact nc)
  rw [List.nil_append] at this
  exact this
 ·rw [List.filter_append] at z
  rcases List.mem_append.mp hq with hq | hq
  ·have sf : ∀ x ∈ ls.filter (fun x => decide (x.nm ≠ q.nm)), x ∈ ls := fun x hx => (List.mem_filter.mp hx).1
   have fn : nmK 102 st sp.length ∉ fcsOf (ls.filter fun x => decide (x.nm ≠ q.nm)) := fun y => nf (by
    obtain ⟨x, hx, hm⟩ := List.mem_flatMap.mp y
    exact List.mem_flatMap.mpr ⟨x, sf x hx, hm⟩)
   have z' : Conn (ls.filter (fun x => decide (x.nm ≠ q.nm)) ++ [p]) q.st q.en := z.sub fun x hx => by
    rcases List.mem_append.mp hx with hx | hx
    ·exact List.mem_append.mpr (.inl hx)
    ·exact List.mem_append.mpr (.inr (List.mem_filter.mp hx).1)
   have := z'.retract (s0 := s0.f) (f := nmK 102 st sp.length) (by
    cases d with
    | true => exact .inr ⟨h1, h2⟩
    | false => exact .inl ⟨h1, h2⟩) fn
   have n1 : ∀ x ∈ sp.map (·.f), x ≠ nmK 102 st sp.length := fun x hx y => nw (y ▸ hx)
   rw [if_neg (n1 _ (h.sub q hq).1), if_neg (n1 _ (h.sub q hq).2)] at this
   exact h.tr q hq this
  ·rw [List.mem_singleton.mp hq] at z
   exact nc (z.sub fun x hx => by
    rcases List.mem_append.mp hx with hx | hx
    ·exact (List.mem_filter.mp hx).1
    ·have := (List.mem_filter.mp hx)
     have e := List.mem_singleton.mp this.1
     rw [e] at this
     simp at this)
def Two (sp : List SpD) : Prop := ∀ s ∈ sp, ∃ t ∈ sp, t.f ≠ s.f ∧ t.r = s.r
theorem two_step {st : Nat} {ls : List PD} {sp : List SpD} (h : Grn st ls sp) {s0 : SpD} (h0 : s0 ∈ sp) (ht : ∀ s ∈ sp, s.r = s0.r ∨ ∃ t ∈ sp, t.f ≠ s.f ∧ t.r = s.r) {z : Int × Int} : Two (sp ++ [⟨nmK 102 st sp.length, s0.r, z⟩]) := by
 have nw := h.new (Nat.le_refl sp.length)
 intro s hs
 rcases List.mem_append.mp hs with hs | hs
 ·rcases ht s hs with e | ⟨t, ht, e1, e2⟩
  ·exact ⟨⟨nmK 102 st sp.length, s0.r, z⟩, by simp, fun q => nw (List.mem_map.mpr ⟨s, hs, q.symm⟩), e.symm⟩
  ·exact ⟨t, List.mem_append.mpr (.inl ht), e1, e2⟩
 ·rw [List.mem_singleton.mp hs]
  exact ⟨s0, List.mem_append.mpr (.inl h0), fun q => nw (List.mem_map.mpr ⟨s0, h0, q⟩), rfl⟩
theorem Grn.joined {st : Nat} {ls : List PD} {sp : List SpD} (h : Grn st ls sp) {s t : SpD} (hs : s ∈ sp) (ht : t ∈ sp) (e : s.r = t.r) : Conn ls s.f t.f := by
 have hn : ∀ q ∈ ls, q.st ≠ q.en := fun q hq => (h.ok q hq).ne
 exact ((h.con s hs).symm hn).trans (e ▸ h.con t ht)
def spOf (sp : List SpD) (f : Str) : Int × Int := ((sp.find? fun s => decide (s.f = f)).map (·.p)).getD (0, 1)
theorem Grn.pl_at {st : Nat} {ls : List PD} {sp : List SpD} (h : Grn st ls sp) {s : SpD} (hs : s ∈ sp) : spOf sp s.f = s.p := by
 unfold spOf
 cases e : sp.find? fun t => decide (t.f = s.f) with
 | none =>
  have := List.find?_eq_none.mp e s hs
  simp at this
 | some t =>
  have h1 := List.mem_of_find?_eq_some e
  have h2 := List.find?_some e
  have h3 : t.f = s.f := by simpa using h2
  rw [h.inj h1 hs h3]
  rfl
theorem Grn.plb {st : Nat} {ls : List PD} {sp : List SpD} (h : Grn st ls sp) (hl : ls.length ≤ 8) (f : Str) : FB 302 161 (spOf sp f) := by
 unfold spOf
 cases e : sp.find? fun t => decide (t.f = f) with
 | none => exact zero_fb.mono (by omega) (by omega)
 | some t =>
  have := h.fb t (List.mem_of_find?_eq_some e)
  exact this.mono (by omega) (by omega)
end L2
set_option linter.all false
set_option maxHeartbeats 4000000
namespace L2
open PySem Ch
theorem vl_low {t b : Int} (hb : 1 ≤ b) : vl (Mth.top t b, Mth.bot t b) = (t : Rat) / (b : Rat) := by
 have b0 : b ≠ 0 := by omega
 have cr := Mth.cross (t := t) b0
 have bp := Mth.bot_pos (t := t) b0
 unfold vl
 dsimp only
 generalize Mth.top t b = x at *
 generalize Mth.bot t b = y at *
 have h1 := rat_ne hb
 have h2 := rat_ne bp
 have e : (x : Rat) * (b : Rat) = (t : Rat) * (y : Rat) := by exact_mod_cast cr
 generalize (x : Rat) = x at *
 generalize (y : Rat) = y at *
 generalize (t : Rat) = t at *
 generalize (b : Rat) = b at *
 grind
def mid (pl : Str → Int × Int) (g : GD) : Int × Int := addF (pl g.en) (negF (pl g.st))
section
variable {A B A' B' C D C' D' : Nat} {x y z w m a b : Int × Int}
theorem FB.add' (h : FB A B x) (k : FB C D y) : FB (A + D + (C + B) + 1) (B + D) (addF x y) := FB.add h k (by omega) (by omega) (Nat.le_refl _)
theorem FB.vadd (h : FB A B x) (k : FB C D y) : vl (addF x y) = vl x + vl y := vl_add h.b1 k.b1
theorem hi_lo (hm : FB A B m) (ha : FB C D a) (hb : FB C' D' b) (h : 0 ≤ vl a + vl b) : lessF (addF m a) (addF m (negF b)) = false := by
 have h1 := hm.add' ha
 have h2 := hm.add' hb.neg
 have h3 := vl_less h1.b1 h2.b1
 rw [hm.vadd ha, hm.vadd hb.neg, vl_neg] at h3
 cases e : lessF (addF m a) (addF m (negF b)) with
 | false => rfl
 | true =>
  have := h3.mp e
  grind
theorem mid_fb {pl : Str → Int × Int} {g : GD} (h : ∀ f, FB 302 161 (pl f)) : FB 464 322 (mid pl g) := FB.add (h _) (h _).neg (by decide) (by decide) (by decide)
end
end L2
set_option linter.all false
set_option maxHeartbeats 4000000
namespace L2
open PySem Ch
section
variable {α : Type} {f : α → Str} {l : List α} {s st : Nat}
theorem nmK_nodup (h : ∀ i a, l[i]? = some a → f a = nmK s st i) : (l.map f).Nodup := by
 rw [List.Nodup, List.pairwise_iff_getElem]
 intro i j hi hj hij e
 rw [List.length_map] at hi hj
 rw [List.getElem_map, List.getElem_map, h i _ (List.getElem?_eq_getElem hi), h j _ (List.getElem?_eq_getElem hj)] at e
 have := nmK_inj e
 omega
end
theorem Grn.fname {st : Nat} {ls : List PD} {sp : List SpD} (h : Grn st ls sp) (hst : st ≤ 3) (hl : sp.length ≤ 16) {s : SpD} (hs : s ∈ sp) : nameS s.f = true := by
 obtain ⟨i, hi⟩ := List.getElem?_of_mem hs
 have := (List.getElem?_eq_some_iff.mp hi).1
 rw [h.fc i s hi]
 exact nmK_name (by decide) hst (by omega)
end L2
namespace L2
open PySem PySem.Spec PyProof.Rows Ch
section
variable {K : PySem.W.Frag} {H H' : Hp} {x : V}
def SPV (K : PySem.W.Frag) (H : Hp) (s : SpD) (x : V) : Prop := ∃ b w, x = .ref b ∧ SqT K H b [.str s.r, w] ∧ FrV K H w s.p.1 s.p.2
theorem SPV.sameT {s : SpD} (S : SameT H H') : SPV K H s x → SPV K H' s x := fun ⟨b, w, h1, h2, h3⟩ => ⟨b, w, h1, h2.sameT S, h3.sameT S⟩
end
theorem freshS {H0 H : Hp} {b : Addr} (S : Same H0 H) (h : H b = none) : H0 b = none := by
 cases e : H0 b with
 | none => rfl
 | some o => rw [S _ _ e] at h; cases h
theorem if_cut {c : TT} {t u : TS} {D : Ends} {σ : St} {H : Hp} (J : St → Hp → Prop) (hJ : ∀ σ' H', J σ' H' → D.nx σ' H') (h : ∀ N : St → Hp → Prop, (∀ σ' H', J σ' H' → N σ' H') → tIfS c t u { D with nx := N } σ H) : tIfS c t u D σ H := h D.nx hJ
end L2
set_option linter.all false
set_option maxHeartbeats 4000000
namespace L2
open PySem Ch
theorem top_nn {t b : Int} (ht : 0 ≤ t) (hb : 1 ≤ b) : 0 ≤ Mth.top t b := by
 have h1 := Mth.top_mul (t := t) (b := b) (by omega)
 have h2 := Mth.g_pos (a := t) (b := b) (by omega)
 have e : Mth.by_ t b = Mth.g t b := by unfold Mth.by_; rw [if_neg (by omega)]
 rw [e] at h1
 rcases Int.lt_or_le (Mth.top t b) 0 with z | z
 ·have := Int.mul_neg_of_neg_of_pos z h2
  omega
 ·exact z
theorem low_nn {t d : Int} (ht : 0 ≤ t) (hd : 1 ≤ d) : 0 ≤ vl (Mth.top t d, Mth.bot t d) := by
 rw [vl_low hd]
 have h1 : (0 : Rat) < (d : Rat) := by exact_mod_cast (show 0 < d by omega)
 have h2 : (0 : Rat) ≤ (t : Rat) := by exact_mod_cast ht
 refine Rat.not_lt.mp fun q => ?_
 have := (Rat.div_lt_iff h1).mp q
 rw [Rat.zero_mul] at this
 exact Rat.not_lt.mpr h2 this
inductive Path (ls : List PD) : Str → List Pr → Str → Prop
 | nil {a : Str} : Path ls a [] a
 | cons {a g b : Str} {p : PD} {fw : Bool} {w : List Pr} : p ∈ ls → (a = if fw then p.st else p.en) → (g = if fw then p.en else p.st) → Path ls g w b → Path ls a ((p.nm, fw) :: w) b
theorem Path.snoc {ls : List PD} {a f g : Str} {w : List Pr} {p : PD} {fw : Bool} (h : Path ls a w f) (hp : p ∈ ls) (e1 : f = if fw then p.st else p.en) (e2 : g = if fw then p.en else p.st) : Path ls a (w ++ [(p.nm, fw)]) g := by
 induction h with
 | nil => exact .cons hp e1 e2 .nil
 | cons h1 h2 h3 _ ih => exact .cons h1 h2 h3 (ih e1)
theorem path_of {ls : List PD} {a b : Str} {w : List Pr} (h : WalkTo ls a w b) : Path ls a w b := by
 induction h with
 | nil => exact .nil
 | snoc _ hm ih =>
  obtain ⟨p, hp, h | h⟩ := lead_mem.mp hm
  ·obtain ⟨h1, h2, rfl⟩ := h
   exact ih.snoc hp h1.symm h2.symm
  ·obtain ⟨_, h1, h2, rfl⟩ := h
   exact ih.snoc hp h1.symm h2.symm
theorem path_names {ls : List PD} {a b : Str} {w : List Pr} (h : Path ls a w b) : ∀ n ∈ w.map (·.1), n ∈ ls.map (·.nm) := by
 induction h with
 | nil => simp
 | cons h1 _ _ _ ih =>
  intro n hn
  rw [List.map_cons] at hn
  rcases List.mem_cons.mp hn with e | e
  ·rw [e]
   exact List.mem_map.mpr ⟨_, h1, rfl⟩
  ·exact ih n e
theorem path_ne {ls : List PD} {a b : Str} {w : List Pr} (h : Path ls a w b) (hn : a ≠ b) : w ≠ [] := fun z => by
 subst z
 cases h
 exact hn rfl
open PySem.Spec PyProof.Rows
theorem inV_strs (z : Str) : ∀ ss : List Str, inV (.str z) (ss.map V.str) = decide (z ∈ ss)
 | [] => by simp [inV]
 | s :: ss => by
  have h := inV_strs z ss
  unfold inV at h ⊢
  rw [List.map_cons, List.any_cons, h]
  have e : eqV (.str s) (.str z) = decide (s = z) := by first | rfl | simp [eqV]
  rw [e]
  by_cases c : s = z
  ·subst c
   simp
  ·have c' : ¬ z = s := fun q => c q.symm
   simp [c, c']
theorem flat_strs (ss : List Str) : (ss.map V.str).all flatV = true := by
 induction ss with
 | nil => rfl
 | cons s ss ih => rw [List.map_cons, List.all_cons, ih]; rfl
theorem nmK_len {s st k : Nat} (h : st ≤ 3) : (nmK s st k).length = 4 := by
 unfold nmK Str.length
 simp
 omega
theorem gd_uniq : ∀ {ls : List GD} {p q : GD}, (ls.map (·.nm)).Nodup → p ∈ ls → q ∈ ls → p.nm = q.nm → p = q
 | [], _, _, _, hp, _, _ => by cases hp
 | a :: ls, p, q, hn, hp, hq, e => by
  rw [List.map_cons, List.nodup_cons] at hn
  rcases List.mem_cons.mp hp with h1 | h1 <;> rcases List.mem_cons.mp hq with h2 | h2
  ·rw [h1, h2]
  ·subst h1
   exact absurd (e ▸ List.mem_map.mpr ⟨q, h2, rfl⟩) hn.1
  ·subst h2
   exact absurd (e ▸ List.mem_map.mpr ⟨p, h1, rfl⟩) hn.1
  ·exact gd_uniq hn.2 h1 h2 e
def EDV (K : PySem.W.Frag) (H : Hp) (p : PD) (x : V) : Prop := ∃ b, x = .ref b ∧ SqT K H b [.str p.st, .str p.en]
theorem EDV.sameT {K : PySem.W.Frag} {H H' : Hp} {p : PD} {x : V} (S : SameT H H') : EDV K H p x → EDV K H' p x := fun ⟨b, h1, h2⟩ => ⟨b, h1, h2.sameT S⟩
theorem nd_take {ks : List PD} (h : (ks.map (·.nm)).Nodup) {i : Nat} {p : PD} (hp : ks[i]? = some p) : p.nm ∉ (ks.take i).map (·.nm) := fun z => by
 obtain ⟨q, hq, e⟩ := List.mem_map.mp z
 have e : q.nm = p.nm := e
 have lt := (List.getElem?_eq_some_iff.mp hp).1
 obtain ⟨j, hj⟩ := List.getElem?_of_mem hq
 have lj := (List.getElem?_eq_some_iff.mp hj).1
 rw [List.length_take] at lj
 rw [List.getElem?_take_of_lt (by omega)] at hj
 have ltj := (List.getElem?_eq_some_iff.mp hj).1
 rw [List.Nodup, List.pairwise_iff_getElem] at h
 refine h j i (by rw [List.length_map]; exact ltj) (by rw [List.length_map]; exact lt) (by omega) ?_
 rw [List.getElem_map, List.getElem_map]
 rw [List.getElem?_eq_getElem ltj] at hj
 rw [List.getElem?_eq_getElem lt] at hp
 rw [Option.some.inj hj, Option.some.inj hp]
 exact e
theorem ForR.byN {lo : Int} {n : Nat} {g : TG} {tb : TS} {D : Ends} {σ : St} {H : Hp} (Pv : Nat → St → Hp → Prop) (h0 : Pv 0 σ H)
  (hs : ∀ i σ H, i < n → Pv i σ H → ∀ N : St → Hp → Prop, (∀ σ' H', Pv (i + 1) σ' H' → N σ' H') → g (.int (lo + i)) σ H fun σ2 H2 => tb { D with nx := N, ct := N, bk := D.nx } σ2 H2) (hd : ∀ σ H, Pv n σ H → D.nx σ H) : ForR lo n g tb D σ H :=
 ForR.by Pv h0 (fun i σ H hi hp => hs i σ H hi hp _ fun _ _ h => h) hd
theorem ForA.byLN {K : PySem.W.Frag} {a : Addr} {xs : List V} {g : TG} {tb : TS} {D : Ends} {σ : St} {H : Hp} (hA : SqL K H a xs) (Pv : Nat → St → Hp → Prop) (h0 : Pv 0 σ H) (hl : ∀ i σ H', Pv i σ H' → SqL K H' a xs)
  (hs : ∀ i x σ H, xs[i]? = some x → Pv i σ H → ∀ N : St → Hp → Prop, (∀ σ' H', Pv (i + 1) σ' H' → N σ' H') → g x σ H fun σ2 H2 => tb { D with nx := N, ct := N, bk := D.nx } σ2 H2) (hd : ∀ σ H, Pv xs.length σ H → D.nx σ H) : ForA K a g tb D σ H :=
 ForA.byL hA Pv h0 hl (fun i x σ H hx hp => hs i x σ H hx hp _ fun _ _ h => h) hd
end L2
open PySem L2
local macro_rules | `(tactic| infer_instance) => `(tactic| simp only [y80y, y4cy, y4dy, y4ey, y6fy, y2ay, y6ay, y7dy, y7ey, y44y, y2dy, y76y, y8cy, y2fy, y39y, y70y, y2ey, y85y, y23y, y28y, y77y, y72y, y29y, y78y, y74y, y58y, y8ey, y26y, y84y, y6ey, y67y, y49y, y66y, y7by, y32y, y47y, y6cy, y48y, y6dy, y46y, y6by, y87y, y62y, y5ey, y89y, y8by, y88y, y8ay, y25y, y65y, y24y, true_and, if_true, if_false, Bool.not_true, Bool.not_false, Bool.false_eq_true, yby, ydy, yay, ycy, yey, y15y, y17y, y14y, y16y, y18y, y6y, y8y, y5y, y7y, y9y, y1y, y3y, y0y, y2y, y4y, y10y, y12y, yfy, y11y, y13y, y1ay, y1cy, y19y, y1by, y1dy, y1fy, y21y, y1ey, y20y, y22y, y82y, y7ay, y71y, y30y, y31y, y52y, y60y, y61y, y4by, y83y, y86y, y8fy, y7cy, y27y, V.int.injEq, V.str.injEq, List.set_cons_zero, List.set_cons_succ, List.getElem?_cons_zero, List.getElem?_cons_succ, Option.some.injEq, exists_eq_left, exists_eq_left', V.bl.injEq, Int.reduceToNat, Int.reducePow, List.append_nil, List.nil_append, List.cons_append, y54y, y56y, y2by, y2cy, y68y, y5dy, y73y, y63y, y64y, y3ay, y3by, y3cy, y43y, y45y, y3ey, y79y, y40y, y3fy, y33y, y35y, y37y, y3dy, y41y, y4fy, y50y, y59y, y93y, y94y, y90y, y91y, y92y, reduceCtorEq, decide_false, decide_true])
local macro_rules | `(tactic| contradiction) => `(tactic| simp only [y80y, y4cy, y4dy, y4ey, y6fy, y2ay, y6ay, y7dy, y7ey, y44y, y2dy, y76y, y8cy, y2fy, y39y, y70y, y2ey, y85y, y23y, y28y, y77y, y72y, y29y, y78y, y74y, y58y, y8ey, y26y, y84y, y6ey, y67y, y49y, y66y, y7by, y32y, y47y, y6cy, y48y, y6dy, y46y, y6by, y87y, y62y, y5ey, y89y, y8by, y88y, y8ay, y25y, y65y, y24y, true_and, if_true, if_false, Bool.not_true, Bool.not_false, Bool.false_eq_true, yby, ydy, yay, ycy, yey, y15y, y17y, y14y, y16y, y18y, y6y, y8y, y5y, y7y, y9y, y1y, y3y, y0y, y2y, y4y, y10y, y12y, yfy, y11y, y13y, y1ay, y1cy, y19y, y1by, y1dy, y1fy, y21y, y1ey, y20y, y22y, y82y, y7ay, y71y, y30y, y31y, y52y, y60y, y61y, y4by, y83y, y86y, y8fy, y7cy, y27y, V.int.injEq, V.str.injEq, List.set_cons_zero, List.set_cons_succ, List.getElem?_cons_zero, List.getElem?_cons_succ, Option.some.injEq, exists_eq_left, exists_eq_left', V.bl.injEq, Int.reduceToNat, Int.reducePow, List.append_nil, List.nil_append, List.cons_append, y54y, y56y, y2by, y2cy, y68y, y5dy, y73y, y63y, y64y, y3ay, y3by, y3cy, y43y, y45y, y3ey, y79y, y40y, y3fy, y33y, y35y, y37y, y3dy, y41y, y4fy, y50y, y59y, y93y, y94y, y90y, y91y, y92y, reduceCtorEq, decide_false, decide_true, y4ay])
local macro_rules | `(tactic| ac_rfl) => `(tactic| simp only [y80y, y4cy, y4dy, y4ey, y6fy, y2ay, y6ay, y7dy, y7ey, y44y, y2dy, y76y, y8cy, y2fy, y39y, y70y, y2ey, y85y, y23y, y28y, y77y, y72y, y29y, y78y, y74y, y58y, y8ey, y26y, y84y, y6ey, y67y, y49y, y66y, y7by, y32y, y47y, y6cy, y48y, y6dy, y46y, y6by, y87y, y62y, y5ey, y89y, y8by, y88y, y8ay, y25y, y65y, y24y, true_and, if_true, if_false, Bool.not_true, Bool.not_false, Bool.false_eq_true, yby, ydy, yay, ycy, yey, y15y, y17y, y14y, y16y, y18y, y6y, y8y, y5y, y7y, y9y, y1y, y3y, y0y, y2y, y4y, y10y, y12y, yfy, y11y, y13y, y1ay, y1cy, y19y, y1by, y1dy, y1fy, y21y, y1ey, y20y, y22y, y82y, y7ay, y71y, y30y, y31y, y52y, y60y, y61y, y4by, y83y, y86y, y8fy, y7cy, y27y, V.int.injEq, V.str.injEq, List.set_cons_zero, List.set_cons_succ, List.getElem?_cons_zero, List.getElem?_cons_succ, Option.some.injEq, exists_eq_left, exists_eq_left', V.bl.injEq, Int.reduceToNat, Int.reducePow, List.append_nil, List.nil_append, List.cons_append, y54y, y56y, y2by, y2cy, y68y, y5dy, y73y, y63y, y64y, y3ay, y3by, y3cy, y43y, y45y, y3ey, y79y, y40y, y3fy, y33y, y35y, y37y, y3dy, y41y, y4fy, y50y, y59y, y93y, y94y, y90y, y91y, y92y, reduceCtorEq, decide_false, decide_true, y81y])
local macro_rules | `(tactic| symm_saturate) => `(tactic| ((try simp only [y4cy, y4dy, y4ey, y6fy, y2ay, y6ay, y7dy, y7ey, y44y, y2dy, y76y, y8cy, y2fy, y39y, y70y, y2ey, y85y, y23y, y28y, y77y, y72y, y29y, y78y, y74y, y58y, y8ey, y26y, y84y, y6ey, y67y, y49y, y66y, y7by, y32y, y47y, y6cy, y48y, y6dy, y46y, y6by, y87y, y62y, y5ey, y89y, y8by, y88y, y8ay, y25y, y65y, y24y, true_and, if_true, if_false, Bool.not_true, Bool.not_false, Bool.false_eq_true, yby, ydy, yay, ycy, yey, y15y, y17y, y14y, y16y, y18y, y6y, y8y, y5y, y7y, y9y, y1y, y3y, y0y, y2y, y4y, y10y, y12y, yfy, y11y, y13y, y1ay, y1cy, y19y, y1by, y1dy, y1fy, y21y, y1ey, y20y, y22y, y82y, y7ay, y71y, y30y, y31y, y52y, y60y, y61y, y4by, y83y, y86y, y8fy, y7cy, y27y, V.int.injEq, V.str.injEq, List.set_cons_zero, List.set_cons_succ, List.getElem?_cons_zero, List.getElem?_cons_succ, Option.some.injEq, exists_eq_left, exists_eq_left', V.bl.injEq, Int.reduceToNat, Int.reducePow, List.append_nil, List.nil_append, List.cons_append, y54y, y56y, y2by, y2cy, y68y, y5dy, y73y, y63y, y64y, y3ay, y3by, y3cy, y43y, y45y, y3ey, y79y, y40y, y3fy, y33y, y35y, y37y, y3dy, y41y, y4fy, y50y, y59y, y93y, y94y, y90y, y91y, y92y, reduceCtorEq, decide_false, decide_true, y4ay, y81y]); repeat (rw [y80y]; (try simp only [y4cy, y4dy, y4ey, y6fy, y2ay, y6ay, y7dy, y7ey, y44y, y2dy, y76y, y8cy, y2fy, y39y, y70y, y2ey, y85y, y23y, y28y, y77y, y72y, y29y, y78y, y74y, y58y, y8ey, y26y, y84y, y6ey, y67y, y49y, y66y, y7by, y32y, y47y, y6cy, y48y, y6dy, y46y, y6by, y87y, y62y, y5ey, y89y, y8by, y88y, y8ay, y25y, y65y, y24y, true_and, if_true, if_false, Bool.not_true, Bool.not_false, Bool.false_eq_true, yby, ydy, yay, ycy, yey, y15y, y17y, y14y, y16y, y18y, y6y, y8y, y5y, y7y, y9y, y1y, y3y, y0y, y2y, y4y, y10y, y12y, yfy, y11y, y13y, y1ay, y1cy, y19y, y1by, y1dy, y1fy, y21y, y1ey, y20y, y22y, y82y, y7ay, y71y, y30y, y31y, y52y, y60y, y61y, y4by, y83y, y86y, y8fy, y7cy, y27y, V.int.injEq, V.str.injEq, List.set_cons_zero, List.set_cons_succ, List.getElem?_cons_zero, List.getElem?_cons_succ, Option.some.injEq, exists_eq_left, exists_eq_left', V.bl.injEq, Int.reduceToNat, Int.reducePow, List.append_nil, List.nil_append, List.cons_append, y54y, y56y, y2by, y2cy, y68y, y5dy, y73y, y63y, y64y, y3ay, y3by, y3cy, y43y, y45y, y3ey, y79y, y40y, y3fy, y33y, y35y, y37y, y3dy, y41y, y4fy, y50y, y59y, y93y, y94y, y90y, y91y, y92y, reduceCtorEq, decide_false, decide_true, y4ay, y81y]))))
local macro_rules | `(tactic| exfalso) => `(tactic| ((try simp only [y4cy, y4dy, y4ey, y6fy, y2ay, y6ay, y7dy, y7ey, y44y, y2dy, y76y, y8cy, y2fy, y39y, y70y, y2ey, y85y, y23y, y28y, y77y, y72y, y29y, y78y, y74y, y58y, y8ey, y26y, y84y, y6ey, y67y, y49y, y66y, y7by, y32y, y47y, y6cy, y48y, y6dy, y46y, y6by, y87y, y62y, y5ey, y89y, y8by, y88y, y8ay, y25y, y65y, y24y, true_and, if_true, if_false, Bool.not_true, Bool.not_false, Bool.false_eq_true, yby, ydy, yay, ycy, yey, y15y, y17y, y14y, y16y, y18y, y6y, y8y, y5y, y7y, y9y, y1y, y3y, y0y, y2y, y4y, y10y, y12y, yfy, y11y, y13y, y1ay, y1cy, y19y, y1by, y1dy, y1fy, y21y, y1ey, y20y, y22y, y82y, y7ay, y71y, y30y, y31y, y52y, y60y, y61y, y4by, y83y, y86y, y8fy, y7cy, y27y, V.int.injEq, V.str.injEq, List.set_cons_zero, List.set_cons_succ, List.getElem?_cons_zero, List.getElem?_cons_succ, Option.some.injEq, exists_eq_left, exists_eq_left', V.bl.injEq, Int.reduceToNat, Int.reducePow, List.append_nil, List.nil_append, List.cons_append, y54y, y56y, y2by, y2cy, y68y, y5dy, y73y, y63y, y64y, y3ay, y3by, y3cy, y43y, y45y, y3ey, y79y, y40y, y3fy, y33y, y35y, y37y, y3dy, y41y, y4fy, y50y, y59y, y93y, y94y, y90y, y91y, y92y, reduceCtorEq, decide_false, decide_true, y81y]); repeat (rw [y80y]; (try simp only [y4cy, y4dy, y4ey, y6fy, y2ay, y6ay, y7dy, y7ey, y44y, y2dy, y76y, y8cy, y2fy, y39y, y70y, y2ey, y85y, y23y, y28y, y77y, y72y, y29y, y78y, y74y, y58y, y8ey, y26y, y84y, y6ey, y67y, y49y, y66y, y7by, y32y, y47y, y6cy, y48y, y6dy, y46y, y6by, y87y, y62y, y5ey, y89y, y8by, y88y, y8ay, y25y, y65y, y24y, true_and, if_true, if_false, Bool.not_true, Bool.not_false, Bool.false_eq_true, yby, ydy, yay, ycy, yey, y15y, y17y, y14y, y16y, y18y, y6y, y8y, y5y, y7y, y9y, y1y, y3y, y0y, y2y, y4y, y10y, y12y, yfy, y11y, y13y, y1ay, y1cy, y19y, y1by, y1dy, y1fy, y21y, y1ey, y20y, y22y, y82y, y7ay, y71y, y30y, y31y, y52y, y60y, y61y, y4by, y83y, y86y, y8fy, y7cy, y27y, V.int.injEq, V.str.injEq, List.set_cons_zero, List.set_cons_succ, List.getElem?_cons_zero, List.getElem?_cons_succ, Option.some.injEq, exists_eq_left, exists_eq_left', V.bl.injEq, Int.reduceToNat, Int.reducePow, List.append_nil, List.nil_append, List.cons_append, y54y, y56y, y2by, y2cy, y68y, y5dy, y73y, y63y, y64y, y3ay, y3by, y3cy, y43y, y45y, y3ey, y79y, y40y, y3fy, y33y, y35y, y37y, y3dy, y41y, y4fy, y50y, y59y, y93y, y94y, y90y, y91y, y92y, reduceCtorEq, decide_false, decide_true, y81y]))))
local macro_rules | `(tactic| and_intros) => `(tactic| ((try simp only [y4cy, y4dy, y4ey, y6fy, y2ay, y6ay, y7dy, y7ey, y44y, y2dy, y76y, y8cy, y2fy, y39y, y70y, y2ey, y85y, y23y, y28y, y77y, y72y, y29y, y78y, y74y, y58y, y8ey, y26y, y84y, y6ey, y67y, y49y, y66y, y7by, y32y, y47y, y6cy, y48y, y6dy, y46y, y6by, y87y, y62y, y5ey, y89y, y8by, y88y, y8ay, y25y, y65y, y24y, true_and, if_true, if_false, Bool.not_true, Bool.not_false, Bool.false_eq_true, yby, ydy, yay, ycy, yey, y15y, y17y, y14y, y16y, y18y, y6y, y8y, y5y, y7y, y9y, y1y, y3y, y0y, y2y, y4y, y10y, y12y, yfy, y11y, y13y, y1ay, y1cy, y19y, y1by, y1dy, y1fy, y21y, y1ey, y20y, y22y, y82y, y7ay, y71y, y30y, y31y, y52y, y60y, y61y, y4by, y83y, y86y, y8fy, y7cy, y27y, V.int.injEq, V.str.injEq, List.set_cons_zero, List.set_cons_succ, List.getElem?_cons_zero, List.getElem?_cons_succ, Option.some.injEq, exists_eq_left, exists_eq_left', V.bl.injEq, Int.reduceToNat, Int.reducePow, List.append_nil, List.nil_append, List.cons_append, y54y, y56y, y2by, y2cy, y68y, y5dy, y73y, y63y, y64y, y3ay, y3by, y3cy, y43y, y45y, y3ey, y79y, y40y, y3fy, y33y, y35y, y37y, y3dy, y41y, y4fy, y50y, y59y, y93y, y94y, y90y, y91y, y92y, reduceCtorEq, decide_false, decide_true, y4ay]); repeat (rw [y80y]; (try simp only [y4cy, y4dy, y4ey, y6fy, y2ay, y6ay, y7dy, y7ey, y44y, y2dy, y76y, y8cy, y2fy, y39y, y70y, y2ey, y85y, y23y, y28y, y77y, y72y, y29y, y78y, y74y, y58y, y8ey, y26y, y84y, y6ey, y67y, y49y, y66y, y7by, y32y, y47y, y6cy, y48y, y6dy, y46y, y6by, y87y, y62y, y5ey, y89y, y8by, y88y, y8ay, y25y, y65y, y24y, true_and, if_true, if_false, Bool.not_true, Bool.not_false, Bool.false_eq_true, yby, ydy, yay, ycy, yey, y15y, y17y, y14y, y16y, y18y, y6y, y8y, y5y, y7y, y9y, y1y, y3y, y0y, y2y, y4y, y10y, y12y, yfy, y11y, y13y, y1ay, y1cy, y19y, y1by, y1dy, y1fy, y21y, y1ey, y20y, y22y, y82y, y7ay, y71y, y30y, y31y, y52y, y60y, y61y, y4by, y83y, y86y, y8fy, y7cy, y27y, V.int.injEq, V.str.injEq, List.set_cons_zero, List.set_cons_succ, List.getElem?_cons_zero, List.getElem?_cons_succ, Option.some.injEq, exists_eq_left, exists_eq_left', V.bl.injEq, Int.reduceToNat, Int.reducePow, List.append_nil, List.nil_append, List.cons_append, y54y, y56y, y2by, y2cy, y68y, y5dy, y73y, y63y, y64y, y3ay, y3by, y3cy, y43y, y45y, y3ey, y79y, y40y, y3fy, y33y, y35y, y37y, y3dy, y41y, y4fy, y50y, y59y, y93y, y94y, y90y, y91y, y92y, reduceCtorEq, decide_false, decide_true, y4ay]))))
local macro_rules | `(tactic| nofun) => `(tactic| ((try simp only [y4cy, y4dy, y4ey, y6fy, y2ay, y6ay, y7dy, y7ey, y44y, y2dy, y76y, y8cy, y2fy, y39y, y70y, y2ey, y85y, y23y, y28y, y77y, y72y, y29y, y78y, y74y, y58y, y8ey, y26y, y84y, y6ey, y67y, y49y, y66y, y7by, y32y, y47y, y6cy, y48y, y6dy, y46y, y6by, y87y, y62y, y5ey, y89y, y8by, y88y, y8ay, y25y, y65y, y24y, true_and, if_true, if_false, Bool.not_true, Bool.not_false, Bool.false_eq_true, yby, ydy, yay, ycy, yey, y15y, y17y, y14y, y16y, y18y, y6y, y8y, y5y, y7y, y9y, y1y, y3y, y0y, y2y, y4y, y10y, y12y, yfy, y11y, y13y, y1ay, y1cy, y19y, y1by, y1dy, y1fy, y21y, y1ey, y20y, y22y, y82y, y7ay, y71y, y30y, y31y, y52y, y60y, y61y, y4by, y83y, y86y, y8fy, y7cy, y27y, V.int.injEq, V.str.injEq, List.set_cons_zero, List.set_cons_succ, List.getElem?_cons_zero, List.getElem?_cons_succ, Option.some.injEq, exists_eq_left, exists_eq_left', V.bl.injEq, Int.reduceToNat, Int.reducePow, List.append_nil, List.nil_append, List.cons_append, y54y, y56y, y2by, y2cy, y68y, y5dy, y73y, y63y, y64y, y3ay, y3by, y3cy, y43y, y45y, y3ey, y79y, y40y, y3fy, y33y, y35y, y37y, y3dy, y41y, y4fy, y50y, y59y, y93y, y94y, y90y, y91y, y92y, reduceCtorEq, decide_false, decide_true]); repeat (rw [y80y]; (try simp only [y4cy, y4dy, y4ey, y6fy, y2ay, y6ay, y7dy, y7ey, y44y, y2dy, y76y, y8cy, y2fy, y39y, y70y, y2ey, y85y, y23y, y28y, y77y, y72y, y29y, y78y, y74y, y58y, y8ey, y26y, y84y, y6ey, y67y, y49y, y66y, y7by, y32y, y47y, y6cy, y48y, y6dy, y46y, y6by, y87y, y62y, y5ey, y89y, y8by, y88y, y8ay, y25y, y65y, y24y, true_and, if_true, if_false, Bool.not_true, Bool.not_false, Bool.false_eq_true, yby, ydy, yay, ycy, yey, y15y, y17y, y14y, y16y, y18y, y6y, y8y, y5y, y7y, y9y, y1y, y3y, y0y, y2y, y4y, y10y, y12y, yfy, y11y, y13y, y1ay, y1cy, y19y, y1by, y1dy, y1fy, y21y, y1ey, y20y, y22y, y82y, y7ay, y71y, y30y, y31y, y52y, y60y, y61y, y4by, y83y, y86y, y8fy, y7cy, y27y, V.int.injEq, V.str.injEq, List.set_cons_zero, List.set_cons_succ, List.getElem?_cons_zero, List.getElem?_cons_succ, Option.some.injEq, exists_eq_left, exists_eq_left', V.bl.injEq, Int.reduceToNat, Int.reducePow, List.append_nil, List.nil_append, List.cons_append, y54y, y56y, y2by, y2cy, y68y, y5dy, y73y, y63y, y64y, y3ay, y3by, y3cy, y43y, y45y, y3ey, y79y, y40y, y3fy, y33y, y35y, y37y, y3dy, y41y, y4fy, y50y, y59y, y93y, y94y, y90y, y91y, y92y, reduceCtorEq, decide_false, decide_true]))))
namespace Prg
open PySem L2 Ch
def top (i : Nat) : Stmt := PySem.Challenge.pw_slackchain_k42_ways_of_gaps.main.body.getD i (.Pass ⟨0, 0, 0, 0⟩)
structure Adr where
 SlackError : Addr
 NoFace : Addr
 NoRow : Addr
 Twice : Addr
 NoName : Addr
 NoPart : Addr
 NoGap : Addr
 InRing : Addr
 Apart : Addr
 Part : Addr
 Gap : Addr
 Joints : Addr
 Thing : Addr
 SMALL_LETTERS : Value
 LONGEST_NAME : Value
 ZERO : Addr
structure PartC (K : PySem.W.Frag) (C : Addr) : Prop where
 cls : Cls K C
 n1 : NoAttr K C "name"
 n2 : NoAttr K C "start"
 n3 : NoAttr K C "end"
 n4 : NoAttr K C "size"
 n5 : NoAttr K C "most"
 n6 : NoAttr K C "weight"
def IsPart (Ad : Adr) (C : Addr) : Prop := C = Ad.Part
structure GapC (K : PySem.W.Frag) (C : Addr) : Prop where
 cls : Cls K C
 n1 : NoAttr K C "name"
 n2 : NoAttr K C "one"
 n3 : NoAttr K C "other"
 n4 : NoAttr K C "low"
 n5 : NoAttr K C "high"
def IsGap (Ad : Adr) (C : Addr) : Prop := C = Ad.Gap
structure JointsC (K : PySem.W.Frag) (C : Addr) : Prop where
 cls : Cls K C
 n1 : NoAttr K C "leads"
def IsJoints (Ad : Adr) (C : Addr) : Prop := C = Ad.Joints
structure ThingC (K : PySem.W.Frag) (C : Addr) : Prop where
 cls : Cls K C
 n1 : NoAttr K C "parts_by_name"
 n2 : NoAttr K C "gaps_by_name"
 n3 : NoAttr K C "ways"
def IsThing (Ad : Adr) (C : Addr) : Prop := C = Ad.Thing
theorem SqT.put {K : PySem.W.Frag} {H : Hp} {x a C dx : Addr} {fs fs' : List (Str × V)} {xs : List V} (hx : H x = some (.ins C dx fs)) (h : SqT K H a xs) : SqT K (upd H x (.ins C dx fs')) a xs := by
 rcases h with (h | ⟨o, h⟩) | h
 ·exact .inl (.inl (by rw [upd_ne (ne_of h hx (by intro z; cases z))]; exact h))
 ·exact .inl (.inr ⟨o, by rw [upd_ne (ne_of h hx (by intro z; cases z))]; exact h⟩)
 ·exact .inr h
def partF (n s e z m w : V) : List (Str × V) := [("name", n), ("start", s), ("end", e), ("size", z), ("most", m), ("weight", w)]
def gapF (n s e l g : V) : List (Str × V) := [("name", n), ("one", s), ("other", e), ("low", l), ("high", g)]
structure Txt (K : PySem.W.Frag) (mg : Str → Option Value) (Ad : Adr) : Prop where
 n_abs : mg "abs" = none
 n_isinstance : mg "isinstance" = none
 n_len : mg "len" = none
 n_int : mg "int" = none
 n_bool : mg "bool" = none
 n_tuple : mg "tuple" = none
 n_str : mg "str" = none
 n_range : mg "range" = none
 n_list : mg "list" = none
 n_min : mg "min" = none
 n_sorted : mg "sorted" = none
 n_all : mg "all" = none
 n_ValueError : mg "ValueError" = none
 m_SlackError : mg "SlackError" = some (.ref Ad.SlackError)
 m_NoFace : mg "NoFace" = some (.ref Ad.NoFace)
 m_NoRow : mg "NoRow" = some (.ref Ad.NoRow)
 m_Twice : mg "Twice" = some (.ref Ad.Twice)
 m_NoName : mg "NoName" = some (.ref Ad.NoName)
 m_NoPart : mg "NoPart" = some (.ref Ad.NoPart)
 m_NoGap : mg "NoGap" = some (.ref Ad.NoGap)
 m_InRing : mg "InRing" = some (.ref Ad.InRing)
 m_Apart : mg "Apart" = some (.ref Ad.Apart)
 m_Part : mg "Part" = some (.ref Ad.Part)
 m_Gap : mg "Gap" = some (.ref Ad.Gap)
 m_Joints : mg "Joints" = some (.ref Ad.Joints)
 m_Thing : mg "Thing" = some (.ref Ad.Thing)
 m_SMALL_LETTERS : mg "SMALL_LETTERS" = some Ad.SMALL_LETTERS
 r_SMALL_LETTERS : RelV (.str "abcdefghijklmnopqrstuvwxyz") Ad.SMALL_LETTERS
 m_LONGEST_NAME : mg "LONGEST_NAME" = some Ad.LONGEST_NAME
 r_LONGEST_NAME : RelV (.int 8) Ad.LONGEST_NAME
 m_ZERO : mg "ZERO" = some (.ref Ad.ZERO)
 r_ZERO : RelV (.ref Ad.ZERO) (.ref Ad.ZERO)
 q_ZERO : ∀ H : Hp, SqT K H Ad.ZERO [.int 0, .int 1]
 x_Twice : PySem.W.excIn K Ad.Twice [.type "ValueError", .type "Exception", .type "BaseException", .type "object"] "ValueError.__new__" = true
 x_NoName : PySem.W.excIn K Ad.NoName [.type "ValueError", .type "Exception", .type "BaseException", .type "object"] "ValueError.__new__" = true
 x_NoPart : PySem.W.excIn K Ad.NoPart [.type "ValueError", .type "Exception", .type "BaseException", .type "object"] "ValueError.__new__" = true
 x_NoGap : PySem.W.excIn K Ad.NoGap [.type "ValueError", .type "Exception", .type "BaseException", .type "object"] "ValueError.__new__" = true
 x_InRing : PySem.W.excIn K Ad.InRing [.type "ValueError", .type "Exception", .type "BaseException", .type "object"] "ValueError.__new__" = true
 x_Apart : PySem.W.excIn K Ad.Apart [.type "ValueError", .type "Exception", .type "BaseException", .type "object"] "ValueError.__new__" = true
 cl1_Part : PySem.W.plainGet K Ad.Part Str.empty = true
 cl2_Part : PySem.W.hasDictIn K Ad.Part = true
 cl3_Part : PySem.W.plainOver K Ad.Part = true
 cl4_Part : PySem.W.findIn K (.ref Ad.Part) "__setattr__" = some (some (.builtin "object.__setattr__"))
 na1_Part : PySem.W.findIn K (.ref Ad.Part) "name" = some none
 na2_Part : PySem.W.findIn K (.ref Ad.Part) "start" = some none
 na3_Part : PySem.W.findIn K (.ref Ad.Part) "end" = some none
 na4_Part : PySem.W.findIn K (.ref Ad.Part) "size" = some none
 na5_Part : PySem.W.findIn K (.ref Ad.Part) "most" = some none
 na6_Part : PySem.W.findIn K (.ref Ad.Part) "weight" = some none
 cl1_Gap : PySem.W.plainGet K Ad.Gap Str.empty = true
 cl2_Gap : PySem.W.hasDictIn K Ad.Gap = true
 cl3_Gap : PySem.W.plainOver K Ad.Gap = true
 cl4_Gap : PySem.W.findIn K (.ref Ad.Gap) "__setattr__" = some (some (.builtin "object.__setattr__"))
 na1_Gap : PySem.W.findIn K (.ref Ad.Gap) "name" = some none
 na2_Gap : PySem.W.findIn K (.ref Ad.Gap) "one" = some none
 na3_Gap : PySem.W.findIn K (.ref Ad.Gap) "other" = some none
 na4_Gap : PySem.W.findIn K (.ref Ad.Gap) "low" = some none
 na5_Gap : PySem.W.findIn K (.ref Ad.Gap) "high" = some none
 cl1_Joints : PySem.W.plainGet K Ad.Joints Str.empty = true
 cl2_Joints : PySem.W.hasDictIn K Ad.Joints = true
 cl3_Joints : PySem.W.plainOver K Ad.Joints = true
 cl4_Joints : PySem.W.findIn K (.ref Ad.Joints) "__setattr__" = some (some (.builtin "object.__setattr__"))
 na1_Joints : PySem.W.findIn K (.ref Ad.Joints) "leads" = some none
 cl1_Thing : PySem.W.plainGet K Ad.Thing Str.empty = true
 cl2_Thing : PySem.W.hasDictIn K Ad.Thing = true
 cl3_Thing : PySem.W.plainOver K Ad.Thing = true
 cl4_Thing : PySem.W.findIn K (.ref Ad.Thing) "__setattr__" = some (some (.builtin "object.__setattr__"))
 na1_Thing : PySem.W.findIn K (.ref Ad.Thing) "parts_by_name" = some none
 na2_Thing : PySem.W.findIn K (.ref Ad.Thing) "gaps_by_name" = some none
 na3_Thing : PySem.W.findIn K (.ref Ad.Thing) "ways" = some none
 y1 : PySem.W.hasDictIn K Ad.SlackError = true
 y2 : PySem.W.typeIn K (.ref Ad.SlackError) = some (.type "type")
 y3 : PySem.W.mroIn K Ad.SlackError (.type "BaseException") = some true
 y4 : PySem.W.mroIn K Ad.NoName (.ref Ad.SlackError) = some true
 xc1 : PySem.W.hasDictIn K Ad.NoName = true
 xc2 : PySem.W.findIn K (.ref Ad.NoName) "__getattribute__" = some (some (.builtin "BaseException.__getattribute__"))
 xc3 : PySem.W.findIn K (.ref Ad.NoName) "__getattr__" = some none
 xc4 : PySem.W.findIn K (.ref Ad.NoName) "__class__" = some (some (.builtin "object.__class__"))
 xc5 : PySem.W.specialIn K (.builtin "object.__class__") "__get__" = some (some (.builtin "getset_descriptor.__get__"))
 xc6 : PySem.W.takesIn K (.builtin "object.__class__") = some true
 xc7 : PySem.W.mroIn K Ad.NoName (.type "object") = some true
 xc8 : PySem.W.mroIn K Ad.NoName (.type "BaseException") = some true
 kB : PySem.W.kitOne K (.ref Ad.NoName) (.ref Ad.NoName) = some true
 kV : PySem.W.kitOne K (.ref Ad.NoName) (.type "ValueError") = some true
 k_NoGap : PySem.W.kitOne K (.ref Ad.NoName) (.ref Ad.NoGap) = some false
 k_NoPart : PySem.W.kitOne K (.ref Ad.NoName) (.ref Ad.NoPart) = some false
 k_Twice : PySem.W.kitOne K (.ref Ad.NoName) (.ref Ad.Twice) = some false
 k_NoFace : PySem.W.kitOne K (.ref Ad.NoName) (.ref Ad.NoFace) = some false
 k_NoRow : PySem.W.kitOne K (.ref Ad.NoName) (.ref Ad.NoRow) = some false
 c_Part : ∀ C, IsPart Ad C → PartC K C
 c_Gap : ∀ C, IsGap Ad C → GapC K C
 c_Joints : ∀ C, IsJoints Ad C → JointsC K C
 c_Thing : ∀ C, IsThing Ad C → ThingC K C
def PEV (K : PySem.W.Frag) (H : Hp) (e : PD ⊕ D) (x : V) : Prop := match e with
 | .inl p => PDV K H p x ∧ POk p
 | .inr c => Rep K H c x ∧ szD c ∧ partB c = false
def GEV (K : PySem.W.Frag) (H : Hp) (e : GD ⊕ D) (x : V) : Prop := match e with
 | .inl g => TV K H g.td x ∧ TOk g.td
 | .inr c => Rep K H c x ∧ szD c ∧ gapB c = false
def POV (K : PySem.W.Frag) (Ad : Adr) (H : Hp) (p : PD) (v : V) : Prop := ∃ q dx vz vm, v = .ref q ∧ H q = some (.ins Ad.Part dx (partF (.str p.nm) (.str p.st) (.str p.en) vz vm (.int p.wt))) ∧ FrV K H vz p.sz.1 p.sz.2 ∧ FrV K H vm p.mo.1 p.mo.2
def GOV (K : PySem.W.Frag) (Ad : Adr) (H : Hp) (g : GD) (v : V) : Prop := ∃ q dx vl vg, v = .ref q ∧ H q = some (.ins Ad.Gap dx (gapF (.str g.nm) (.str g.st) (.str g.en) vl vg)) ∧ FrV K H vl g.lo.1 g.lo.2 ∧ FrV K H vg g.hi.1 g.hi.2
section
variable {K : PySem.W.Frag} {Ad : Adr} {H H' : Hp} {v x : V}
def isTI : HO → Bool
 | .ins _ _ _ => true
 | u => isTF u
def SameI (H H' : Hp) : Prop := ∀ b u, isTI u = true → H b = some u → H' b = some u
theorem SameI.t (S : SameI H H') : SameT H H' := fun b u t h => S b u (by cases u <;> first | exact t | (simp [isTF] at t)) h
theorem Same.i (S : Same H H') : SameI H H' := fun b u _ h => S b u h
theorem PEV.same {e : PD ⊕ D} (S : Same H H') (h : PEV K H e x) : PEV K H' e x := by
 match e, h with
 | .inl t, h => exact ⟨h.1.sameT S.t, h.2⟩
 | .inr c, h => exact ⟨h.1.same S, h.2⟩
theorem GEV.same {e : GD ⊕ D} (S : Same H H') (h : GEV K H e x) : GEV K H' e x := by
 match e, h with
 | .inl t, h => exact ⟨h.1.sameT S.t, h.2⟩
 | .inr c, h => exact ⟨h.1.same S, h.2⟩
theorem POV.si {p : PD} (S : SameI H H') : POV K Ad H p v → POV K Ad H' p v := fun ⟨q, dx, vz, vm, h1, h2, h3, h4⟩ => ⟨q, dx, vz, vm, h1, S _ _ rfl h2, h3.sameT S.t, h4.sameT S.t⟩
theorem GOV.si {g : GD} (S : SameI H H') : GOV K Ad H g v → GOV K Ad H' g v := fun ⟨q, dx, vz, vm, h1, h2, h3, h4⟩ => ⟨q, dx, vz, vm, h1, S _ _ rfl h2, h3.sameT S.t, h4.sameT S.t⟩
end
def JK (Ad : Adr) (H0 H : Hp) (j d : Addr) (ls : List PD) : Prop := (∃ dx, H j = some (.ins Ad.Joints dx [("leads", .ref d)])) ∧ H0 d = none ∧ ∃ kvs, H d = some (.dK kvs) ∧ kvs.length ≤ 2 * ls.length ∧ JD H0 H (leadsOf ls) kvs
theorem JK.same {Ad : Adr} {H0 H H' : Hp} {j d : Addr} {ls : List PD} (S : Same H H') : JK Ad H0 H j d ls → JK Ad H0 H' j d ls := fun ⟨⟨dx, h1⟩, h2, kvs, h3, h4, h5⟩ => ⟨⟨dx, S _ _ h1⟩, h2, kvs, S _ _ h3, h4, h5.same S⟩
def TK (K : PySem.W.Frag) (Ad : Adr) (H : Hp) (x : Addr) (ls : List PD) (gs : List GD) : Prop := ∃ dx d1 d2 d3 k1 k2 k3, H x = some (.ins Ad.Thing dx [("parts_by_name", .ref d1), ("gaps_by_name", .ref d2), ("ways", .ref d3)]) ∧ H d1 = some (.dK k1) ∧ BG (·.nm) (POV K Ad H) ls k1 ∧ H d2 = some (.dK k2) ∧ BG (·.nm) (GOV K Ad H) gs k2 ∧ H d3 = some (.dK k3) ∧ BG (·.nm) (WOV H ls) gs k3
theorem TK.same {K : PySem.W.Frag} {Ad : Adr} {H H' : Hp} {x : Addr} {ls : List PD} {gs : List GD} (S : Same H H') : TK K Ad H x ls gs → TK K Ad H' x ls gs := fun ⟨dx, d1, d2, d3, k1, k2, k3, h0, h1, b1, h2, b2, h3, b3⟩ => ⟨dx, d1, d2, d3, k1, k2, k3, S _ _ h0, S _ _ h1, b1.mono fun _ _ z => z.si (Same.i S), S _ _ h2, b2.mono fun _ _ z => z.si (Same.i S), S _ _ h3, b3.mono fun _ _ z => z.same S⟩
def SameJ (d : Addr) (H H' : Hp) : Prop := ∀ b u, b ≠ d → (∀ xs, u ≠ .lst xs) → H b = some u → H' b = some u
section
variable {P : Program} {w : World} {K : PySem.W.Frag} {mg : Str → Option Value} {base : Heap} {Ad : Adr}
abbrev s_common_divisor : Stmt := top 11
theorem sc_common_divisor : FnScope ["one", "other", "greater", "lesser", "rest"] ["one", "other"] (defScope s_common_divisor) := ⟨rfl, rfl, rfl, by decide +kernel, rfl, by decide +kernel, by decide +kernel⟩
def sp_common_divisor  : Sp := fun vs H Q E => ∃ (a b : Int), vs = [.int a, .int b] ∧ Q (.int (Mth.g a b)) H
theorem ok_common_divisor {f : Addr} {fd : FuncData} {dV : Value} (F : FunD K "common_divisor" "common_divisor" s_common_divisor dV f fd) (T : Txt K mg Ad)  : FnOk P w K mg base (CX1 P w) 1 f fd ["one", "other"] (sp_common_divisor) := by
 refine F.okn sc_common_divisor (fun vs H Q E h => ?_) (fun cdv A outer s H vs Q E hr h => ?_)
 ·obtain ⟨a, b, rfl, _⟩ := h; rfl
 obtain ⟨a, b, rfl, h⟩ := h
 have hu := hr.units
 refine ⟨_, (pss_cons (ps_set (i := 2) sc_common_divisor.nd rfl (Or.inl rfl) (pe_callB call_absU rfl T.n_abs bt_abs (pa_cons (pv 0) pa_nil)))
   (pss_cons (ps_set (i := 3) sc_common_divisor.nd rfl (Or.inl rfl) (pe_callB call_absU rfl T.n_abs bt_abs (pa_cons (pv 1) pa_nil)))
   (pss_cons (ps_while PassesOwn.never (pt_cmpR (op_neU hu) (pv 3) pe_int (nomark _))
   (pss_cons (ps_set (i := 4) sc_common_divisor.nd rfl (Or.inl rfl) (pe_op op_modU (pv 2) (pv 3)))
   (pss_cons (ps_set (i := 2) sc_common_divisor.nd rfl (Or.inl rfl) (pv 3))
   (pss_one (ps_set (i := 3) sc_common_divisor.nd rfl (Or.inl rfl) (pv 4))))))
   (pss_one (ps_ret (pv 2)))))), ?_⟩
 show tSeq _ _ _ [some (.int a), some (.int b), none, none, none] H
 try infer_instance
 refine ⟨fun m σ H' => ∃ (x y : Int) (z : Option V), σ = [some (.int a), some (.int b), some (.int x), some (.int y), z] ∧ H' = H ∧ 0 ≤ x ∧ 0 ≤ y ∧ Mth.g x y = Mth.g a b ∧ y.toNat = m, ⟨_, _, _, none, rfl, rfl, Mth.abs_nn a, Mth.abs_nn b, Mth.g_abs a b, rfl⟩, ?_⟩
 rintro m σ H' ⟨x, y, z, rfl, rfl, hx, hy, hg, rfl⟩
 try infer_instance
 by_cases c : y = 0
 ·subst c
  rw [if_neg (by simp)]
  have e : Mth.g a b = x := by rw [← hg, Mth.g_zero]; omega
  rw [e] at h
  exact h
 ·rw [if_pos (by simp [c])]
  have f := Mth.fm (x := x) (y := y) (by omega)
  exact ⟨_, fun _ _ q => q, c, (x.fmod y).toNat, by omega, y, x.fmod y, _, rfl, rfl, hy, f.1, by rw [Mth.g_fstep (by omega)]; exact hg, rfl⟩
abbrev s_plus : Stmt := top 12
theorem sc_plus : FnScope ["one", "other", "shared", "top", "rest"] ["one", "other"] (defScope s_plus) := ⟨rfl, rfl, rfl, by decide +kernel, rfl, by decide +kernel, by decide +kernel⟩
def sp_plus (K : PySem.W.Frag) : Sp := fun vs H Q E => ∃ (x y : V), vs = [x, y] ∧ False
theorem ok_plus {f : Addr} {fd : FuncData} {dV : Value} (F : FunD K "plus" "plus" s_plus dV f fd) (T : Txt K mg Ad) (c_common_divisor : Cal P w K mg base 1 "common_divisor" ["one", "other"] [] (sp_common_divisor)) : FnOk P w K mg base (CX1 P w) 2 f fd ["one", "other"] (sp_plus K) := by
 refine F.okn sc_plus (fun vs H Q E h => ?_) (fun cdv A outer s H vs Q E hr h => ?_)
 ·obtain ⟨x, y, rfl, _⟩ := h; rfl
 obtain ⟨x, y, rfl, h⟩ := h
 have hu := hr.units
 refine ⟨_, (pss_cons (ps_set (i := 2) sc_plus.nd rfl (Or.inl rfl) (c_common_divisor.ev hr (by decide) rfl passF (pa_cons (pe_ix ix_U (pv 0) pe_int (fun _ _ => rfl)) (pa_cons (pe_ix ix_U (pv 1) pe_int (fun _ _ => rfl)) pa_nil))))
   (pss_cons (ps_set (i := 3) sc_plus.nd rfl (Or.inl rfl) (pe_op op_addU (pe_op op_mul0 (pe_ix ix_U (pv 0) pe_int (fun _ _ => rfl)) (pe_op op_fdivU (pe_ix ix_U (pv 1) pe_int (fun _ _ => rfl)) (pv 2))) (pe_op op_mul0 (pe_ix ix_U (pv 1) pe_int (fun _ _ => rfl)) (pe_op op_fdivU (pe_ix ix_U (pv 0) pe_int (fun _ _ => rfl)) (pv 2)))))
   (pss_cons (ps_set (i := 4) sc_plus.nd rfl (Or.inl rfl) (c_common_divisor.ev hr (by decide) rfl passF (pa_cons (pv 3) (pa_cons (pv 2) pa_nil))))
   (pss_one (ps_ret (pe_tup (pa_cons (pe_op op_fdivU (pv 3) (pv 4)) (pa_cons (pe_op op_mul0 (pe_op op_fdivU (pe_ix ix_U (pv 0) pe_int (fun _ _ => rfl)) (pv 2)) (pe_op op_fdivU (pe_ix ix_U (pv 1) pe_int (fun _ _ => rfl)) (pv 4))) pa_nil)))))))), ?_⟩
 exact h.elim
abbrev s_minus : Stmt := top 13
theorem sc_minus : FnScope ["one", "other"] ["one", "other"] (defScope s_minus) := ⟨rfl, rfl, rfl, by decide +kernel, rfl, by decide +kernel, by decide +kernel⟩
def sp_minus (K : PySem.W.Frag) : Sp := fun vs H Q E => ∃ (x y : V), vs = [x, y] ∧ False
theorem ok_minus {f : Addr} {fd : FuncData} {dV : Value} (F : FunD K "minus" "minus" s_minus dV f fd) (T : Txt K mg Ad) (c_plus : Cal P w K mg base 2 "plus" ["one", "other"] [] (sp_plus K)) : FnOk P w K mg base (CX1 P w) 3 f fd ["one", "other"] (sp_minus K) := by
 refine F.okn sc_minus (fun vs H Q E h => ?_) (fun cdv A outer s H vs Q E hr h => ?_)
 ·obtain ⟨x, y, rfl, _⟩ := h; rfl
 obtain ⟨x, y, rfl, h⟩ := h
 have hu := hr.units
 refine ⟨_, (pss_one (ps_ret (c_plus.ev hr (by decide) rfl passF (pa_cons (pv 0) (pa_cons (pe_tup (pa_cons (pe_un un_neg (pe_ix ix_U (pv 1) pe_int (fun _ _ => rfl))) (pa_cons (pe_ix ix_U (pv 1) pe_int (fun _ _ => rfl)) pa_nil))) pa_nil))))), ?_⟩
 exact h.elim
abbrev s_under : Stmt := top 14
theorem sc_under : FnScope ["one", "other"] ["one", "other"] (defScope s_under) := ⟨rfl, rfl, rfl, by decide +kernel, rfl, by decide +kernel, by decide +kernel⟩
def sp_under (K : PySem.W.Frag) : Sp := fun vs H Q E => ∃ (x y : V) (a b c d : Int), vs = [x, y] ∧ FrV K H x a b ∧ FrV K H y c d ∧ Mth.Sz 4000 a ∧ Mth.Sz 4000 b ∧ Mth.Sz 4000 c ∧ Mth.Sz 4000 d ∧ Q (.bl (decide (a * d < c * b))) H
theorem ok_under {f : Addr} {fd : FuncData} {dV : Value} (F : FunD K "under" "under" s_under dV f fd) (T : Txt K mg Ad)  : FnOk P w K mg base (CX1 P w) 1 f fd ["one", "other"] (sp_under K) := by
 refine F.okn sc_under (fun vs H Q E h => ?_) (fun cdv A outer s H vs Q E hr h => ?_)
 ·obtain ⟨x, y, a, b, c, d, rfl, _⟩ := h; rfl
 obtain ⟨x, y, a, b, c, d, rfl, h⟩ := h
 have hu := hr.units
 refine ⟨_, (pss_one (ps_ret (pe_cmpR op_ltU (pe_op op_mul0 (pe_ix ix_U (pv 0) pe_int (fun _ _ => rfl)) (pe_ix ix_U (pv 1) pe_int (fun _ _ => rfl))) (pe_op op_mul0 (pe_ix ix_U (pv 1) pe_int (fun _ _ => rfl)) (pe_ix ix_U (pv 0) pe_int (fun _ _ => rfl))) (nomark _)))), ?_⟩
 obtain ⟨hx, hy, sa, sb, sc, sd, k⟩ := h
 show tRet _ _ [some x, some y] H
 nofun
 refine ixF0 hx (ixF1 hy ?_)
 nofun
 refine ⟨mulOk sa sd, ixF0 hy (ixF1 hx ?_)⟩
 nofun
 exact ⟨mulOk sc sb, k⟩
abbrev s_is_name : Stmt := top 19
theorem sc_is_name : FnScope ["thing"] ["thing"] (defScope s_is_name) := ⟨rfl, rfl, rfl, by decide +kernel, rfl, by decide +kernel, by decide +kernel⟩
def sp_is_name (K : PySem.W.Frag) : Sp := fun vs H Q E => ∃ (x : V) (d : D), vs = [x] ∧ Rep K H d x ∧ szD d ∧ ∀ H', Same H H' → Q (.bl (nameB d)) H'
theorem ok_is_name {f : Addr} {fd : FuncData} {dV : Value} (F : FunD K "is_name" "is_name" s_is_name dV f fd) (T : Txt K mg Ad)  : FnOk P w K mg base (CX1 P w) 1 f fd ["thing"] (sp_is_name K) := by
 refine F.okn sc_is_name (fun vs H Q E h => ?_) (fun cdv A outer s H vs Q E hr h => ?_)
 ·obtain ⟨x, d, rfl, _⟩ := h; rfl
 obtain ⟨x, d, rfl, h⟩ := h
 have hu := hr.units
 refine ⟨_, (pss_cons (ps_if (pt_not (pt_val (pe_callB call_isinstanceU rfl T.n_isinstance bt_isinstance (pa_cons (pv 0) (pa_cons (pe_bltn (v := .ty "str") rfl T.n_str bt_str rfl) pa_nil)))))
   (pss_one (ps_ret pe_bl))
   pss_nil)
   (pss_cons (ps_if (PW.pt (pw_or (pt_cmpR op_ltU (pe_callB call_lenU rfl T.n_len bt_len (pa_cons (pv 0) pa_nil)) pe_int (nomark _)) (pw_or1 (pt_cmpR op_gtU (pe_callB call_lenU rfl T.n_len bt_len (pa_cons (pv 0) pa_nil)) (pe_glob (v := .int 8) rfl T.m_LONGEST_NAME T.r_LONGEST_NAME) (nomark _)))))
   (pss_one (ps_ret pe_bl))
   pss_nil)
   (pss_one (ps_ret (pe_callB (call_allU rfl) rfl T.n_all bt_all (pa_cons (pe_comp (own := ["sign"]) (cs := []) (cl := []) rfl (pi_str (pv 0)) (fun _ _ _ _ => (pg_name (i := 0) (show [("sign" : Str)].Nodup by decide) rfl (Or.inl rfl))) (fun _ _ _ _ => (pe_cmpR (op_inK (K := K) rfl) (pv 0) (pe_glob (v := .str "abcdefghijklmnopqrstuvwxyz") rfl T.m_SMALL_LETTERS T.r_SMALL_LETTERS) (by with_unfolding_all rfl))) rfl (by decide) rfl (by decide) hcl0 (hhas0 (by decide)) hcs0) pa_nil)))))), ?_⟩
 obtain ⟨hx, sz, k⟩ := h
 show tSeq _ _ _ [some x] H
 nofun
 refine ⟨_, hx.tyN, ?_⟩
 by_cases hs : ∃ z, d = .str z
 ·obtain ⟨z, rfl⟩ := hs
  simp only [Rep] at hx
  subst hx
  simp only [szD] at sz
  simp only [tyD, y80y, y4cy, y4dy, y4ey, y6fy, y2ay, y6ay, y7dy, y7ey, y44y, y2dy, y76y, y8cy, y2fy, y39y, y70y, y2ey, y85y, y23y, y28y, y77y, y72y, y29y, y78y, y74y, y58y, y8ey, y26y, y84y, y6ey, y67y, y49y, y66y, y7by, y32y, y47y, y6cy, y48y, y6dy, y46y, y6by, y87y, y62y, y5ey, y89y, y8by, y88y, y8ay, y25y, y65y, y24y, true_and, if_true, if_false, Bool.not_true, Bool.not_false, Bool.false_eq_true, yby, ydy, yay, ycy, yey, y15y, y17y, y14y, y16y, y18y, y6y, y8y, y5y, y7y, y9y, y1y, y3y, y0y, y2y, y4y, y10y, y12y, yfy, y11y, y13y, y1ay, y1cy, y19y, y1by, y1dy, y1fy, y21y, y1ey, y20y, y22y, y82y, y7ay, y71y, y30y, y31y, y52y, y60y, y61y, y4by, y83y, y86y, y8fy, y7cy, y27y, V.int.injEq, V.str.injEq, List.set_cons_zero, List.set_cons_succ, List.getElem?_cons_zero, List.getElem?_cons_succ, Option.some.injEq, exists_eq_left, exists_eq_left', V.bl.injEq, Int.reduceToNat, Int.reducePow, List.append_nil, List.nil_append, List.cons_append, y54y, y56y, y2by, y2cy, y68y, y5dy, y73y, y63y, y64y, y3ay, y3by, y3cy, y43y, y45y, y3ey, y79y, y40y, y3fy, y33y, y35y, y37y, y3dy, y41y, y4fy, y50y, y59y, y93y, y94y, y90y, y91y, y92y, reduceCtorEq, decide_false, decide_true]
  have hz : z.length ≤ sizeLine := Nat.le_trans sz (by decide)
  simp only [nameB, nameS] at k
  refine ⟨hz, ?_⟩
  nofun
  by_cases c1 : z.length < 1
  ·rw [if_pos (by simp; omega)]
   nofun
   have e : decide (1 ≤ z.length) = false := by simp; omega
   rw [e] at k
   exact k H (.refl H)
  ·rw [if_neg (by simp; omega)]
   nofun
   have e : decide (1 ≤ z.length) = true := by simp; omega
   rw [e] at k
   refine ⟨hz, ?_⟩
   nofun
   by_cases c2 : 8 < z.length
   ·rw [if_pos (by simp; omega)]
    nofun
    have e : decide (z.length ≤ 8) = false := by simp; omega
    rw [e] at k
    exact k H (.refl H)
   ·rw [if_neg (by simp; omega)]
    nofun
    have e : decide (z.length ≤ 8) = true := by simp; omega
    rw [e] at k
    nofun
    simp only [tComp, iStr, y80y, y4cy, y4dy, y4ey, y6fy, y2ay, y6ay, y7dy, y7ey, y44y, y2dy, y76y, y8cy, y2fy, y39y, y70y, y2ey, y85y, y23y, y28y, y77y, y72y, y29y, y78y, y74y, y58y, y8ey, y26y, y84y, y6ey, y67y, y49y, y66y, y7by, y32y, y47y, y6cy, y48y, y6dy, y46y, y6by, y87y, y62y, y5ey, y89y, y8by, y88y, y8ay, y25y, y65y, y24y, true_and, if_true, if_false, Bool.not_true, Bool.not_false, Bool.false_eq_true, yby, ydy, yay, ycy, yey, y15y, y17y, y14y, y16y, y18y, y6y, y8y, y5y, y7y, y9y, y1y, y3y, y0y, y2y, y4y, y10y, y12y, yfy, y11y, y13y, y1ay, y1cy, y19y, y1by, y1dy, y1fy, y21y, y1ey, y20y, y22y, y82y, y7ay, y71y, y30y, y31y, y52y, y60y, y61y, y4by, y83y, y86y, y8fy, y7cy, y27y, V.int.injEq, V.str.injEq, List.set_cons_zero, List.set_cons_succ, List.getElem?_cons_zero, List.getElem?_cons_succ, Option.some.injEq, exists_eq_left, exists_eq_left', V.bl.injEq, Int.reduceToNat, Int.reducePow, List.append_nil, List.nil_append, List.cons_append, y54y, y56y, y2by, y2cy, y68y, y5dy, y73y, y63y, y64y, y3ay, y3by, y3cy, y43y, y45y, y3ey, y79y, y40y, y3fy, y33y, y35y, y37y, y3dy, y41y, y4fy, y50y, y59y, y93y, y94y, y90y, y91y, y92y, reduceCtorEq, decide_false, decide_true]
    refine ⟨fun i m ys H2 => H2 = H ∧ i ≤ z.cps.size ∧ m = z.cps.size - i ∧ ys = (z.cps.toList.take i).map fun c => V.bl (lowB c), ⟨_, rfl, Nat.zero_le _, rfl, by simp⟩, ?_⟩
    rintro i m ys H2 ⟨rfl, hi, rfl, rfl⟩
    have lz : z.cps.size = z.length := rfl
    refine ⟨by simp; omega, ?_⟩
    by_cases lt : i < z.cps.size
    ·refine .inr ⟨lt, ?_⟩
     rintro x H3 ⟨rfl, c, hc, rfl⟩
     simp only [List.length_singleton, List.replicate, capsAt, List.map_nil, y80y, y4cy, y4dy, y4ey, y6fy, y2ay, y6ay, y7dy, y7ey, y44y, y2dy, y76y, y8cy, y2fy, y39y, y70y, y2ey, y85y, y23y, y28y, y77y, y72y, y29y, y78y, y74y, y58y, y8ey, y26y, y84y, y6ey, y67y, y49y, y66y, y7by, y32y, y47y, y6cy, y48y, y6dy, y46y, y6by, y87y, y62y, y5ey, y89y, y8by, y88y, y8ay, y25y, y65y, y24y, true_and, if_true, if_false, Bool.not_true, Bool.not_false, Bool.false_eq_true, yby, ydy, yay, ycy, yey, y15y, y17y, y14y, y16y, y18y, y6y, y8y, y5y, y7y, y9y, y1y, y3y, y0y, y2y, y4y, y10y, y12y, yfy, y11y, y13y, y1ay, y1cy, y19y, y1by, y1dy, y1fy, y21y, y1ey, y20y, y22y, y82y, y7ay, y71y, y30y, y31y, y52y, y60y, y61y, y4by, y83y, y86y, y8fy, y7cy, y27y, V.int.injEq, V.str.injEq, List.set_cons_zero, List.set_cons_succ, List.getElem?_cons_zero, List.getElem?_cons_succ, Option.some.injEq, exists_eq_left, exists_eq_left', V.bl.injEq, Int.reduceToNat, Int.reducePow, List.append_nil, List.nil_append, List.cons_append, y54y, y56y, y2by, y2cy, y68y, y5dy, y73y, y63y, y64y, y3ay, y3by, y3cy, y43y, y45y, y3ey, y79y, y40y, y3fy, y33y, y35y, y37y, y3dy, y41y, y4fy, y50y, y59y, y93y, y94y, y90y, y91y, y92y, reduceCtorEq, decide_false, decide_true, y5ay, in_letters]
     refine ⟨_, Nat.sub_lt_sub_left lt (Nat.lt_succ_self i), lt, rfl, ?_⟩
     have hc' : z.cps.toList[i]? = some c := by simpa using hc
     rw [List.take_succ, hc']
     simp
    ·have ei : i = z.cps.size := by omega
     refine .inl ⟨ei, ?_⟩
     subst ei
     rw [List.take_of_length_le (by simp)]
     intro p hp
     generalize qp : upd H2 p _ = H3
     have S := newS hp qp
     have e3 := newE qp
     refine ⟨p, z.cps.toList.map lowB, rfl, SqL.of (by rw [e3, List.map_map]; rfl), ?_⟩
     have := k H3 S
     simpa [List.all_map] using this
 ·have ef : nameB d = false := by cases d <;> first | rfl | exact absurd ⟨_, rfl⟩ hs
  rw [ef] at k
  have et : isiB (tyD d) "str" = false := by cases d <;> first | rfl | exact absurd ⟨_, rfl⟩ hs
  simp only [et, y80y, y4cy, y4dy, y4ey, y6fy, y2ay, y6ay, y7dy, y7ey, y44y, y2dy, y76y, y8cy, y2fy, y39y, y70y, y2ey, y85y, y23y, y28y, y77y, y72y, y29y, y78y, y74y, y58y, y8ey, y26y, y84y, y6ey, y67y, y49y, y66y, y7by, y32y, y47y, y6cy, y48y, y6dy, y46y, y6by, y87y, y62y, y5ey, y89y, y8by, y88y, y8ay, y25y, y65y, y24y, true_and, if_true, if_false, Bool.not_true, Bool.not_false, Bool.false_eq_true, yby, ydy, yay, ycy, yey, y15y, y17y, y14y, y16y, y18y, y6y, y8y, y5y, y7y, y9y, y1y, y3y, y0y, y2y, y4y, y10y, y12y, yfy, y11y, y13y, y1ay, y1cy, y19y, y1by, y1dy, y1fy, y21y, y1ey, y20y, y22y, y82y, y7ay, y71y, y30y, y31y, y52y, y60y, y61y, y4by, y83y, y86y, y8fy, y7cy, y27y, V.int.injEq, V.str.injEq, List.set_cons_zero, List.set_cons_succ, List.getElem?_cons_zero, List.getElem?_cons_succ, Option.some.injEq, exists_eq_left, exists_eq_left', V.bl.injEq, Int.reduceToNat, Int.reducePow, List.append_nil, List.nil_append, List.cons_append, y54y, y56y, y2by, y2cy, y68y, y5dy, y73y, y63y, y64y, y3ay, y3by, y3cy, y43y, y45y, y3ey, y79y, y40y, y3fy, y33y, y35y, y37y, y3dy, y41y, y4fy, y50y, y59y, y93y, y94y, y90y, y91y, y92y, reduceCtorEq, decide_false, decide_true]
  exact k H (.refl H)
abbrev s_is_whole : Stmt := top 20
theorem sc_is_whole : FnScope ["thing"] ["thing"] (defScope s_is_whole) := ⟨rfl, rfl, rfl, by decide +kernel, rfl, by decide +kernel, by decide +kernel⟩
def sp_is_whole (K : PySem.W.Frag) : Sp := fun vs H Q E => ∃ (x : V) (d : D), vs = [x] ∧ Rep K H d x ∧ Q (.bl (wholeB d)) H
theorem ok_is_whole {f : Addr} {fd : FuncData} {dV : Value} (F : FunD K "is_whole" "is_whole" s_is_whole dV f fd) (T : Txt K mg Ad)  : FnOk P w K mg base (CX1 P w) 1 f fd ["thing"] (sp_is_whole K) := by
 refine F.okn sc_is_whole (fun vs H Q E h => ?_) (fun cdv A outer s H vs Q E hr h => ?_)
 ·obtain ⟨x, d, rfl, _⟩ := h; rfl
 obtain ⟨x, d, rfl, h⟩ := h
 have hu := hr.units
 refine ⟨_, (pss_one (ps_ret (pe_and (pe_callB call_isinstanceU rfl T.n_isinstance bt_isinstance (pa_cons (pv 0) (pa_cons (pe_bltn (v := .ty "int") rfl T.n_int bt_int rfl) pa_nil))) (pe_one (pe_not (pe_callB call_isinstanceU rfl T.n_isinstance bt_isinstance (pa_cons (pv 0) (pa_cons (pe_bltn (v := .ty "bool") rfl T.n_bool bt_bool rfl) pa_nil)))))))), ?_⟩
 obtain ⟨hx, k⟩ := h
 show tRet _ _ [some x] H
 nofun
 refine ⟨_, hx.tyN, ?_⟩
 have hty := hx.tyN
 cases d <;> simp only [tyD, wholeB, y80y, y4cy, y4dy, y4ey, y6fy, y2ay, y6ay, y7dy, y7ey, y44y, y2dy, y76y, y8cy, y2fy, y39y, y70y, y2ey, y85y, y23y, y28y, y77y, y72y, y29y, y78y, y74y, y58y, y8ey, y26y, y84y, y6ey, y67y, y49y, y66y, y7by, y32y, y47y, y6cy, y48y, y6dy, y46y, y6by, y87y, y62y, y5ey, y89y, y8by, y88y, y8ay, y25y, y65y, y24y, true_and, if_true, if_false, Bool.not_true, Bool.not_false, Bool.false_eq_true, yby, ydy, yay, ycy, yey, y15y, y17y, y14y, y16y, y18y, y6y, y8y, y5y, y7y, y9y, y1y, y3y, y0y, y2y, y4y, y10y, y12y, yfy, y11y, y13y, y1ay, y1cy, y19y, y1by, y1dy, y1fy, y21y, y1ey, y20y, y22y, y82y, y7ay, y71y, y30y, y31y, y52y, y60y, y61y, y4by, y83y, y86y, y8fy, y7cy, y27y, V.int.injEq, V.str.injEq, List.set_cons_zero, List.set_cons_succ, List.getElem?_cons_zero, List.getElem?_cons_succ, Option.some.injEq, exists_eq_left, exists_eq_left', V.bl.injEq, Int.reduceToNat, Int.reducePow, List.append_nil, List.nil_append, List.cons_append, y54y, y56y, y2by, y2cy, y68y, y5dy, y73y, y63y, y64y, y3ay, y3by, y3cy, y43y, y45y, y3ey, y79y, y40y, y3fy, y33y, y35y, y37y, y3dy, y41y, y4fy, y50y, y59y, y93y, y94y, y90y, y91y, y92y, reduceCtorEq, decide_false, decide_true] at k hty ⊢ <;> first | exact k | exact ⟨_, hty, by simpa only [y80y, y4cy, y4dy, y4ey, y6fy, y2ay, y6ay, y7dy, y7ey, y44y, y2dy, y76y, y8cy, y2fy, y39y, y70y, y2ey, y85y, y23y, y28y, y77y, y72y, y29y, y78y, y74y, y58y, y8ey, y26y, y84y, y6ey, y67y, y49y, y66y, y7by, y32y, y47y, y6cy, y48y, y6dy, y46y, y6by, y87y, y62y, y5ey, y89y, y8by, y88y, y8ay, y25y, y65y, y24y, true_and, if_true, if_false, Bool.not_true, Bool.not_false, Bool.false_eq_true, yby, ydy, yay, ycy, yey, y15y, y17y, y14y, y16y, y18y, y6y, y8y, y5y, y7y, y9y, y1y, y3y, y0y, y2y, y4y, y10y, y12y, yfy, y11y, y13y, y1ay, y1cy, y19y, y1by, y1dy, y1fy, y21y, y1ey, y20y, y22y, y82y, y7ay, y71y, y30y, y31y, y52y, y60y, y61y, y4by, y83y, y86y, y8fy, y7cy, y27y, V.int.injEq, V.str.injEq, List.set_cons_zero, List.set_cons_succ, List.getElem?_cons_zero, List.getElem?_cons_succ, Option.some.injEq, exists_eq_left, exists_eq_left', V.bl.injEq, Int.reduceToNat, Int.reducePow, List.append_nil, List.nil_append, List.cons_append, y54y, y56y, y2by, y2cy, y68y, y5dy, y73y, y63y, y64y, y3ay, y3by, y3cy, y43y, y45y, y3ey, y79y, y40y, y3fy, y33y, y35y, y37y, y3dy, y41y, y4fy, y50y, y59y, y93y, y94y, y90y, y91y, y92y, reduceCtorEq, decide_false, decide_true] using k⟩
abbrev s_is_fraction : Stmt := top 21
theorem sc_is_fraction : FnScope ["thing"] ["thing"] (defScope s_is_fraction) := ⟨rfl, rfl, rfl, by decide +kernel, rfl, by decide +kernel, by decide +kernel⟩
def sp_is_fraction (K : PySem.W.Frag) : Sp := fun vs H Q E => ∃ (x : V) (d : D), vs = [x] ∧ Rep K H d x ∧ Q (.bl (fracB d)) H
theorem ok_is_fraction {f : Addr} {fd : FuncData} {dV : Value} (F : FunD K "is_fraction" "is_fraction" s_is_fraction dV f fd) (T : Txt K mg Ad) (c_is_whole : Cal P w K mg base 1 "is_whole" ["thing"] [] (sp_is_whole K)) (c_common_divisor : Cal P w K mg base 1 "common_divisor" ["one", "other"] [] (sp_common_divisor)) : FnOk P w K mg base (CX1 P w) 2 f fd ["thing"] (sp_is_fraction K) := by
 refine F.okn sc_is_fraction (fun vs H Q E h => ?_) (fun cdv A outer s H vs Q E hr h => ?_)
 ·obtain ⟨x, d, rfl, _⟩ := h; rfl
 obtain ⟨x, d, rfl, h⟩ := h
 have hu := hr.units
 refine ⟨_, (pss_cons (ps_if (PW.pt (pw_or (pt_not (pt_val (pe_callB call_isinstanceU rfl T.n_isinstance bt_isinstance (pa_cons (pv 0) (pa_cons (pe_bltn (v := .ty "tuple") rfl T.n_tuple bt_tuple rfl) pa_nil))))) (pw_or1 (pt_cmpR (op_neU hu) (pe_callB call_lenU rfl T.n_len bt_len (pa_cons (pv 0) pa_nil)) pe_int (nomark _)))))
   (pss_one (ps_ret pe_bl))
   pss_nil)
   (pss_cons (ps_if (PW.pt (pw_or (pt_not (pt_val (c_is_whole.ev hr (by decide) rfl passF (pa_cons (pe_ix ix_U (pv 0) pe_int (fun _ _ => rfl)) pa_nil)))) (pw_or1 (pt_not (pt_val (c_is_whole.ev hr (by decide) rfl passF (pa_cons (pe_ix ix_U (pv 0) pe_int (fun _ _ => rfl)) pa_nil)))))))
   (pss_one (ps_ret pe_bl))
   pss_nil)
   (pss_one (ps_ret (pe_and (pe_cmpR op_geU (pe_ix ix_U (pv 0) pe_int (fun _ _ => rfl)) pe_int (nomark _)) (pe_one (pe_cmpR (op_eqU hu) (c_common_divisor.ev hr (by decide) rfl passF (pa_cons (pe_ix ix_U (pv 0) pe_int (fun _ _ => rfl)) (pa_cons (pe_ix ix_U (pv 0) pe_int (fun _ _ => rfl)) pa_nil))) pe_int (nomark _)))))))), ?_⟩
 obtain ⟨hx, k⟩ := h
 show tSeq _ _ _ [some x] H
 nofun
 refine ⟨_, hx.tyN, ?_⟩
 by_cases ht : ∃ ds, d = .tup ds
 ·obtain ⟨ds, rfl⟩ := ht
  simp only [tyD, y80y, y4cy, y4dy, y4ey, y6fy, y2ay, y6ay, y7dy, y7ey, y44y, y2dy, y76y, y8cy, y2fy, y39y, y70y, y2ey, y85y, y23y, y28y, y77y, y72y, y29y, y78y, y74y, y58y, y8ey, y26y, y84y, y6ey, y67y, y49y, y66y, y7by, y32y, y47y, y6cy, y48y, y6dy, y46y, y6by, y87y, y62y, y5ey, y89y, y8by, y88y, y8ay, y25y, y65y, y24y, true_and, if_true, if_false, Bool.not_true, Bool.not_false, Bool.false_eq_true, yby, ydy, yay, ycy, yey, y15y, y17y, y14y, y16y, y18y, y6y, y8y, y5y, y7y, y9y, y1y, y3y, y0y, y2y, y4y, y10y, y12y, yfy, y11y, y13y, y1ay, y1cy, y19y, y1by, y1dy, y1fy, y21y, y1ey, y20y, y22y, y82y, y7ay, y71y, y30y, y31y, y52y, y60y, y61y, y4by, y83y, y86y, y8fy, y7cy, y27y, V.int.injEq, V.str.injEq, List.set_cons_zero, List.set_cons_succ, List.getElem?_cons_zero, List.getElem?_cons_succ, Option.some.injEq, exists_eq_left, exists_eq_left', V.bl.injEq, Int.reduceToNat, Int.reducePow, List.append_nil, List.nil_append, List.cons_append, y54y, y56y, y2by, y2cy, y68y, y5dy, y73y, y63y, y64y, y3ay, y3by, y3cy, y43y, y45y, y3ey, y79y, y40y, y3fy, y33y, y35y, y37y, y3dy, y41y, y4fy, y50y, y59y, y93y, y94y, y90y, y91y, y92y, reduceCtorEq, decide_false, decide_true]
  simp only [Rep] at hx
  obtain ⟨a, xs, rfl, hq, hr⟩ := hx
  have hl := hr.length
  refine ⟨xs, .inr hq, ?_⟩
  nofun
  by_cases h2 : ds.length = 2
  ·match ds, h2 with
   | [d0, d1], _ =>
    simp only [RepL] at hr
    obtain ⟨v0, r0, rfl, h0, v1, r1, rfl, h1, rfl⟩ := hr
    simp only [List.length_cons, List.length_nil, y80y, y4cy, y4dy, y4ey, y6fy, y2ay, y6ay, y7dy, y7ey, y44y, y2dy, y76y, y8cy, y2fy, y39y, y70y, y2ey, y85y, y23y, y28y, y77y, y72y, y29y, y78y, y74y, y58y, y8ey, y26y, y84y, y6ey, y67y, y49y, y66y, y7by, y32y, y47y, y6cy, y48y, y6dy, y46y, y6by, y87y, y62y, y5ey, y89y, y8by, y88y, y8ay, y25y, y65y, y24y, true_and, if_true, if_false, Bool.not_true, Bool.not_false, Bool.false_eq_true, yby, ydy, yay, ycy, yey, y15y, y17y, y14y, y16y, y18y, y6y, y8y, y5y, y7y, y9y, y1y, y3y, y0y, y2y, y4y, y10y, y12y, yfy, y11y, y13y, y1ay, y1cy, y19y, y1by, y1dy, y1fy, y21y, y1ey, y20y, y22y, y82y, y7ay, y71y, y30y, y31y, y52y, y60y, y61y, y4by, y83y, y86y, y8fy, y7cy, y27y, V.int.injEq, V.str.injEq, List.set_cons_zero, List.set_cons_succ, List.getElem?_cons_zero, List.getElem?_cons_succ, Option.some.injEq, exists_eq_left, exists_eq_left', V.bl.injEq, Int.reduceToNat, Int.reducePow, List.append_nil, List.nil_append, List.cons_append, y54y, y56y, y2by, y2cy, y68y, y5dy, y73y, y63y, y64y, y3ay, y3by, y3cy, y43y, y45y, y3ey, y79y, y40y, y3fy, y33y, y35y, y37y, y3dy, y41y, y4fy, y50y, y59y, y93y, y94y, y90y, y91y, y92y, reduceCtorEq, decide_false, decide_true]
    rw [if_neg (by simp)]
    nofun
    nofun
    refine ixT0 hq ?_
    refine ⟨v0, d0, rfl, h0, ?_⟩
    nofun
    by_cases w0 : wholeB d0 = true
    ·rw [if_neg (by simp [w0])]
     nofun
     refine ixT1 hq ?_
     refine ⟨v1, d1, rfl, h1, ?_⟩
     nofun
     by_cases w1 : wholeB d1 = true
     ·rw [if_neg (by simp [w1])]
      nofun
      obtain ⟨i, rfl⟩ : ∃ i, d0 = .int i := by cases d0 <;> simp [wholeB] at w0; exact ⟨_, rfl⟩
      obtain ⟨j, rfl⟩ : ∃ j, d1 = .int j := by cases d1 <;> simp [wholeB] at w1; exact ⟨_, rfl⟩
      simp only [Rep] at h0 h1
      subst h0 h1
      simp only [fracB] at k
      nofun
      refine ixT1 hq ?_
      nofun
      by_cases c : 1 ≤ j
      ·rw [if_pos (by simpa using c)]
       nofun
       refine ixT0 hq (ixT1 hq ?_)
       refine ⟨_, _, rfl, ?_⟩
       nofun
       simpa [c] using k
      ·rw [if_neg (by simpa using c)]
       nofun
       simpa [c] using k
     ·rw [if_pos (by simp [w1])]
      nofun
      nofun
      have ef : fracB (.tup [d0, d1]) = false := by cases d0 <;> cases d1 <;> simp_all [fracB, wholeB]
      rw [ef] at k
      exact k
    ·rw [if_pos (by simp [w0])]
     nofun
     nofun
     have ef : fracB (.tup [d0, d1]) = false := by cases d0 <;> cases d1 <;> simp_all [fracB, wholeB]
     rw [ef] at k
     exact k
  ·rw [if_pos (by simp; omega)]
   nofun
   have ef : fracB (.tup ds) = false := by
    unfold fracB
    split
    ·rename_i e; cases e; simp at h2
    ·rfl
   rw [ef] at k
   nofun
   exact k
 ·have ef : fracB d = false := by cases d <;> first | rfl | exact absurd ⟨_, rfl⟩ ht
  rw [ef] at k
  have et : isiB (tyD d) "tuple" = false := by cases d <;> first | rfl | exact absurd ⟨_, rfl⟩ ht
  simp only [et, y80y, y4cy, y4dy, y4ey, y6fy, y2ay, y6ay, y7dy, y7ey, y44y, y2dy, y76y, y8cy, y2fy, y39y, y70y, y2ey, y85y, y23y, y28y, y77y, y72y, y29y, y78y, y74y, y58y, y8ey, y26y, y84y, y6ey, y67y, y49y, y66y, y7by, y32y, y47y, y6cy, y48y, y6dy, y46y, y6by, y87y, y62y, y5ey, y89y, y8by, y88y, y8ay, y25y, y65y, y24y, true_and, if_true, if_false, Bool.not_true, Bool.not_false, Bool.false_eq_true, yby, ydy, yay, ycy, yey, y15y, y17y, y14y, y16y, y18y, y6y, y8y, y5y, y7y, y9y, y1y, y3y, y0y, y2y, y4y, y10y, y12y, yfy, y11y, y13y, y1ay, y1cy, y19y, y1by, y1dy, y1fy, y21y, y1ey, y20y, y22y, y82y, y7ay, y71y, y30y, y31y, y52y, y60y, y61y, y4by, y83y, y86y, y8fy, y7cy, y27y, V.int.injEq, V.str.injEq, List.set_cons_zero, List.set_cons_succ, List.getElem?_cons_zero, List.getElem?_cons_succ, Option.some.injEq, exists_eq_left, exists_eq_left', V.bl.injEq, Int.reduceToNat, Int.reducePow, List.append_nil, List.nil_append, List.cons_append, y54y, y56y, y2by, y2cy, y68y, y5dy, y73y, y63y, y64y, y3ay, y3by, y3cy, y43y, y45y, y3ey, y79y, y40y, y3fy, y33y, y35y, y37y, y3dy, y41y, y4fy, y50y, y59y, y93y, y94y, y90y, y91y, y92y, reduceCtorEq, decide_false, decide_true]
  exact k
abbrev s_is_bound : Stmt := top 22
theorem sc_is_bound : FnScope ["thing"] ["thing"] (defScope s_is_bound) := ⟨rfl, rfl, rfl, by decide +kernel, rfl, by decide +kernel, by decide +kernel⟩
def sp_is_bound (K : PySem.W.Frag) : Sp := fun vs H Q E => ∃ (x : V) (d : D), vs = [x] ∧ Rep K H d x ∧ Q (.bl (boundB d)) H
theorem ok_is_bound {f : Addr} {fd : FuncData} {dV : Value} (F : FunD K "is_bound" "is_bound" s_is_bound dV f fd) (T : Txt K mg Ad) (c_is_fraction : Cal P w K mg base 2 "is_fraction" ["thing"] [] (sp_is_fraction K)) : FnOk P w K mg base (CX1 P w) 3 f fd ["thing"] (sp_is_bound K) := by
 refine F.okn sc_is_bound (fun vs H Q E h => ?_) (fun cdv A outer s H vs Q E hr h => ?_)
 ·obtain ⟨x, d, rfl, _⟩ := h; rfl
 obtain ⟨x, d, rfl, h⟩ := h
 have hu := hr.units
 refine ⟨_, (pss_one (ps_ret (pe_or (pe_cmpR op_isNU (pv 0) pe_non (nomark _)) (pe_one (c_is_fraction.ev hr (by decide) rfl passF (pa_cons (pv 0) pa_nil)))))), ?_⟩
 obtain ⟨hx, k⟩ := h
 show tRet _ _ [some x] H
 nofun
 by_cases hn : d = .non
 ·subst hn
  simp only [Rep] at hx
  subst hx
  simp only [decide_true, y80y, y4cy, y4dy, y4ey, y6fy, y2ay, y6ay, y7dy, y7ey, y44y, y2dy, y76y, y8cy, y2fy, y39y, y70y, y2ey, y85y, y23y, y28y, y77y, y72y, y29y, y78y, y74y, y58y, y8ey, y26y, y84y, y6ey, y67y, y49y, y66y, y7by, y32y, y47y, y6cy, y48y, y6dy, y46y, y6by, y87y, y62y, y5ey, y89y, y8by, y88y, y8ay, y25y, y65y, y24y, true_and, if_true, if_false, Bool.not_true, Bool.not_false, Bool.false_eq_true, yby, ydy, yay, ycy, yey, y15y, y17y, y14y, y16y, y18y, y6y, y8y, y5y, y7y, y9y, y1y, y3y, y0y, y2y, y4y, y10y, y12y, yfy, y11y, y13y, y1ay, y1cy, y19y, y1by, y1dy, y1fy, y21y, y1ey, y20y, y22y, y82y, y7ay, y71y, y30y, y31y, y52y, y60y, y61y, y4by, y83y, y86y, y8fy, y7cy, y27y, V.int.injEq, V.str.injEq, List.set_cons_zero, List.set_cons_succ, List.getElem?_cons_zero, List.getElem?_cons_succ, Option.some.injEq, exists_eq_left, exists_eq_left', V.bl.injEq, Int.reduceToNat, Int.reducePow, List.append_nil, List.nil_append, List.cons_append, y54y, y56y, y2by, y2cy, y68y, y5dy, y73y, y63y, y64y, y3ay, y3by, y3cy, y43y, y45y, y3ey, y79y, y40y, y3fy, y33y, y35y, y37y, y3dy, y41y, y4fy, y50y, y59y, y93y, y94y, y90y, y91y, y92y, reduceCtorEq, decide_false, decide_true]
  exact k
 ·have xn : x ≠ .non := by
   rintro rfl
   cases d <;> simp [Rep] at hx
   exact hn rfl
  rw [if_neg (by simpa using xn)]
  nofun
  have ef : boundB d = fracB d := by cases d <;> first | rfl | exact absurd rfl hn
  rw [ef] at k
  exact ⟨x, d, rfl, hx, k⟩
abbrev s_are_faces : Stmt := top 23
theorem sc_are_faces : FnScope ["one", "other"] ["one", "other"] (defScope s_are_faces) := ⟨rfl, rfl, rfl, by decide +kernel, rfl, by decide +kernel, by decide +kernel⟩
def sp_are_faces (K : PySem.W.Frag) : Sp := fun vs H Q E => ∃ (x y : V) (d e : D), vs = [x, y] ∧ Rep K H d x ∧ Rep K H e y ∧ szD d ∧ szD e ∧ ∀ H', Same H H' → Q (.bl (facesB d e)) H'
theorem ok_are_faces {f : Addr} {fd : FuncData} {dV : Value} (F : FunD K "are_faces" "are_faces" s_are_faces dV f fd) (T : Txt K mg Ad) (c_is_name : Cal P w K mg base 1 "is_name" ["thing"] [] (sp_is_name K)) : FnOk P w K mg base (CX1 P w) 2 f fd ["one", "other"] (sp_are_faces K) := by
 refine F.okn sc_are_faces (fun vs H Q E h => ?_) (fun cdv A outer s H vs Q E hr h => ?_)
 ·obtain ⟨x, y, d, e, rfl, _⟩ := h; rfl
 obtain ⟨x, y, d, e, rfl, h⟩ := h
 have hu := hr.units
 refine ⟨_, (pss_one (ps_ret (pe_and (c_is_name.ev hr (by decide) rfl passF (pa_cons (pv 0) pa_nil)) (pe_and (c_is_name.ev hr (by decide) rfl passF (pa_cons (pv 1) pa_nil)) (pe_one (pe_cmpR (op_neU hu) (pv 0) (pv 1) (nomark _))))))), ?_⟩
 obtain ⟨hx, hy, sx, sy, k⟩ := h
 show tRet _ _ [some x, some y] H
 nofun
 refine ⟨x, d, rfl, hx, sx, fun H1 S1 => ?_⟩
 nofun
 unfold facesB at k
 by_cases c1 : nameB d = true
 ·rw [if_pos c1]
  nofun
  refine ⟨y, e, rfl, hy.same S1, sy, fun H2 S2 => ?_⟩
  nofun
  by_cases c2 : nameB e = true
  ·rw [if_pos c2]
   nofun
   obtain ⟨z, rfl, _⟩ := name_shape c1
   obtain ⟨z', rfl, _⟩ := name_shape c2
   have e1 := hx.str
   have e2 := hy.str
   subst e1 e2
   nofun
   have := k H2 (S1.trans S2)
   rw [c1, c2] at this
   simpa [eqD, BEq.beq] using this
  ·rw [if_neg c2]
   nofun
   have := k H2 (S1.trans S2)
   have e2 : nameB e = false := by simpa using c2
   rw [c1, e2] at this
   exact this
 ·rw [if_neg c1]
  nofun
  have := k H1 S1
  have e1 : nameB d = false := by simpa using c1
  rw [e1] at this
  exact this
abbrev s_are_bounds : Stmt := top 24
theorem sc_are_bounds : FnScope ["least", "greatest"] ["least", "greatest"] (defScope s_are_bounds) := ⟨rfl, rfl, rfl, by decide +kernel, rfl, by decide +kernel, by decide +kernel⟩
def sp_are_bounds (K : PySem.W.Frag) : Sp := fun vs H Q E => ∃ (x y : V) (d e : D), vs = [x, y] ∧ Rep K H d x ∧ Rep K H e y ∧ szD d ∧ szD e ∧ Q (.bl (boundsB d e)) H
theorem ok_are_bounds {f : Addr} {fd : FuncData} {dV : Value} (F : FunD K "are_bounds" "are_bounds" s_are_bounds dV f fd) (T : Txt K mg Ad) (c_is_bound : Cal P w K mg base 3 "is_bound" ["thing"] [] (sp_is_bound K)) (c_under : Cal P w K mg base 1 "under" ["one", "other"] [] (sp_under K)) : FnOk P w K mg base (CX1 P w) 4 f fd ["least", "greatest"] (sp_are_bounds K) := by
 refine F.okn sc_are_bounds (fun vs H Q E h => ?_) (fun cdv A outer s H vs Q E hr h => ?_)
 ·obtain ⟨x, y, d, e, rfl, _⟩ := h; rfl
 obtain ⟨x, y, d, e, rfl, h⟩ := h
 have hu := hr.units
 refine ⟨_, (pss_cons (ps_if (PW.pt (pw_or (pt_not (pt_val (c_is_bound.ev hr (by decide) rfl passF (pa_cons (pv 0) pa_nil)))) (pw_or1 (pt_not (pt_val (c_is_bound.ev hr (by decide) rfl passF (pa_cons (pv 1) pa_nil)))))))
   (pss_one (ps_ret pe_bl))
   pss_nil)
   (pss_cons (ps_if (PW.pt (pw_or (pt_cmpR op_isNU (pv 0) pe_non (nomark _)) (pw_or1 (pt_cmpR op_isNU (pv 1) pe_non (nomark _)))))
   (pss_one (ps_ret pe_bl))
   pss_nil)
   (pss_one (ps_ret (pe_not (c_under.ev hr (by decide) rfl passF (pa_cons (pv 1) (pa_cons (pv 0) pa_nil)))))))), ?_⟩
 obtain ⟨hx, hy, sx, sy, k⟩ := h
 show tSeq _ _ _ [some x, some y] H
 nofun
 unfold boundsB at k
 refine ⟨x, d, rfl, hx, ?_⟩
 nofun
 by_cases c1 : boundB d = true
 ·rw [if_neg (by simp [c1])]
  nofun
  refine ⟨y, e, rfl, hy, ?_⟩
  nofun
  by_cases c2 : boundB e = true
  ·rw [if_neg (by simp [c2])]
   nofun
   simp only [y80y, y4cy, y4dy, y4ey, y6fy, y2ay, y6ay, y7dy, y7ey, y44y, y2dy, y76y, y8cy, y2fy, y39y, y70y, y2ey, y85y, y23y, y28y, y77y, y72y, y29y, y78y, y74y, y58y, y8ey, y26y, y84y, y6ey, y67y, y49y, y66y, y7by, y32y, y47y, y6cy, y48y, y6dy, y46y, y6by, y87y, y62y, y5ey, y89y, y8by, y88y, y8ay, y25y, y65y, y24y, true_and, if_true, if_false, Bool.not_true, Bool.not_false, Bool.false_eq_true, yby, ydy, yay, ycy, yey, y15y, y17y, y14y, y16y, y18y, y6y, y8y, y5y, y7y, y9y, y1y, y3y, y0y, y2y, y4y, y10y, y12y, yfy, y11y, y13y, y1ay, y1cy, y19y, y1by, y1dy, y1fy, y21y, y1ey, y20y, y22y, y82y, y7ay, y71y, y30y, y31y, y52y, y60y, y61y, y4by, y83y, y86y, y8fy, y7cy, y27y, V.int.injEq, V.str.injEq, List.set_cons_zero, List.set_cons_succ, List.getElem?_cons_zero, List.getElem?_cons_succ, Option.some.injEq, exists_eq_left, exists_eq_left', V.bl.injEq, Int.reduceToNat, Int.reducePow, List.append_nil, List.nil_append, List.cons_append, y54y, y56y, y2by, y2cy, y68y, y5dy, y73y, y63y, y64y, y3ay, y3by, y3cy, y43y, y45y, y3ey, y79y, y40y, y3fy, y33y, y35y, y37y, y3dy, y41y, y4fy, y50y, y59y, y93y, y94y, y90y, y91y, y92y, reduceCtorEq, decide_false, decide_true, hx.nonV, hy.nonV]
   rw [c1, c2] at k
   by_cases n1 : d = .non
   ·rw [if_pos (by simp [n1, nonD])]
    nofun
    nofun
    have : lessD e d = false := by subst n1; unfold lessD; split <;> first | rfl | simp_all
    rw [this] at k
    exact k
   ·rw [if_neg (by simp [nonD_no n1])]
    nofun
    by_cases n2 : e = .non
    ·rw [if_pos (by simp [n2, nonD])]
     nofun
     nofun
     have : lessD e d = false := by subst n2; rfl
     rw [this] at k
     exact k
    ·rw [if_neg (by simp [nonD_no n2])]
     nofun
     nofun
     have f1 : fracB d = true := by cases d <;> first | exact c1 | exact absurd rfl n1
     have f2 : fracB e = true := by cases e <;> first | exact c2 | exact absurd rfl n2
     obtain ⟨a, b, rfl, _, _⟩ := frac_shape f1
     obtain ⟨a', b', rfl, _, _⟩ := frac_shape f2
     simp only [szD, szL] at sx sy
     refine ⟨y, x, a', b', a, b, rfl, FrV.of_rep hy, FrV.of_rep hx, sy.1, sy.2.1, sx.1, sx.2.1, ?_⟩
     nofun
     simpa [lessD] using k
  ·rw [if_pos (by simp [c2])]
   nofun
   nofun
   have e2 : boundB e = false := by simpa using c2
   rw [c1, e2] at k
   exact k
 ·rw [if_pos (by simp [c1])]
  nofun
  nofun
  have e1 : boundB d = false := by simpa using c1
  rw [e1] at k
  exact k
abbrev s_is_tie : Stmt := top 25
theorem sc_is_tie : FnScope ["thing"] ["thing"] (defScope s_is_tie) := ⟨rfl, rfl, rfl, by decide +kernel, rfl, by decide +kernel, by decide +kernel⟩
def sp_is_tie (K : PySem.W.Frag) : Sp := fun vs H Q E => ∃ (x : V) (d : D), vs = [x] ∧ Rep K H d x ∧ szD d ∧ ∀ H', Same H H' → Q (.bl (tieB d)) H'
theorem ok_is_tie {f : Addr} {fd : FuncData} {dV : Value} (F : FunD K "is_tie" "is_tie" s_is_tie dV f fd) (T : Txt K mg Ad) (c_is_name : Cal P w K mg base 1 "is_name" ["thing"] [] (sp_is_name K)) (c_are_faces : Cal P w K mg base 2 "are_faces" ["one", "other"] [] (sp_are_faces K)) (c_are_bounds : Cal P w K mg base 4 "are_bounds" ["least", "greatest"] [] (sp_are_bounds K)) : FnOk P w K mg base (CX1 P w) 5 f fd ["thing"] (sp_is_tie K) := by
 refine F.okn sc_is_tie (fun vs H Q E h => ?_) (fun cdv A outer s H vs Q E hr h => ?_)
 ·obtain ⟨x, d, rfl, _⟩ := h; rfl
 obtain ⟨x, d, rfl, h⟩ := h
 have hu := hr.units
 refine ⟨_, (pss_cons (ps_if (PW.pt (pw_or (pt_not (pt_val (pe_callB call_isinstanceU rfl T.n_isinstance bt_isinstance (pa_cons (pv 0) (pa_cons (pe_bltn (v := .ty "tuple") rfl T.n_tuple bt_tuple rfl) pa_nil))))) (pw_or1 (pt_cmpR (op_neU hu) (pe_callB call_lenU rfl T.n_len bt_len (pa_cons (pv 0) pa_nil)) pe_int (nomark _)))))
   (pss_one (ps_ret pe_bl))
   pss_nil)
   (pss_one (ps_ret (pe_and (c_is_name.ev hr (by decide) rfl passF (pa_cons (pe_ix ix_U (pv 0) pe_int (fun _ _ => rfl)) pa_nil)) (pe_and (c_are_faces.ev hr (by decide) rfl passF (pa_cons (pe_ix ix_U (pv 0) pe_int (fun _ _ => rfl)) (pa_cons (pe_ix ix_U (pv 0) pe_int (fun _ _ => rfl)) pa_nil))) (pe_one (c_are_bounds.ev hr (by decide) rfl passF (pa_cons (pe_ix ix_U (pv 0) pe_int (fun _ _ => rfl)) (pa_cons (pe_ix ix_U (pv 0) pe_int (fun _ _ => rfl)) pa_nil))))))))), ?_⟩
 obtain ⟨hx, sz, k⟩ := h
 show tSeq _ _ _ [some x] H
 nofun
 refine ⟨_, hx.tyN, ?_⟩
 by_cases ht : ∃ ds, d = .tup ds
 ·obtain ⟨ds, rfl⟩ := ht
  simp only [tyD, y80y, y4cy, y4dy, y4ey, y6fy, y2ay, y6ay, y7dy, y7ey, y44y, y2dy, y76y, y8cy, y2fy, y39y, y70y, y2ey, y85y, y23y, y28y, y77y, y72y, y29y, y78y, y74y, y58y, y8ey, y26y, y84y, y6ey, y67y, y49y, y66y, y7by, y32y, y47y, y6cy, y48y, y6dy, y46y, y6by, y87y, y62y, y5ey, y89y, y8by, y88y, y8ay, y25y, y65y, y24y, true_and, if_true, if_false, Bool.not_true, Bool.not_false, Bool.false_eq_true, yby, ydy, yay, ycy, yey, y15y, y17y, y14y, y16y, y18y, y6y, y8y, y5y, y7y, y9y, y1y, y3y, y0y, y2y, y4y, y10y, y12y, yfy, y11y, y13y, y1ay, y1cy, y19y, y1by, y1dy, y1fy, y21y, y1ey, y20y, y22y, y82y, y7ay, y71y, y30y, y31y, y52y, y60y, y61y, y4by, y83y, y86y, y8fy, y7cy, y27y, V.int.injEq, V.str.injEq, List.set_cons_zero, List.set_cons_succ, List.getElem?_cons_zero, List.getElem?_cons_succ, Option.some.injEq, exists_eq_left, exists_eq_left', V.bl.injEq, Int.reduceToNat, Int.reducePow, List.append_nil, List.nil_append, List.cons_append, y54y, y56y, y2by, y2cy, y68y, y5dy, y73y, y63y, y64y, y3ay, y3by, y3cy, y43y, y45y, y3ey, y79y, y40y, y3fy, y33y, y35y, y37y, y3dy, y41y, y4fy, y50y, y59y, y93y, y94y, y90y, y91y, y92y, reduceCtorEq, decide_false, decide_true]
  simp only [Rep] at hx
  obtain ⟨a, xs, rfl, hq, hr⟩ := hx
  have hl := hr.length
  refine ⟨xs, .inr hq, ?_⟩
  nofun
  by_cases h5 : ds.length = 5
  ·match ds, h5 with
   | [d0, d1, d2, d3, d4], _ =>
    simp only [RepL] at hr
    obtain ⟨v0, r0, rfl, h0, v1, r1, rfl, h1, v2, r2, rfl, h2, v3, r3, rfl, h3, v4, r4, rfl, h4, rfl⟩ := hr
    simp only [szD, szL] at sz
    obtain ⟨s0, s1, s2, s3, s4, _⟩ := sz
    simp only [tieB] at k
    simp only [List.length_cons, List.length_nil, y80y, y4cy, y4dy, y4ey, y6fy, y2ay, y6ay, y7dy, y7ey, y44y, y2dy, y76y, y8cy, y2fy, y39y, y70y, y2ey, y85y, y23y, y28y, y77y, y72y, y29y, y78y, y74y, y58y, y8ey, y26y, y84y, y6ey, y67y, y49y, y66y, y7by, y32y, y47y, y6cy, y48y, y6dy, y46y, y6by, y87y, y62y, y5ey, y89y, y8by, y88y, y8ay, y25y, y65y, y24y, true_and, if_true, if_false, Bool.not_true, Bool.not_false, Bool.false_eq_true, yby, ydy, yay, ycy, yey, y15y, y17y, y14y, y16y, y18y, y6y, y8y, y5y, y7y, y9y, y1y, y3y, y0y, y2y, y4y, y10y, y12y, yfy, y11y, y13y, y1ay, y1cy, y19y, y1by, y1dy, y1fy, y21y, y1ey, y20y, y22y, y82y, y7ay, y71y, y30y, y31y, y52y, y60y, y61y, y4by, y83y, y86y, y8fy, y7cy, y27y, V.int.injEq, V.str.injEq, List.set_cons_zero, List.set_cons_succ, List.getElem?_cons_zero, List.getElem?_cons_succ, Option.some.injEq, exists_eq_left, exists_eq_left', V.bl.injEq, Int.reduceToNat, Int.reducePow, List.append_nil, List.nil_append, List.cons_append, y54y, y56y, y2by, y2cy, y68y, y5dy, y73y, y63y, y64y, y3ay, y3by, y3cy, y43y, y45y, y3ey, y79y, y40y, y3fy, y33y, y35y, y37y, y3dy, y41y, y4fy, y50y, y59y, y93y, y94y, y90y, y91y, y92y, reduceCtorEq, decide_false, decide_true]
    rw [if_neg (by simp)]
    nofun
    nofun
    refine ixT (i := 0) hq rfl ?_
    refine ⟨v0, d0, rfl, h0, s0, fun H1 S1 => ?_⟩
    nofun
    by_cases c0 : nameB d0 = true
    ·rw [if_pos c0]
     nofun
     rw [c0] at k
     refine ixT (i := 1) (hq.same S1) rfl ?_
     refine ixT (i := 2) (hq.same S1) rfl ?_
     refine ⟨v1, v2, d1, d2, rfl, h1.same S1, h2.same S1, s1, s2, fun H2 S2 => ?_⟩
     nofun
     have S12 := S1.trans S2
     by_cases c1 : facesB d1 d2 = true
     ·rw [if_pos c1]
      nofun
      rw [c1] at k
      refine ixT (i := 3) (hq.same S12) rfl ?_
      refine ixT (i := 4) (hq.same S12) rfl ?_
      exact ⟨v3, v4, d3, d4, rfl, h3.same S12, h4.same S12, s3, s4, k H2 S12⟩
     ·rw [if_neg c1]
      nofun
      have e1 : facesB d1 d2 = false := by simpa using c1
      rw [e1] at k
      exact k H2 S12
    ·rw [if_neg c0]
     nofun
     have e0 : nameB d0 = false := by simpa using c0
     rw [e0] at k
     exact k H1 S1
  ·rw [if_pos (by simp; omega)]
   nofun
   have ef : tieB (.tup ds) = false := by
    unfold tieB
    split
    ·rename_i e; cases e; simp at h5
    ·rfl
   rw [ef] at k
   nofun
   exact k H (.refl H)
 ·have ef : tieB d = false := by cases d <;> first | rfl | exact absurd ⟨_, rfl⟩ ht
  rw [ef] at k
  have et : isiB (tyD d) "tuple" = false := by cases d <;> first | rfl | exact absurd ⟨_, rfl⟩ ht
  simp only [et, y80y, y4cy, y4dy, y4ey, y6fy, y2ay, y6ay, y7dy, y7ey, y44y, y2dy, y76y, y8cy, y2fy, y39y, y70y, y2ey, y85y, y23y, y28y, y77y, y72y, y29y, y78y, y74y, y58y, y8ey, y26y, y84y, y6ey, y67y, y49y, y66y, y7by, y32y, y47y, y6cy, y48y, y6dy, y46y, y6by, y87y, y62y, y5ey, y89y, y8by, y88y, y8ay, y25y, y65y, y24y, true_and, if_true, if_false, Bool.not_true, Bool.not_false, Bool.false_eq_true, yby, ydy, yay, ycy, yey, y15y, y17y, y14y, y16y, y18y, y6y, y8y, y5y, y7y, y9y, y1y, y3y, y0y, y2y, y4y, y10y, y12y, yfy, y11y, y13y, y1ay, y1cy, y19y, y1by, y1dy, y1fy, y21y, y1ey, y20y, y22y, y82y, y7ay, y71y, y30y, y31y, y52y, y60y, y61y, y4by, y83y, y86y, y8fy, y7cy, y27y, V.int.injEq, V.str.injEq, List.set_cons_zero, List.set_cons_succ, List.getElem?_cons_zero, List.getElem?_cons_succ, Option.some.injEq, exists_eq_left, exists_eq_left', V.bl.injEq, Int.reduceToNat, Int.reducePow, List.append_nil, List.nil_append, List.cons_append, y54y, y56y, y2by, y2cy, y68y, y5dy, y73y, y63y, y64y, y3ay, y3by, y3cy, y43y, y45y, y3ey, y79y, y40y, y3fy, y33y, y35y, y37y, y3dy, y41y, y4fy, y50y, y59y, y93y, y94y, y90y, y91y, y92y, reduceCtorEq, decide_false, decide_true]
  exact k H (.refl H)
abbrev s_Partuu_inituu : Stmt := inClass (top 29) 0
theorem sc_Partuu_inituu : FnScope ["self", "row"] ["self", "row"] (defScope s_Partuu_inituu) := ⟨rfl, rfl, rfl, by decide +kernel, rfl, by decide +kernel, by decide +kernel⟩
def sp_Partuu_inituu (K : PySem.W.Frag) : Sp := fun vs H Q E => ∃ (x C dx a : Addr) (n st en z m wt : V), vs = [.ref x, .ref a] ∧ H x = some (.ins C dx []) ∧ PartC K C ∧ SqT K H a [n, st, en, z, m, wt] ∧ ∀ H', H' x = some (.ins C dx (partF n st en z m wt)) → (∀ b, b ≠ x → H' b = H b) → Q .non H'
theorem ok_Partuu_inituu {f : Addr} {fd : FuncData} {dV : Value} (F : FunD K "__init__" "Part.__init__" s_Partuu_inituu dV f fd) (T : Txt K mg Ad)  : FnOk P w K mg base (CX1 P w) 1 f fd ["self", "row"] (sp_Partuu_inituu K) := by
 refine F.okn sc_Partuu_inituu (fun vs H Q E h => ?_) (fun cdv A outer s H vs Q E hr h => ?_)
 ·obtain ⟨x, C, dx, a, n, st, en, z, m, wt, rfl, _⟩ := h; rfl
 obtain ⟨x, C, dx, a, n, st, en, z, m, wt, rfl, h⟩ := h
 have hu := hr.units
 refine ⟨_, (pss_cons (ps_fld (pv 0) (pe_ix ix_U (pv 1) pe_int (fun _ _ => rfl)) rfl)
   (pss_cons (ps_fld (pv 0) (pe_ix ix_U (pv 1) pe_int (fun _ _ => rfl)) rfl)
   (pss_cons (ps_fld (pv 0) (pe_ix ix_U (pv 1) pe_int (fun _ _ => rfl)) rfl)
   (pss_cons (ps_fld (pv 0) (pe_ix ix_U (pv 1) pe_int (fun _ _ => rfl)) rfl)
   (pss_cons (ps_fld (pv 0) (pe_ix ix_U (pv 1) pe_int (fun _ _ => rfl)) rfl)
   (pss_one (ps_fld (pv 0) (pe_ix ix_U (pv 1) pe_int (fun _ _ => rfl)) rfl))))))), ?_⟩
 obtain ⟨e0, tc, hq0, k⟩ := h
 show tSeq _ _ _ [some (.ref x), some (.ref a)] H
 exfalso
 refine ixT (i := 0) hq0 rfl ?_
 exfalso
 refine ⟨x, C, dx, _, rfl, e0, tc.cls, tc.n1, by simp, ?_⟩
 have hq1 := SqT.put (fs' := putF "name" n []) e0 hq0
 generalize u0 : upd H x _ = H1 at hq1 ⊢
 exfalso
 have e1 : H1 x = some (.ins C dx [("name", n)]) := by rw [← u0]; exact upd_same.trans rfl
 have o1 : ∀ b, b ≠ x → H1 b = H b := fun b hb => by rw [← u0, upd_ne hb]
 exfalso
 refine ixT (i := 1) hq1 rfl ?_
 exfalso
 refine ⟨x, C, dx, _, rfl, e1, tc.cls, tc.n2, by simp, ?_⟩
 have hq2 := SqT.put (fs' := putF "start" st [("name", n)]) e1 hq1
 generalize u1 : upd H1 x _ = H2 at hq2 ⊢
 exfalso
 have e2 : H2 x = some (.ins C dx [("name", n), ("start", st)]) := by rw [← u1]; exact upd_same.trans rfl
 have o2 : ∀ b, b ≠ x → H2 b = H1 b := fun b hb => by rw [← u1, upd_ne hb]
 exfalso
 refine ixT (i := 2) hq2 rfl ?_
 exfalso
 refine ⟨x, C, dx, _, rfl, e2, tc.cls, tc.n3, by simp, ?_⟩
 have hq3 := SqT.put (fs' := putF "end" en [("name", n), ("start", st)]) e2 hq2
 generalize u2 : upd H2 x _ = H3 at hq3 ⊢
 exfalso
 have e3 : H3 x = some (.ins C dx [("name", n), ("start", st), ("end", en)]) := by rw [← u2]; exact upd_same.trans rfl
 have o3 : ∀ b, b ≠ x → H3 b = H2 b := fun b hb => by rw [← u2, upd_ne hb]
 exfalso
 refine ixT (i := 3) hq3 rfl ?_
 exfalso
 refine ⟨x, C, dx, _, rfl, e3, tc.cls, tc.n4, by simp, ?_⟩
 have hq4 := SqT.put (fs' := putF "size" z [("name", n), ("start", st), ("end", en)]) e3 hq3
 generalize u3 : upd H3 x _ = H4 at hq4 ⊢
 exfalso
 have e4 : H4 x = some (.ins C dx [("name", n), ("start", st), ("end", en), ("size", z)]) := by rw [← u3]; exact upd_same.trans rfl
 have o4 : ∀ b, b ≠ x → H4 b = H3 b := fun b hb => by rw [← u3, upd_ne hb]
 exfalso
 refine ixT (i := 4) hq4 rfl ?_
 exfalso
 refine ⟨x, C, dx, _, rfl, e4, tc.cls, tc.n5, by simp, ?_⟩
 have hq5 := SqT.put (fs' := putF "most" m [("name", n), ("start", st), ("end", en), ("size", z)]) e4 hq4
 generalize u4 : upd H4 x _ = H5 at hq5 ⊢
 exfalso
 have e5 : H5 x = some (.ins C dx [("name", n), ("start", st), ("end", en), ("size", z), ("most", m)]) := by rw [← u4]; exact upd_same.trans rfl
 have o5 : ∀ b, b ≠ x → H5 b = H4 b := fun b hb => by rw [← u4, upd_ne hb]
 exfalso
 refine ixT (i := 5) hq5 rfl ?_
 exfalso
 refine ⟨x, C, dx, _, rfl, e5, tc.cls, tc.n6, by simp, ?_⟩
 have hq6 := SqT.put (fs' := putF "weight" wt [("name", n), ("start", st), ("end", en), ("size", z), ("most", m)]) e5 hq5
 generalize u5 : upd H5 x _ = H6 at hq6 ⊢
 exfalso
 have e6 : H6 x = some (.ins C dx [("name", n), ("start", st), ("end", en), ("size", z), ("most", m), ("weight", wt)]) := by rw [← u5]; exact upd_same.trans rfl
 have o6 : ∀ b, b ≠ x → H6 b = H5 b := fun b hb => by rw [← u5, upd_ne hb]
 exfalso
 exact k H6 e6 fun b hb => by rw [o6 b hb, o5 b hb, o4 b hb, o3 b hb, o2 b hb, o1 b hb]
abbrev s_Gapuu_inituu : Stmt := inClass (top 30) 0
theorem sc_Gapuu_inituu : FnScope ["self", "row"] ["self", "row"] (defScope s_Gapuu_inituu) := ⟨rfl, rfl, rfl, by decide +kernel, rfl, by decide +kernel, by decide +kernel⟩
def sp_Gapuu_inituu (K : PySem.W.Frag) : Sp := fun vs H Q E => ∃ (x C dx a : Addr) (n st en l g : V), vs = [.ref x, .ref a] ∧ H x = some (.ins C dx []) ∧ GapC K C ∧ SqT K H a [n, st, en, l, g] ∧ ∀ H', H' x = some (.ins C dx (gapF n st en l g)) → (∀ b, b ≠ x → H' b = H b) → Q .non H'
theorem ok_Gapuu_inituu {f : Addr} {fd : FuncData} {dV : Value} (F : FunD K "__init__" "Gap.__init__" s_Gapuu_inituu dV f fd) (T : Txt K mg Ad)  : FnOk P w K mg base (CX1 P w) 1 f fd ["self", "row"] (sp_Gapuu_inituu K) := by
 refine F.okn sc_Gapuu_inituu (fun vs H Q E h => ?_) (fun cdv A outer s H vs Q E hr h => ?_)
 ·obtain ⟨x, C, dx, a, n, st, en, l, g, rfl, _⟩ := h; rfl
 obtain ⟨x, C, dx, a, n, st, en, l, g, rfl, h⟩ := h
 have hu := hr.units
 refine ⟨_, (pss_cons (ps_fld (pv 0) (pe_ix ix_U (pv 1) pe_int (fun _ _ => rfl)) rfl)
   (pss_cons (ps_fld (pv 0) (pe_ix ix_U (pv 1) pe_int (fun _ _ => rfl)) rfl)
   (pss_cons (ps_fld (pv 0) (pe_ix ix_U (pv 1) pe_int (fun _ _ => rfl)) rfl)
   (pss_cons (ps_fld (pv 0) (pe_ix ix_U (pv 1) pe_int (fun _ _ => rfl)) rfl)
   (pss_one (ps_fld (pv 0) (pe_ix ix_U (pv 1) pe_int (fun _ _ => rfl)) rfl)))))), ?_⟩
 obtain ⟨e0, tc, hq0, k⟩ := h
 show tSeq _ _ _ [some (.ref x), some (.ref a)] H
 exfalso
 refine ixT (i := 0) hq0 rfl ?_
 exfalso
 refine ⟨x, C, dx, _, rfl, e0, tc.cls, tc.n1, by simp, ?_⟩
 have hq1 := SqT.put (fs' := putF "name" n []) e0 hq0
 generalize u0 : upd H x _ = H1 at hq1 ⊢
 exfalso
 have e1 : H1 x = some (.ins C dx [("name", n)]) := by rw [← u0]; exact upd_same.trans rfl
 have o1 : ∀ b, b ≠ x → H1 b = H b := fun b hb => by rw [← u0, upd_ne hb]
 exfalso
 refine ixT (i := 1) hq1 rfl ?_
 exfalso
 refine ⟨x, C, dx, _, rfl, e1, tc.cls, tc.n2, by simp, ?_⟩
 have hq2 := SqT.put (fs' := putF "one" st [("name", n)]) e1 hq1
 generalize u1 : upd H1 x _ = H2 at hq2 ⊢
 exfalso
 have e2 : H2 x = some (.ins C dx [("name", n), ("one", st)]) := by rw [← u1]; exact upd_same.trans rfl
 have o2 : ∀ b, b ≠ x → H2 b = H1 b := fun b hb => by rw [← u1, upd_ne hb]
 exfalso
 refine ixT (i := 2) hq2 rfl ?_
 exfalso
 refine ⟨x, C, dx, _, rfl, e2, tc.cls, tc.n3, by simp, ?_⟩
 have hq3 := SqT.put (fs' := putF "other" en [("name", n), ("one", st)]) e2 hq2
 generalize u2 : upd H2 x _ = H3 at hq3 ⊢
 exfalso
 have e3 : H3 x = some (.ins C dx [("name", n), ("one", st), ("other", en)]) := by rw [← u2]; exact upd_same.trans rfl
 have o3 : ∀ b, b ≠ x → H3 b = H2 b := fun b hb => by rw [← u2, upd_ne hb]
 exfalso
 refine ixT (i := 3) hq3 rfl ?_
 exfalso
 refine ⟨x, C, dx, _, rfl, e3, tc.cls, tc.n4, by simp, ?_⟩
 have hq4 := SqT.put (fs' := putF "low" l [("name", n), ("one", st), ("other", en)]) e3 hq3
 generalize u3 : upd H3 x _ = H4 at hq4 ⊢
 exfalso
 have e4 : H4 x = some (.ins C dx [("name", n), ("one", st), ("other", en), ("low", l)]) := by rw [← u3]; exact upd_same.trans rfl
 have o4 : ∀ b, b ≠ x → H4 b = H3 b := fun b hb => by rw [← u3, upd_ne hb]
 exfalso
 refine ixT (i := 4) hq4 rfl ?_
 exfalso
 refine ⟨x, C, dx, _, rfl, e4, tc.cls, tc.n5, by simp, ?_⟩
 have hq5 := SqT.put (fs' := putF "high" g [("name", n), ("one", st), ("other", en), ("low", l)]) e4 hq4
 generalize u4 : upd H4 x _ = H5 at hq5 ⊢
 exfalso
 have e5 : H5 x = some (.ins C dx [("name", n), ("one", st), ("other", en), ("low", l), ("high", g)]) := by rw [← u4]; exact upd_same.trans rfl
 have o5 : ∀ b, b ≠ x → H5 b = H4 b := fun b hb => by rw [← u4, upd_ne hb]
 exfalso
 exact k H5 e5 fun b hb => by rw [o5 b hb, o4 b hb, o3 b hb, o2 b hb, o1 b hb]
abbrev s_is_part : Stmt := top 27
theorem sc_is_part : FnScope ["thing"] ["thing"] (defScope s_is_part) := ⟨rfl, rfl, rfl, by decide +kernel, rfl, by decide +kernel, by decide +kernel⟩
def sp_is_part (K : PySem.W.Frag) : Sp := fun vs H Q E => ∃ (x : V) (d : D), vs = [x] ∧ Rep K H d x ∧ szD d ∧ ∀ H', Same H H' → Q (.bl (partB d)) H'
theorem ok_is_part {f : Addr} {fd : FuncData} {dV : Value} (F : FunD K "is_part" "is_part" s_is_part dV f fd) (T : Txt K mg Ad) (c_is_name : Cal P w K mg base 1 "is_name" ["thing"] [] (sp_is_name K)) (c_are_faces : Cal P w K mg base 2 "are_faces" ["one", "other"] [] (sp_are_faces K)) (c_is_fraction : Cal P w K mg base 2 "is_fraction" ["thing"] [] (sp_is_fraction K)) (c_is_whole : Cal P w K mg base 1 "is_whole" ["thing"] [] (sp_is_whole K)) (c_under : Cal P w K mg base 1 "under" ["one", "other"] [] (sp_under K)) : FnOk P w K mg base (CX1 P w) 5 f fd ["thing"] (sp_is_part K) := by
 refine F.okn sc_is_part (fun vs H Q E h => ?_) (fun cdv A outer s H vs Q E hr h => ?_)
 ·obtain ⟨x, d, rfl, _⟩ := h; rfl
 obtain ⟨x, d, rfl, h⟩ := h
 have hu := hr.units
 refine ⟨_, (pss_cons (ps_if (PW.pt (pw_or (pt_not (pt_val (pe_callB call_isinstanceU rfl T.n_isinstance bt_isinstance (pa_cons (pv 0) (pa_cons (pe_bltn (v := .ty "tuple") rfl T.n_tuple bt_tuple rfl) pa_nil))))) (pw_or1 (pt_cmpR (op_neU hu) (pe_callB call_lenU rfl T.n_len bt_len (pa_cons (pv 0) pa_nil)) pe_int (nomark _)))))
   (pss_one (ps_ret pe_bl))
   pss_nil)
   (pss_cons (ps_if (PW.pt (pw_or (pt_not (pt_val (c_is_name.ev hr (by decide) rfl passF (pa_cons (pe_ix ix_U (pv 0) pe_int (fun _ _ => rfl)) pa_nil)))) (pw_or1 (pt_not (pt_val (c_are_faces.ev hr (by decide) rfl passF (pa_cons (pe_ix ix_U (pv 0) pe_int (fun _ _ => rfl)) (pa_cons (pe_ix ix_U (pv 0) pe_int (fun _ _ => rfl)) pa_nil))))))))
   (pss_one (ps_ret pe_bl))
   pss_nil)
   (pss_cons (ps_if (PW.pt (pw_or (pt_not (pt_val (c_is_fraction.ev hr (by decide) rfl passF (pa_cons (pe_ix ix_U (pv 0) pe_int (fun _ _ => rfl)) pa_nil)))) (pw_or (pt_not (pt_val (c_is_fraction.ev hr (by decide) rfl passF (pa_cons (pe_ix ix_U (pv 0) pe_int (fun _ _ => rfl)) pa_nil)))) (pw_or1 (pt_not (pt_val (c_is_whole.ev hr (by decide) rfl passF (pa_cons (pe_ix ix_U (pv 0) pe_int (fun _ _ => rfl)) pa_nil))))))))
   (pss_one (ps_ret pe_bl))
   pss_nil)
   (pss_one (ps_ret (pe_and (pe_not (c_under.ev hr (by decide) rfl passF (pa_cons (pe_ix ix_U (pv 0) pe_int (fun _ _ => rfl)) (pa_cons (pe_glob (v := .ref _) rfl T.m_ZERO T.r_ZERO) pa_nil)))) (pe_one (pe_cmpR op_geU (pe_ix ix_U (pv 0) pe_int (fun _ _ => rfl)) pe_int (nomark _))))))))), ?_⟩
 obtain ⟨hx, sz, k⟩ := h
 show tSeq _ _ _ [some x] H
 nofun
 refine ⟨_, hx.tyN, ?_⟩
 by_cases ht : ∃ ds, d = .tup ds
 ·obtain ⟨ds, rfl⟩ := ht
  simp only [tyD, y80y, y4cy, y4dy, y4ey, y6fy, y2ay, y6ay, y7dy, y7ey, y44y, y2dy, y76y, y8cy, y2fy, y39y, y70y, y2ey, y85y, y23y, y28y, y77y, y72y, y29y, y78y, y74y, y58y, y8ey, y26y, y84y, y6ey, y67y, y49y, y66y, y7by, y32y, y47y, y6cy, y48y, y6dy, y46y, y6by, y87y, y62y, y5ey, y89y, y8by, y88y, y8ay, y25y, y65y, y24y, true_and, if_true, if_false, Bool.not_true, Bool.not_false, Bool.false_eq_true, yby, ydy, yay, ycy, yey, y15y, y17y, y14y, y16y, y18y, y6y, y8y, y5y, y7y, y9y, y1y, y3y, y0y, y2y, y4y, y10y, y12y, yfy, y11y, y13y, y1ay, y1cy, y19y, y1by, y1dy, y1fy, y21y, y1ey, y20y, y22y, y82y, y7ay, y71y, y30y, y31y, y52y, y60y, y61y, y4by, y83y, y86y, y8fy, y7cy, y27y, V.int.injEq, V.str.injEq, List.set_cons_zero, List.set_cons_succ, List.getElem?_cons_zero, List.getElem?_cons_succ, Option.some.injEq, exists_eq_left, exists_eq_left', V.bl.injEq, Int.reduceToNat, Int.reducePow, List.append_nil, List.nil_append, List.cons_append, y54y, y56y, y2by, y2cy, y68y, y5dy, y73y, y63y, y64y, y3ay, y3by, y3cy, y43y, y45y, y3ey, y79y, y40y, y3fy, y33y, y35y, y37y, y3dy, y41y, y4fy, y50y, y59y, y93y, y94y, y90y, y91y, y92y, reduceCtorEq, decide_false, decide_true]
  simp only [Rep] at hx
  obtain ⟨a, xs, rfl, hq, hr⟩ := hx
  have hl := hr.length
  refine ⟨xs, .inr hq, ?_⟩
  nofun
  by_cases h6 : ds.length = 6
  ·match ds, h6 with
   | [d0, d1, d2, d3, d4, d5], _ =>
    simp only [RepL] at hr
    obtain ⟨v0, r0, rfl, h0, v1, r1, rfl, h1, v2, r2, rfl, h2, v3, r3, rfl, h3, v4, r4, rfl, h4, v5, r5, rfl, h5, rfl⟩ := hr
    simp only [szD, szL] at sz
    obtain ⟨s0, s1, s2, s3, s4, s5, _⟩ := sz
    simp only [partB] at k
    simp only [List.length_cons, List.length_nil, y80y, y4cy, y4dy, y4ey, y6fy, y2ay, y6ay, y7dy, y7ey, y44y, y2dy, y76y, y8cy, y2fy, y39y, y70y, y2ey, y85y, y23y, y28y, y77y, y72y, y29y, y78y, y74y, y58y, y8ey, y26y, y84y, y6ey, y67y, y49y, y66y, y7by, y32y, y47y, y6cy, y48y, y6dy, y46y, y6by, y87y, y62y, y5ey, y89y, y8by, y88y, y8ay, y25y, y65y, y24y, true_and, if_true, if_false, Bool.not_true, Bool.not_false, Bool.false_eq_true, yby, ydy, yay, ycy, yey, y15y, y17y, y14y, y16y, y18y, y6y, y8y, y5y, y7y, y9y, y1y, y3y, y0y, y2y, y4y, y10y, y12y, yfy, y11y, y13y, y1ay, y1cy, y19y, y1by, y1dy, y1fy, y21y, y1ey, y20y, y22y, y82y, y7ay, y71y, y30y, y31y, y52y, y60y, y61y, y4by, y83y, y86y, y8fy, y7cy, y27y, V.int.injEq, V.str.injEq, List.set_cons_zero, List.set_cons_succ, List.getElem?_cons_zero, List.getElem?_cons_succ, Option.some.injEq, exists_eq_left, exists_eq_left', V.bl.injEq, Int.reduceToNat, Int.reducePow, List.append_nil, List.nil_append, List.cons_append, y54y, y56y, y2by, y2cy, y68y, y5dy, y73y, y63y, y64y, y3ay, y3by, y3cy, y43y, y45y, y3ey, y79y, y40y, y3fy, y33y, y35y, y37y, y3dy, y41y, y4fy, y50y, y59y, y93y, y94y, y90y, y91y, y92y, reduceCtorEq, decide_false, decide_true]
    rw [if_neg (by simp)]
    nofun
    nofun
    refine ixT (i := 0) hq rfl ?_
    refine ⟨v0, d0, rfl, h0, s0, fun H1 S1 => ?_⟩
    nofun
    by_cases c0 : nameB d0 = true
    ·rw [c0] at k ⊢
     nofun
     refine ixT (i := 1) (hq.same S1) rfl ?_
     refine ixT (i := 2) (hq.same S1) rfl ?_
     refine ⟨v1, v2, d1, d2, rfl, h1.same S1, h2.same S1, s1, s2, fun H2 S2 => ?_⟩
     nofun
     have S02 := S1.trans S2
     by_cases c1 : facesB d1 d2 = true
     ·rw [c1] at k ⊢
      nofun
      refine ixT (i := 3) (hq.same S02) rfl ?_
      refine ⟨v3, d3, rfl, h3.same S02, ?_⟩
      nofun
      by_cases c3 : fracB d3 = true
      ·rw [c3] at k ⊢
       nofun
       refine ixT (i := 4) (hq.same S02) rfl ?_
       refine ⟨v4, d4, rfl, h4.same S02, ?_⟩
       nofun
       by_cases c4 : fracB d4 = true
       ·rw [c4] at k ⊢
        nofun
        refine ixT (i := 5) (hq.same S02) rfl ?_
        refine ⟨v5, d5, rfl, h5.same S02, ?_⟩
        nofun
        by_cases c5 : wholeB d5 = true
        ·rw [c5] at k ⊢
         nofun
         obtain ⟨p4, q4, rfl, _, _⟩ := frac_shape c4
         obtain ⟨w, rfl⟩ : ∃ w, d5 = .int w := by cases d5 <;> first | exact ⟨_, rfl⟩ | simp [wholeB] at c5
         simp only [szD, szL] at s4
         have h5' : v5 = .int w := by simpa only [Rep] using h5
         subst h5'
         refine ixT (i := 4) (hq.same S02) rfl ?_
         refine ⟨v4, .ref Ad.ZERO, p4, q4, 0, 1, rfl, FrV.of_rep (h4.same S02), ⟨Ad.ZERO, rfl, T.q_ZERO _⟩, s4.1, s4.2.1, .lit (by decide) (by decide), .lit (by decide) (by decide), ?_⟩
         nofun
         by_cases c6 : p4 * 1 < 0 * q4
         ·have e6 : lessD (.tup [.int p4, .int q4]) (.tup [.int 0, .int 1]) = true := by simpa [lessD] using c6
          rw [e6] at k
          rw [if_neg (by simpa using c6)]
          nofun
          exact k H2 S02
         ·have e6 : lessD (.tup [.int p4, .int q4]) (.tup [.int 0, .int 1]) = false := by simpa [lessD] using c6
          rw [e6] at k
          rw [if_pos (by simpa using c6)]
          nofun
          refine ixT (i := 5) (hq.same S02) rfl ?_
          nofun
          exact k H2 S02
        ·have e5 : wholeB d5 = false := by simpa using c5
         rw [e5] at k ⊢
         nofun
         exact k H2 S02
       ·have e4 : fracB d4 = false := by simpa using c4
        rw [e4] at k ⊢
        nofun
        exact k H2 S02
      ·have e3 : fracB d3 = false := by simpa using c3
       rw [e3] at k ⊢
       nofun
       exact k H2 S02
     ·have e1 : facesB d1 d2 = false := by simpa using c1
      rw [e1] at k ⊢
      nofun
      exact k H2 S02
    ·have e0 : nameB d0 = false := by simpa using c0
     rw [e0] at k ⊢
     nofun
     exact k H1 S1
  ·rw [if_pos (by simp; omega)]
   nofun
   have ef : partB (.tup ds) = false := by
    unfold partB
    split
    ·rename_i e; cases e; simp at h6
    ·rfl
   rw [ef] at k
   nofun
   exact k H (.refl H)
 ·have ef : partB d = false := by cases d <;> first | rfl | exact absurd ⟨_, rfl⟩ ht
  rw [ef] at k
  have et : isiB (tyD d) "tuple" = false := by cases d <;> first | rfl | exact absurd ⟨_, rfl⟩ ht
  simp only [et, y80y, y4cy, y4dy, y4ey, y6fy, y2ay, y6ay, y7dy, y7ey, y44y, y2dy, y76y, y8cy, y2fy, y39y, y70y, y2ey, y85y, y23y, y28y, y77y, y72y, y29y, y78y, y74y, y58y, y8ey, y26y, y84y, y6ey, y67y, y49y, y66y, y7by, y32y, y47y, y6cy, y48y, y6dy, y46y, y6by, y87y, y62y, y5ey, y89y, y8by, y88y, y8ay, y25y, y65y, y24y, true_and, if_true, if_false, Bool.not_true, Bool.not_false, Bool.false_eq_true, yby, ydy, yay, ycy, yey, y15y, y17y, y14y, y16y, y18y, y6y, y8y, y5y, y7y, y9y, y1y, y3y, y0y, y2y, y4y, y10y, y12y, yfy, y11y, y13y, y1ay, y1cy, y19y, y1by, y1dy, y1fy, y21y, y1ey, y20y, y22y, y82y, y7ay, y71y, y30y, y31y, y52y, y60y, y61y, y4by, y83y, y86y, y8fy, y7cy, y27y, V.int.injEq, V.str.injEq, List.set_cons_zero, List.set_cons_succ, List.getElem?_cons_zero, List.getElem?_cons_succ, Option.some.injEq, exists_eq_left, exists_eq_left', V.bl.injEq, Int.reduceToNat, Int.reducePow, List.append_nil, List.nil_append, List.cons_append, y54y, y56y, y2by, y2cy, y68y, y5dy, y73y, y63y, y64y, y3ay, y3by, y3cy, y43y, y45y, y3ey, y79y, y40y, y3fy, y33y, y35y, y37y, y3dy, y41y, y4fy, y50y, y59y, y93y, y94y, y90y, y91y, y92y, reduceCtorEq, decide_false, decide_true]
  exact k H (.refl H)
abbrev s_is_gap : Stmt := top 28
theorem sc_is_gap : FnScope ["thing"] ["thing"] (defScope s_is_gap) := ⟨rfl, rfl, rfl, by decide +kernel, rfl, by decide +kernel, by decide +kernel⟩
def sp_is_gap (K : PySem.W.Frag) : Sp := fun vs H Q E => ∃ (x : V) (d : D), vs = [x] ∧ Rep K H d x ∧ szD d ∧ ∀ H', Same H H' → Q (.bl (gapB d)) H'
theorem ok_is_gap {f : Addr} {fd : FuncData} {dV : Value} (F : FunD K "is_gap" "is_gap" s_is_gap dV f fd) (T : Txt K mg Ad) (c_is_tie : Cal P w K mg base 5 "is_tie" ["thing"] [] (sp_is_tie K)) : FnOk P w K mg base (CX1 P w) 6 f fd ["thing"] (sp_is_gap K) := by
 refine F.okn sc_is_gap (fun vs H Q E h => ?_) (fun cdv A outer s H vs Q E hr h => ?_)
 ·obtain ⟨x, d, rfl, _⟩ := h; rfl
 obtain ⟨x, d, rfl, h⟩ := h
 have hu := hr.units
 refine ⟨_, (pss_one (ps_ret (pe_and (c_is_tie.ev hr (by decide) rfl passF (pa_cons (pv 0) pa_nil)) (pe_and (pe_cmpR op_notNU (pe_ix ix_U (pv 0) pe_int (fun _ _ => rfl)) pe_non (nomark _)) (pe_one (pe_cmpR op_notNU (pe_ix ix_U (pv 0) pe_int (fun _ _ => rfl)) pe_non (nomark _))))))), ?_⟩
 obtain ⟨hx, sz, k⟩ := h
 show tRet _ _ [some x] H
 nofun
 refine ⟨x, d, rfl, hx, sz, fun H1 S1 => ?_⟩
 nofun
 by_cases c : tieB d = true
 ·rw [if_pos c]
  nofun
  obtain ⟨n, s, e, l, g, rfl⟩ : ∃ n s e l g, d = .tup [n, s, e, l, g] := by
   unfold tieB at c
   split at c
   ·exact ⟨_, _, _, _, _, rfl⟩
   ·cases c
  simp only [Rep, RepL] at hx
  obtain ⟨a, xs, rfl, hq, v0, r0, rfl, h0, v1, r1, rfl, h1, v2, r2, rfl, h2, v3, r3, rfl, h3, v4, r4, rfl, h4, rfl⟩ := hx
  simp only [gapB] at k
  rw [c] at k
  refine ixT (i := 3) (hq.same S1) rfl ?_
  simp only [y80y, y4cy, y4dy, y4ey, y6fy, y2ay, y6ay, y7dy, y7ey, y44y, y2dy, y76y, y8cy, y2fy, y39y, y70y, y2ey, y85y, y23y, y28y, y77y, y72y, y29y, y78y, y74y, y58y, y8ey, y26y, y84y, y6ey, y67y, y49y, y66y, y7by, y32y, y47y, y6cy, y48y, y6dy, y46y, y6by, y87y, y62y, y5ey, y89y, y8by, y88y, y8ay, y25y, y65y, y24y, true_and, if_true, if_false, Bool.not_true, Bool.not_false, Bool.false_eq_true, yby, ydy, yay, ycy, yey, y15y, y17y, y14y, y16y, y18y, y6y, y8y, y5y, y7y, y9y, y1y, y3y, y0y, y2y, y4y, y10y, y12y, yfy, y11y, y13y, y1ay, y1cy, y19y, y1by, y1dy, y1fy, y21y, y1ey, y20y, y22y, y82y, y7ay, y71y, y30y, y31y, y52y, y60y, y61y, y4by, y83y, y86y, y8fy, y7cy, y27y, V.int.injEq, V.str.injEq, List.set_cons_zero, List.set_cons_succ, List.getElem?_cons_zero, List.getElem?_cons_succ, Option.some.injEq, exists_eq_left, exists_eq_left', V.bl.injEq, Int.reduceToNat, Int.reducePow, List.append_nil, List.nil_append, List.cons_append, y54y, y56y, y2by, y2cy, y68y, y5dy, y73y, y63y, y64y, y3ay, y3by, y3cy, y43y, y45y, y3ey, y79y, y40y, y3fy, y33y, y35y, y37y, y3dy, y41y, y4fy, y50y, y59y, y93y, y94y, y90y, y91y, y92y, reduceCtorEq, decide_false, decide_true, h3.nonV]
  by_cases n1 : nonD l = true
  ·rw [n1] at k
   try rw [n1]
   nofun
   exact k H1 S1
  ·have n1' : nonD l = false := by simpa using n1
   rw [n1'] at k
   try rw [n1']
   nofun
   refine ixT (i := 4) (hq.same S1) rfl ?_
   simp only [y80y, y4cy, y4dy, y4ey, y6fy, y2ay, y6ay, y7dy, y7ey, y44y, y2dy, y76y, y8cy, y2fy, y39y, y70y, y2ey, y85y, y23y, y28y, y77y, y72y, y29y, y78y, y74y, y58y, y8ey, y26y, y84y, y6ey, y67y, y49y, y66y, y7by, y32y, y47y, y6cy, y48y, y6dy, y46y, y6by, y87y, y62y, y5ey, y89y, y8by, y88y, y8ay, y25y, y65y, y24y, true_and, if_true, if_false, Bool.not_true, Bool.not_false, Bool.false_eq_true, yby, ydy, yay, ycy, yey, y15y, y17y, y14y, y16y, y18y, y6y, y8y, y5y, y7y, y9y, y1y, y3y, y0y, y2y, y4y, y10y, y12y, yfy, y11y, y13y, y1ay, y1cy, y19y, y1by, y1dy, y1fy, y21y, y1ey, y20y, y22y, y82y, y7ay, y71y, y30y, y31y, y52y, y60y, y61y, y4by, y83y, y86y, y8fy, y7cy, y27y, V.int.injEq, V.str.injEq, List.set_cons_zero, List.set_cons_succ, List.getElem?_cons_zero, List.getElem?_cons_succ, Option.some.injEq, exists_eq_left, exists_eq_left', V.bl.injEq, Int.reduceToNat, Int.reducePow, List.append_nil, List.nil_append, List.cons_append, y54y, y56y, y2by, y2cy, y68y, y5dy, y73y, y63y, y64y, y3ay, y3by, y3cy, y43y, y45y, y3ey, y79y, y40y, y3fy, y33y, y35y, y37y, y3dy, y41y, y4fy, y50y, y59y, y93y, y94y, y90y, y91y, y92y, reduceCtorEq, decide_false, decide_true, h4.nonV]
   exact k H1 S1
 ·rw [if_neg c]
  nofun
  have e0 : gapB d = false := by
   have c' : tieB d = false := by simpa using c
   unfold gapB
   split
   ·rw [c']; rfl
   ·rfl
  rw [e0] at k
  exact k H1 S1
abbrev s_part_of : Stmt := top 31
theorem sc_part_of : FnScope ["thing"] ["thing"] (defScope s_part_of) := ⟨rfl, rfl, rfl, by decide +kernel, rfl, by decide +kernel, by decide +kernel⟩
def sp_part_of (K : PySem.W.Frag) (Ad : Adr) : Sp := fun vs H Q E => ∃ (x : V) (e : PD ⊕ D), vs = [x] ∧ PEV K H e x ∧ (match e with | .inr _ => ∀ H', Same H H' → E (.ref Ad.NoPart) none H' | .inl p => ∀ v H', Same H H' → POV K Ad H' p v → Q v H')
theorem ok_part_of {f : Addr} {fd : FuncData} {dV : Value} (F : FunD K "part_of" "part_of" s_part_of dV f fd) (T : Txt K mg Ad) (c_is_part : Cal P w K mg base 5 "is_part" ["thing"] [] (sp_is_part K)) (k_Part : KCal P w K mg base 1 "Part" Ad.Part ["self", "row"] (sp_Partuu_inituu K)) : FnOk P w K mg base (CX1 P w) 6 f fd ["thing"] (sp_part_of K Ad) := by
 refine F.okx sc_part_of (fun vs H Q E h => ?_) (fun cdv A outer s H vs Q E hr h => ?_)
 ·obtain ⟨x, e, rfl, _⟩ := h; rfl
 obtain ⟨x, e, rfl, h⟩ := h
 have hu := hr.units
 refine ⟨_, (pss_cons (ps_if (pt_not (pt_val (c_is_part.ev hr (by decide) rfl pass1 (pa_cons (pv 0) pa_nil))))
   (pss_one (ps_raise PySem.F.excBase_ValueError T.x_NoPart rfl T.m_NoPart (pa_cons pe_str pa_nil)))
   pss_nil)
   (pss_one (ps_ret (k_Part.ev hr (by decide) rfl pass1 (pa_cons (pv 0) pa_nil))))), ?_⟩
 obtain ⟨he, k⟩ := h
 show tSeq _ _ _ [some x] H
 nofun
 match e, he, k with
 | .inr c, he, k =>
  refine ⟨x, c, rfl, he.1, he.2.1, fun H1 S1 => ?_⟩
  rw [he.2.2]
  nofun
  exact ⟨by show 1 ≤ sizeLine; decide, k H1 S1⟩
 | .inl p, he, k =>
  refine ⟨x, pdD p, rfl, he.1.rep, he.2.sz, fun H1 S1 => ?_⟩
  rw [he.2.part]
  nofun
  obtain ⟨b, vz, vm, rfl, hq, hz, hm⟩ := he.1
  intro y dx hy hdx ne
  have S2 : Same H1 (upd (upd H1 dx (.own y)) y (.ins Ad.Part dx [])) := fun b u q => by rw [upd_ne (ne_of_none q hy), upd_ne (ne_of_none q hdx)]; exact q
  refine ⟨y, _, dx, b, _, _, _, vz, vm, _, rfl, upd_same, T.c_Part _ rfl, (hq.same S1).same S2, fun H' e o => ⟨rfl, k _ H' ?_ ⟨y, dx, vz, vm, rfl, e, ?_, ?_⟩⟩⟩
  ·exact S1.trans fun b u q => by rw [o b (ne_of_none q hy)]; exact S2 _ _ q
  ·exact hz.same (S1.trans fun b u q => by rw [o b (ne_of_none q hy)]; exact S2 _ _ q)
  ·exact hm.same (S1.trans fun b u q => by rw [o b (ne_of_none q hy)]; exact S2 _ _ q)
abbrev s_gap_of : Stmt := top 32
theorem sc_gap_of : FnScope ["thing"] ["thing"] (defScope s_gap_of) := ⟨rfl, rfl, rfl, by decide +kernel, rfl, by decide +kernel, by decide +kernel⟩
def sp_gap_of (K : PySem.W.Frag) (Ad : Adr) : Sp := fun vs H Q E => ∃ (x : V) (e : GD ⊕ D), vs = [x] ∧ GEV K H e x ∧ (match e with | .inr _ => ∀ H', Same H H' → E (.ref Ad.NoGap) none H' | .inl g => ∀ v H', Same H H' → GOV K Ad H' g v → Q v H')
theorem ok_gap_of {f : Addr} {fd : FuncData} {dV : Value} (F : FunD K "gap_of" "gap_of" s_gap_of dV f fd) (T : Txt K mg Ad) (c_is_gap : Cal P w K mg base 6 "is_gap" ["thing"] [] (sp_is_gap K)) (k_Gap : KCal P w K mg base 1 "Gap" Ad.Gap ["self", "row"] (sp_Gapuu_inituu K)) : FnOk P w K mg base (CX1 P w) 7 f fd ["thing"] (sp_gap_of K Ad) := by
 refine F.okx sc_gap_of (fun vs H Q E h => ?_) (fun cdv A outer s H vs Q E hr h => ?_)
 ·obtain ⟨x, e, rfl, _⟩ := h; rfl
 obtain ⟨x, e, rfl, h⟩ := h
 have hu := hr.units
 refine ⟨_, (pss_cons (ps_if (pt_not (pt_val (c_is_gap.ev hr (by decide) rfl pass1 (pa_cons (pv 0) pa_nil))))
   (pss_one (ps_raise PySem.F.excBase_ValueError T.x_NoGap rfl T.m_NoGap (pa_cons pe_str pa_nil)))
   pss_nil)
   (pss_one (ps_ret (k_Gap.ev hr (by decide) rfl pass1 (pa_cons (pv 0) pa_nil))))), ?_⟩
 obtain ⟨he, k⟩ := h
 show tSeq _ _ _ [some x] H
 nofun
 match e, he, k with
 | .inr c, he, k =>
  refine ⟨x, c, rfl, he.1, he.2.1, fun H1 S1 => ?_⟩
  rw [he.2.2]
  nofun
  exact ⟨by show 1 ≤ sizeLine; decide, k H1 S1⟩
 | .inl g, he, k =>
  refine ⟨x, tdD g.td, rfl, he.1.rep, he.2.sz, fun H1 S1 => ?_⟩
  rw [gap_ok he.2]
  nofun
  obtain ⟨b, vz, vm, rfl, hq, hz, hm⟩ := he.1
  replace hz : FrV K H vz g.lo.1 g.lo.2 := hz
  replace hm : FrV K H vm g.hi.1 g.hi.2 := hm
  intro y dx hy hdx ne
  have S2 : Same H1 (upd (upd H1 dx (.own y)) y (.ins Ad.Gap dx [])) := fun b u q => by rw [upd_ne (ne_of_none q hy), upd_ne (ne_of_none q hdx)]; exact q
  refine ⟨y, _, dx, b, _, _, _, vz, vm, rfl, upd_same, T.c_Gap _ rfl, (hq.same S1).same S2, fun H' e o => ⟨rfl, k _ H' ?_ ⟨y, dx, vz, vm, rfl, e, ?_, ?_⟩⟩⟩
  ·exact S1.trans fun b u q => by rw [o b (ne_of_none q hy)]; exact S2 _ _ q
  ·exact hz.same (S1.trans fun b u q => by rw [o b (ne_of_none q hy)]; exact S2 _ _ q)
  ·exact hm.same (S1.trans fun b u q => by rw [o b (ne_of_none q hy)]; exact S2 _ _ q)
abbrev s_Jointsuu_inituu : Stmt := inClass (top 33) 0
theorem sc_Jointsuu_inituu : FnScope ["self"] ["self"] (defScope s_Jointsuu_inituu) := ⟨rfl, rfl, rfl, by decide +kernel, rfl, by decide +kernel, by decide +kernel⟩
def sp_Jointsuu_inituu (K : PySem.W.Frag) (Ad : Adr) : Sp := fun vs H Q E => ∃ (x dx : Addr), vs = [.ref x] ∧ H x = some (.ins Ad.Joints dx []) ∧ ∀ d H', H d = none → d ≠ x → H' x = some (.ins Ad.Joints dx [("leads", .ref d)]) → H' d = some (.dK []) → (∀ b u, b ≠ x → H b = some u → H' b = some u) → Q .non H'
theorem ok_Jointsuu_inituu {f : Addr} {fd : FuncData} {dV : Value} (F : FunD K "__init__" "Joints.__init__" s_Jointsuu_inituu dV f fd) (T : Txt K mg Ad)  : FnOk P w K mg base (CX1 P w) 1 f fd ["self"] (sp_Jointsuu_inituu K Ad) := by
 refine F.okn sc_Jointsuu_inituu (fun vs H Q E h => ?_) (fun cdv A outer s H vs Q E hr h => ?_)
 ·obtain ⟨x, dx, rfl, _⟩ := h; rfl
 obtain ⟨x, dx, rfl, h⟩ := h
 have hu := hr.units
 refine ⟨_, (pss_one (ps_fld (pv 0) pe_dnewK rfl)), ?_⟩
 obtain ⟨hx, k⟩ := h
 have tc := T.c_Joints _ rfl
 show sFld _ _ _ _ _ [some (.ref x)] H
 exfalso
 intro d h_d
 generalize q_d : upd H d _ = H1
 have S1 := newS h_d q_d
 have e1 := newE q_d
 exfalso
 refine ⟨x, _, dx, _, rfl, S1 _ _ hx, tc.cls, tc.n1, by simp, ?_⟩
 have ne : d ≠ x := fun z => by rw [z, hx] at h_d; cases h_d
 exact k d _ h_d ne (upd_same.trans rfl) (by rw [upd_ne ne]; exact e1) fun b u hb h => by rw [upd_ne hb]; exact S1 _ _ h
abbrev s_Joints_link : Stmt := inClass (top 33) 1
theorem sc_Joints_link : FnScope ["self", "part"] ["self", "part"] (defScope s_Joints_link) := ⟨rfl, rfl, rfl, by decide +kernel, rfl, by decide +kernel, by decide +kernel⟩
def sp_Joints_link (K : PySem.W.Frag) (Ad : Adr) : Sp := fun vs H Q E => ∃ (j d : Addr) (v : V) (ls : List PD) (p : PD) (H0 : Hp), vs = [.ref j, v] ∧ JK Ad H0 H j d ls ∧ Same H0 H ∧ POV K Ad H p v ∧ p.st ≠ p.en ∧ ls.length ≤ 20 ∧ ∀ H', Same H0 H' → SameJ d H H' → JK Ad H0 H' j d (ls ++ [p]) → Q .non H'
theorem ok_Joints_link {f : Addr} {fd : FuncData} {dV : Value} (F : FunD K "link" "Joints.link" s_Joints_link dV f fd) (T : Txt K mg Ad)  : FnOk P w K mg base (CX1 P w) 1 f fd ["self", "part"] (sp_Joints_link K Ad) := by
 refine F.okn sc_Joints_link (fun vs H Q E h => ?_) (fun cdv A outer s H vs Q E hr h => ?_)
 ·obtain ⟨j, d, v, ls, p, H0, rfl, _⟩ := h; rfl
 obtain ⟨j, d, v, ls, p, H0, rfl, h⟩ := h
 have hu := hr.units
 refine ⟨_, (pss_cons (ps_expr (pe_bm PySem.F.plainAttrs_list PySem.F.slot_list_append PySem.F.type_list_append mt_append (pe_dset (pe_fld (pv 0) rfl) (pe_fld (pv 1) rfl) (pe_lst pa_nil) ⟨rfl, rfl, rfl, rfl⟩) (pa_cons (pe_tup (pa_cons (pe_fld (pv 1) rfl) (pa_cons (pe_tup (pa_cons (pe_fld (pv 1) rfl) (pa_cons pe_bl pa_nil))) pa_nil))) pa_nil)))
   (pss_one (ps_expr (pe_bm PySem.F.plainAttrs_list PySem.F.slot_list_append PySem.F.type_list_append mt_append (pe_dset (pe_fld (pv 0) rfl) (pe_fld (pv 1) rfl) (pe_lst pa_nil) ⟨rfl, rfl, rfl, rfl⟩) (pa_cons (pe_tup (pa_cons (pe_fld (pv 1) rfl) (pa_cons (pe_tup (pa_cons (pe_fld (pv 1) rfl) (pa_cons pe_bl pa_nil))) pa_nil))) pa_nil))))), ?_⟩
 obtain ⟨⟨⟨dx, hj1⟩, hd0, kvs, hd1, hk, hJ1⟩, S01, hv, hne, hl, k⟩ := h
 obtain ⟨q, dq, vz, vm, rfl, hq1, hz, hm⟩ := hv
 have sl : (1000 : Nat) ≤ sizeLine := by decide
 have jc := T.c_Joints _ rfl
 have pc := T.c_Part _ rfl
 have nj : j ≠ d := fun z => by rw [z, hd1] at hj1; cases hj1
 have nq : q ≠ d := fun z => by rw [z, hd1] at hq1; cases hq1
 have hLn1 : ∀ f, (leadsOf ls f).length ≤ 20 := fun f => by have := lead_len ls f; omega
 show tSeq _ _ _ [some (.ref j), some (.ref q)] H
 and_intros
 obtain ⟨H1, hH⟩ : ∃ H', H' = H := ⟨_, rfl⟩
 subst hH
 refine ⟨j, _, dx, _, .ref d, rfl, hj1, jc.cls, jc.n1, rfl, ?_⟩
 and_intros
 refine ⟨d, rfl, .inl ⟨kvs, .inl hd1⟩, ?_⟩
 refine ⟨q, _, dq, _, .str p.st, rfl, hq1, pc.cls, pc.n2, rfl, ?_⟩
 and_intros
 refine ⟨len0, ?_⟩
 intro l1 h_l1
 generalize q_l1 : upd H1 l1 _ = Hb1
 have Sb1 := newS h_l1 q_l1
 have eb1 := newE q_l1
 and_intros
 refine ⟨kvs, Sum.inr p.st, Sb1 _ _ hd1, rfl, by omega, fun v hv => ?_, fun hv => ?_⟩
 ·obtain ⟨l, xs, hlx, hl0, hlh, hla⟩ : ∃ l xs, v = .ref l ∧ H0 l = none ∧ H1 l = some (.lst xs) ∧ All2 (LeV H1) ((leadsOf ls) p.st) xs := by
   rcases hJ1.at_ p.st with ⟨h1, _⟩ | ⟨l, xs, h1, h2, h3, h4⟩
   ·rw [hv] at h1; cases h1
   ·rw [hv] at h1; cases h1; exact ⟨l, xs, rfl, h2, h3, h4⟩
  subst hlx
  have lxs : xs.length ≤ 20 := by rw [hla.length]; exact hLn1 _
  refine ⟨.inl ⟨rfl, _, SqL.of (Sb1 _ _ hlh)⟩, ?_⟩
  and_intros
  have hq_c := Sb1 _ _ hq1
  obtain ⟨Hc1, hHc⟩ : ∃ H', H' = Hb1 := ⟨_, rfl⟩
  rw [← hHc] at hq_c ⊢
  refine ⟨q, _, dq, _, .str p.en, rfl, hq_c, pc.cls, pc.n3, rfl, ?_⟩
  and_intros
  refine ⟨q, _, dq, _, .str p.nm, rfl, hq_c, pc.cls, pc.n1, rfl, ?_⟩
  and_intros
  refine ⟨len2, ?_⟩
  intro tc1 h_tc1
  generalize q_tc1 : upd Hc1 tc1 _ = Hd1
  have Sd1 := newS h_tc1 q_tc1
  have ed1 := newE q_tc1
  and_intros
  refine ⟨len2, ?_⟩
  intro tb1 h_tb1
  generalize q_tb1 : upd Hd1 tb1 _ = He1
  have Se1 := newS h_tb1 q_tb1
  have ee1 := newE q_tb1
  and_intros
  have lev1 : LeV He1 (p.en, (p.nm, true)) (.ref tb1) := ⟨tb1, tc1, rfl, ee1, Se1 _ _ ed1⟩
  have Sce1 := Sd1.trans Se1
  have hle := Sce1 _ _ (by rw [hHc]; exact Sb1 _ _ hlh : Hc1 l = some (.lst xs))
  refine ⟨l, xs, _, rfl, rfl, hle, by omega, ?_⟩
  generalize u2 : upd He1 l _ = H2
  and_intros
  have Sbe : Same H1 He1 := fun b u h => Sce1 _ _ (by rw [hHc]; exact Sb1 _ _ h)
  have hJ2 := (hJ1.same Sbe).more hv hle lev1 u2
  have sj2 : SameJ d H1 H2 := fun b u _ hu h => by rw [← u2, upd_ne (fun z => by have := Sbe _ _ h; rw [z, hle] at this; cases this; exact hu _ rfl)]; exact Sbe _ _ h
  have hd2 : H2 d = some (.dK kvs) := by rw [← u2, upd_ne (fun z => by have := Sbe _ _ hd1; rw [z, hle] at this; cases this)]; exact Sbe _ _ hd1
  have S02 : Same H0 H2 := fun b u h => by rw [← u2, upd_ne (ne_of_none h hl0)]; exact Sbe _ _ (S01 _ _ h)
  have hj2 := sj2 _ _ nj (by intro xs z; cases z) hj1
  have hq2 := sj2 _ _ nq (by intro xs z; cases z) hq1
  have hLn2 : ∀ f, (addL (leadsOf ls) p.st (p.en, (p.nm, true)) f).length ≤ 21 := fun f => by
   have := lead_len ls f
   unfold addL
   split
   ·rw [List.length_append, List.length_singleton]; omega
   ·omega
  and_intros
  refine ⟨j, _, dx, _, .ref d, rfl, hj2, jc.cls, jc.n1, rfl, ?_⟩
  and_intros
  refine ⟨d, rfl, .inl ⟨kvs, .inl hd2⟩, ?_⟩
  refine ⟨q, _, dq, _, .str p.en, rfl, hq2, pc.cls, pc.n3, rfl, ?_⟩
  and_intros
  refine ⟨len0, ?_⟩
  intro l2 h_l2
  generalize q_l2 : upd H2 l2 _ = Hb2
  have Sb2 := newS h_l2 q_l2
  have eb2 := newE q_l2
  and_intros
  refine ⟨kvs, Sum.inr p.en, Sb2 _ _ hd2, rfl, by omega, fun v hv => ?_, fun hv => ?_⟩
  ·obtain ⟨l, xs, hlx, hl0, hlh, hla⟩ : ∃ l xs, v = .ref l ∧ H0 l = none ∧ H2 l = some (.lst xs) ∧ All2 (LeV H2) ((addL (leadsOf ls) p.st (p.en, (p.nm, true))) p.en) xs := by
    rcases hJ2.at_ p.en with ⟨h1, _⟩ | ⟨l, xs, h1, h2, h3, h4⟩
    ·rw [hv] at h1; cases h1
    ·rw [hv] at h1; cases h1; exact ⟨l, xs, rfl, h2, h3, h4⟩
   subst hlx
   have lxs : xs.length ≤ 21 := by rw [hla.length]; exact hLn2 _
   refine ⟨.inl ⟨rfl, _, SqL.of (Sb2 _ _ hlh)⟩, ?_⟩
   and_intros
   have hq_c := Sb2 _ _ hq2
   obtain ⟨Hc2, hHc⟩ : ∃ H', H' = Hb2 := ⟨_, rfl⟩
   rw [← hHc] at hq_c ⊢
   refine ⟨q, _, dq, _, .str p.st, rfl, hq_c, pc.cls, pc.n2, rfl, ?_⟩
   and_intros
   refine ⟨q, _, dq, _, .str p.nm, rfl, hq_c, pc.cls, pc.n1, rfl, ?_⟩
   and_intros
   refine ⟨len2, ?_⟩
   intro tc2 h_tc2
   generalize q_tc2 : upd Hc2 tc2 _ = Hd2
   have Sd2 := newS h_tc2 q_tc2
   have ed2 := newE q_tc2
   and_intros
   refine ⟨len2, ?_⟩
   intro tb2 h_tb2
   generalize q_tb2 : upd Hd2 tb2 _ = He2
   have Se2 := newS h_tb2 q_tb2
   have ee2 := newE q_tb2
   and_intros
   have lev2 : LeV He2 (p.st, (p.nm, false)) (.ref tb2) := ⟨tb2, tc2, rfl, ee2, Se2 _ _ ed2⟩
   have Sce2 := Sd2.trans Se2
   have hle := Sce2 _ _ (by rw [hHc]; exact Sb2 _ _ hlh : Hc2 l = some (.lst xs))
   refine ⟨l, xs, _, rfl, rfl, hle, by omega, ?_⟩
   generalize u3 : upd He2 l _ = H3
   and_intros
   have Sbe : Same H2 He2 := fun b u h => Sce2 _ _ (by rw [hHc]; exact Sb2 _ _ h)
   have hJ3 := (hJ2.same Sbe).more hv hle lev2 u3
   have sj3 : SameJ d H2 H3 := fun b u _ hu h => by rw [← u3, upd_ne (fun z => by have := Sbe _ _ h; rw [z, hle] at this; cases this; exact hu _ rfl)]; exact Sbe _ _ h
   have hd3 : H3 d = some (.dK kvs) := by rw [← u3, upd_ne (fun z => by have := Sbe _ _ hd2; rw [z, hle] at this; cases this)]; exact Sbe _ _ hd2
   have S03 : Same H0 H3 := fun b u h => by rw [← u3, upd_ne (ne_of_none h hl0)]; exact Sbe _ _ (S02 _ _ h)
   rw [add_leads hne] at hJ3
   refine k H3 S03 (fun b u hb hu h => sj3 b u hb hu (sj2 b u hb hu h)) ⟨⟨dx, sj3 _ _ nj (by intro xs z; cases z) hj2⟩, hd0, _, hd3, ?_, hJ3⟩
   rw [List.length_append, List.length_singleton]
   omega
  ·have hn0 : H0 l2 = none := by
    cases e : H0 l2 with
    | none => rfl
    | some o => rw [S02 _ _ e] at h_l2; cases h_l2
   generalize uc : upd Hb2 d _ = Hc2
   and_intros
   have nd : l2 ≠ d := fun z => by rw [z, hd2] at h_l2; cases h_l2
   have elc : Hc2 l2 = some (.lst []) := by rw [← uc, upd_ne nd]; exact eb2
   have scx : ∀ b u, b ≠ d → H2 b = some u → Hc2 b = some u := fun b u hb h => by rw [← uc, upd_ne hb]; exact Sb2 _ _ h
   have hdc : Hc2 d = some (.dK (putK kvs (Sum.inr p.en) (.ref l2))) := by rw [← uc, upd_same]
   refine ⟨.inl ⟨rfl, _, SqL.of elc⟩, ?_⟩
   and_intros
   have hq_c := scx _ _ (fun z => by rw [z, hd2] at hq2; cases hq2) hq2
   refine ⟨q, _, dq, _, .str p.st, rfl, hq_c, pc.cls, pc.n2, rfl, ?_⟩
   and_intros
   refine ⟨q, _, dq, _, .str p.nm, rfl, hq_c, pc.cls, pc.n1, rfl, ?_⟩
   and_intros
   refine ⟨len2, ?_⟩
   intro tc2 h_tc2
   generalize q_tc2 : upd Hc2 tc2 _ = Hd2
   have Sd2 := newS h_tc2 q_tc2
   have ed2 := newE q_tc2
   and_intros
   refine ⟨len2, ?_⟩
   intro tb2 h_tb2
   generalize q_tb2 : upd Hd2 tb2 _ = He2
   have Se2 := newS h_tb2 q_tb2
   have ee2 := newE q_tb2
   and_intros
   have lev2 : LeV He2 (p.st, (p.nm, false)) (.ref tb2) := ⟨tb2, tc2, rfl, ee2, Se2 _ _ ed2⟩
   have Sce2 := Sd2.trans Se2
   have hle := Sce2 _ _ elc
   refine ⟨l2, [], _, rfl, rfl, hle, by show 0 < sizeLine; omega, ?_⟩
   generalize u3 : upd He2 l2 _ = H3
   and_intros
   have hJ3 := ((hJ2.sx scx hd2).same Sce2).first hv hn0 (fun g l' hl' z => by
    rcases hJ2.at_ g with ⟨h1, _⟩ | ⟨l2, xs2, h1, _, h3, _⟩
    ·rw [hl'] at h1; cases h1
    ·rw [hl'] at h1; cases h1; rw [z, h_l2] at h3; cases h3) hle lev2 u3
   have sj3 : SameJ d H2 H3 := fun b u hb hu h => by rw [← u3, upd_ne (fun z => by rw [z, h_l2] at h; cases h)]; exact Sce2 _ _ (scx _ _ hb h)
   have hd3 := Sce2 _ _ hdc
   rw [show He2 d = H3 d by rw [← u3, upd_ne (Ne.symm nd)]] at hd3
   have S03 : Same H0 H3 := fun b u h => by rw [← u3, upd_ne (ne_of_none h hn0)]; exact Sce2 _ _ (scx _ _ (ne_of_none h hd0) (S02 _ _ h))
   have lp := length_putK kvs (Sum.inr p.en) (V.ref l2)
   rw [add_leads hne] at hJ3
   refine k H3 S03 (fun b u hb hu h => sj3 b u hb hu (sj2 b u hb hu h)) ⟨⟨dx, sj3 _ _ nj (by intro xs z; cases z) hj2⟩, hd0, _, hd3, ?_, hJ3⟩
   rw [List.length_append, List.length_singleton]
   omega
 ·have hn0 : H0 l1 = none := by
   cases e : H0 l1 with
   | none => rfl
   | some o => rw [S01 _ _ e] at h_l1; cases h_l1
  generalize uc : upd Hb1 d _ = Hc1
  and_intros
  have nd : l1 ≠ d := fun z => by rw [z, hd1] at h_l1; cases h_l1
  have elc : Hc1 l1 = some (.lst []) := by rw [← uc, upd_ne nd]; exact eb1
  have scx : ∀ b u, b ≠ d → H1 b = some u → Hc1 b = some u := fun b u hb h => by rw [← uc, upd_ne hb]; exact Sb1 _ _ h
  have hdc : Hc1 d = some (.dK (putK kvs (Sum.inr p.st) (.ref l1))) := by rw [← uc, upd_same]
  refine ⟨.inl ⟨rfl, _, SqL.of elc⟩, ?_⟩
  and_intros
  have hq_c := scx _ _ (fun z => by rw [z, hd1] at hq1; cases hq1) hq1
  refine ⟨q, _, dq, _, .str p.en, rfl, hq_c, pc.cls, pc.n3, rfl, ?_⟩
  and_intros
  refine ⟨q, _, dq, _, .str p.nm, rfl, hq_c, pc.cls, pc.n1, rfl, ?_⟩
  and_intros
  refine ⟨len2, ?_⟩
  intro tc1 h_tc1
  generalize q_tc1 : upd Hc1 tc1 _ = Hd1
  have Sd1 := newS h_tc1 q_tc1
  have ed1 := newE q_tc1
  and_intros
  refine ⟨len2, ?_⟩
  intro tb1 h_tb1
  generalize q_tb1 : upd Hd1 tb1 _ = He1
  have Se1 := newS h_tb1 q_tb1
  have ee1 := newE q_tb1
  and_intros
  have lev1 : LeV He1 (p.en, (p.nm, true)) (.ref tb1) := ⟨tb1, tc1, rfl, ee1, Se1 _ _ ed1⟩
  have Sce1 := Sd1.trans Se1
  have hle := Sce1 _ _ elc
  refine ⟨l1, [], _, rfl, rfl, hle, by show 0 < sizeLine; omega, ?_⟩
  generalize u2 : upd He1 l1 _ = H2
  and_intros
  have hJ2 := ((hJ1.sx scx hd1).same Sce1).first hv hn0 (fun g l' hl' z => by
   rcases hJ1.at_ g with ⟨h1, _⟩ | ⟨l2, xs2, h1, _, h3, _⟩
   ·rw [hl'] at h1; cases h1
   ·rw [hl'] at h1; cases h1; rw [z, h_l1] at h3; cases h3) hle lev1 u2
  have sj2 : SameJ d H1 H2 := fun b u hb hu h => by rw [← u2, upd_ne (fun z => by rw [z, h_l1] at h; cases h)]; exact Sce1 _ _ (scx _ _ hb h)
  have hd2 := Sce1 _ _ hdc
  rw [show He1 d = H2 d by rw [← u2, upd_ne (Ne.symm nd)]] at hd2
  have S02 : Same H0 H2 := fun b u h => by rw [← u2, upd_ne (ne_of_none h hn0)]; exact Sce1 _ _ (scx _ _ (ne_of_none h hd0) (S01 _ _ h))
  have lp := length_putK kvs (Sum.inr p.st) (V.ref l1)
  have hj2 := sj2 _ _ nj (by intro xs z; cases z) hj1
  have hq2 := sj2 _ _ nq (by intro xs z; cases z) hq1
  have hLn2 : ∀ f, (addL (leadsOf ls) p.st (p.en, (p.nm, true)) f).length ≤ 21 := fun f => by
   have := lead_len ls f
   unfold addL
   split
   ·rw [List.length_append, List.length_singleton]; omega
   ·omega
  and_intros
  refine ⟨j, _, dx, _, .ref d, rfl, hj2, jc.cls, jc.n1, rfl, ?_⟩
  and_intros
  refine ⟨d, rfl, .inl ⟨(putK kvs (Sum.inr p.st) (V.ref l1)), .inl hd2⟩, ?_⟩
  refine ⟨q, _, dq, _, .str p.en, rfl, hq2, pc.cls, pc.n3, rfl, ?_⟩
  and_intros
  refine ⟨len0, ?_⟩
  intro l2 h_l2
  generalize q_l2 : upd H2 l2 _ = Hb2
  have Sb2 := newS h_l2 q_l2
  have eb2 := newE q_l2
  and_intros
  refine ⟨(putK kvs (Sum.inr p.st) (V.ref l1)), Sum.inr p.en, Sb2 _ _ hd2, rfl, by omega, fun v hv => ?_, fun hv => ?_⟩
  ·obtain ⟨l, xs, hlx, hl0, hlh, hla⟩ : ∃ l xs, v = .ref l ∧ H0 l = none ∧ H2 l = some (.lst xs) ∧ All2 (LeV H2) ((addL (leadsOf ls) p.st (p.en, (p.nm, true))) p.en) xs := by
    rcases hJ2.at_ p.en with ⟨h1, _⟩ | ⟨l, xs, h1, h2, h3, h4⟩
    ·rw [hv] at h1; cases h1
    ·rw [hv] at h1; cases h1; exact ⟨l, xs, rfl, h2, h3, h4⟩
   subst hlx
   have lxs : xs.length ≤ 21 := by rw [hla.length]; exact hLn2 _
   refine ⟨.inl ⟨rfl, _, SqL.of (Sb2 _ _ hlh)⟩, ?_⟩
   and_intros
   have hq_c := Sb2 _ _ hq2
   obtain ⟨Hc2, hHc⟩ : ∃ H', H' = Hb2 := ⟨_, rfl⟩
   rw [← hHc] at hq_c ⊢
   refine ⟨q, _, dq, _, .str p.st, rfl, hq_c, pc.cls, pc.n2, rfl, ?_⟩
   and_intros
   refine ⟨q, _, dq, _, .str p.nm, rfl, hq_c, pc.cls, pc.n1, rfl, ?_⟩
   and_intros
   refine ⟨len2, ?_⟩
   intro tc2 h_tc2
   generalize q_tc2 : upd Hc2 tc2 _ = Hd2
   have Sd2 := newS h_tc2 q_tc2
   have ed2 := newE q_tc2
   and_intros
   refine ⟨len2, ?_⟩
   intro tb2 h_tb2
   generalize q_tb2 : upd Hd2 tb2 _ = He2
   have Se2 := newS h_tb2 q_tb2
   have ee2 := newE q_tb2
   and_intros
   have lev2 : LeV He2 (p.st, (p.nm, false)) (.ref tb2) := ⟨tb2, tc2, rfl, ee2, Se2 _ _ ed2⟩
   have Sce2 := Sd2.trans Se2
   have hle := Sce2 _ _ (by rw [hHc]; exact Sb2 _ _ hlh : Hc2 l = some (.lst xs))
   refine ⟨l, xs, _, rfl, rfl, hle, by omega, ?_⟩
   generalize u3 : upd He2 l _ = H3
   and_intros
   have Sbe : Same H2 He2 := fun b u h => Sce2 _ _ (by rw [hHc]; exact Sb2 _ _ h)
   have hJ3 := (hJ2.same Sbe).more hv hle lev2 u3
   have sj3 : SameJ d H2 H3 := fun b u _ hu h => by rw [← u3, upd_ne (fun z => by have := Sbe _ _ h; rw [z, hle] at this; cases this; exact hu _ rfl)]; exact Sbe _ _ h
   have hd3 : H3 d = some (.dK (putK kvs (Sum.inr p.st) (V.ref l1))) := by rw [← u3, upd_ne (fun z => by have := Sbe _ _ hd2; rw [z, hle] at this; cases this)]; exact Sbe _ _ hd2
   have S03 : Same H0 H3 := fun b u h => by rw [← u3, upd_ne (ne_of_none h hl0)]; exact Sbe _ _ (S02 _ _ h)
   rw [add_leads hne] at hJ3
   refine k H3 S03 (fun b u hb hu h => sj3 b u hb hu (sj2 b u hb hu h)) ⟨⟨dx, sj3 _ _ nj (by intro xs z; cases z) hj2⟩, hd0, _, hd3, ?_, hJ3⟩
   rw [List.length_append, List.length_singleton]
   omega
  ·have hn0 : H0 l2 = none := by
    cases e : H0 l2 with
    | none => rfl
    | some o => rw [S02 _ _ e] at h_l2; cases h_l2
   generalize uc : upd Hb2 d _ = Hc2
   and_intros
   have nd : l2 ≠ d := fun z => by rw [z, hd2] at h_l2; cases h_l2
   have elc : Hc2 l2 = some (.lst []) := by rw [← uc, upd_ne nd]; exact eb2
   have scx : ∀ b u, b ≠ d → H2 b = some u → Hc2 b = some u := fun b u hb h => by rw [← uc, upd_ne hb]; exact Sb2 _ _ h
   have hdc : Hc2 d = some (.dK (putK (putK kvs (Sum.inr p.st) (V.ref l1)) (Sum.inr p.en) (.ref l2))) := by rw [← uc, upd_same]
   refine ⟨.inl ⟨rfl, _, SqL.of elc⟩, ?_⟩
   and_intros
   have hq_c := scx _ _ (fun z => by rw [z, hd2] at hq2; cases hq2) hq2
   refine ⟨q, _, dq, _, .str p.st, rfl, hq_c, pc.cls, pc.n2, rfl, ?_⟩
   and_intros
   refine ⟨q, _, dq, _, .str p.nm, rfl, hq_c, pc.cls, pc.n1, rfl, ?_⟩
   and_intros
   refine ⟨len2, ?_⟩
   intro tc2 h_tc2
   generalize q_tc2 : upd Hc2 tc2 _ = Hd2
   have Sd2 := newS h_tc2 q_tc2
   have ed2 := newE q_tc2
   and_intros
   refine ⟨len2, ?_⟩
   intro tb2 h_tb2
   generalize q_tb2 : upd Hd2 tb2 _ = He2
   have Se2 := newS h_tb2 q_tb2
   have ee2 := newE q_tb2
   and_intros
   have lev2 : LeV He2 (p.st, (p.nm, false)) (.ref tb2) := ⟨tb2, tc2, rfl, ee2, Se2 _ _ ed2⟩
   have Sce2 := Sd2.trans Se2
   have hle := Sce2 _ _ elc
   refine ⟨l2, [], _, rfl, rfl, hle, by show 0 < sizeLine; omega, ?_⟩
   generalize u3 : upd He2 l2 _ = H3
   and_intros
   have hJ3 := ((hJ2.sx scx hd2).same Sce2).first hv hn0 (fun g l' hl' z => by
    rcases hJ2.at_ g with ⟨h1, _⟩ | ⟨l2, xs2, h1, _, h3, _⟩
    ·rw [hl'] at h1; cases h1
    ·rw [hl'] at h1; cases h1; rw [z, h_l2] at h3; cases h3) hle lev2 u3
   have sj3 : SameJ d H2 H3 := fun b u hb hu h => by rw [← u3, upd_ne (fun z => by rw [z, h_l2] at h; cases h)]; exact Sce2 _ _ (scx _ _ hb h)
   have hd3 := Sce2 _ _ hdc
   rw [show He2 d = H3 d by rw [← u3, upd_ne (Ne.symm nd)]] at hd3
   have S03 : Same H0 H3 := fun b u h => by rw [← u3, upd_ne (ne_of_none h hn0)]; exact Sce2 _ _ (scx _ _ (ne_of_none h hd0) (S02 _ _ h))
   have lp := length_putK (putK kvs (Sum.inr p.st) (V.ref l1)) (Sum.inr p.en) (V.ref l2)
   rw [add_leads hne] at hJ3
   refine k H3 S03 (fun b u hb hu h => sj3 b u hb hu (sj2 b u hb hu h)) ⟨⟨dx, sj3 _ _ nj (by intro xs z; cases z) hj2⟩, hd0, _, hd3, ?_, hJ3⟩
   rw [List.length_append, List.length_singleton]
   omega
abbrev s_Joints_way_between : Stmt := inClass (top 33) 2
theorem sc_Joints_way_between : FnScope ["self", "one", "other", "found", "waiting", "face", "lead"] ["self", "one", "other"] (defScope s_Joints_way_between) := ⟨rfl, rfl, rfl, by decide +kernel, rfl, by decide +kernel, by decide +kernel⟩
def sp_Joints_way_between (K : PySem.W.Frag) (Ad : Adr) : Sp := fun vs H Q E => ∃ (j d : Addr) (one other : Str) (ls : List PD) (H0 : Hp), vs = [.ref j, .str one, .str other] ∧ JK Ad H0 H j d ls ∧ ls.length ≤ 20 ∧ (ls.map (·.nm)).Nodup ∧ (¬ Conn ls one other → ∀ H', Same H H' → Q .non H') ∧ (∀ w l xs H', Same H H' → H l = none → H' l = some (.lst xs) → All2 (CV H') w xs → WalkTo ls one w other → (w.map (·.1)).Nodup → Q (.ref l) H')
theorem ok_Joints_way_between {f : Addr} {fd : FuncData} {dV : Value} (F : FunD K "way_between" "Joints.way_between" s_Joints_way_between dV f fd) (T : Txt K mg Ad)  : FnOk P w K mg base (CX1 P w) 1 f fd ["self", "one", "other"] (sp_Joints_way_between K Ad) := by
 refine F.okn sc_Joints_way_between (fun vs H Q E h => ?_) (fun cdv A outer s H vs Q E hr h => ?_)
 ·obtain ⟨j, d, one, other, ls, H0, rfl, _⟩ := h; rfl
 obtain ⟨j, d, one, other, ls, H0, rfl, h⟩ := h
 have hu := hr.units
 refine ⟨_, (pss_cons (ps_set (i := 3) sc_Joints_way_between.nd rfl (Or.inl rfl) (pe_disp (pps_cons (pv 1) (pe_lst pa_nil) pps_nil) rfl rfl (by simp) (by decide)))
   (pss_cons (ps_set (i := 4) sc_Joints_way_between.nd rfl (Or.inl rfl) (pe_lst (pa_cons (pv 1) pa_nil)))
   (pss_cons (ps_while PassesOwn.never (pt_cmpR op_gtU (pe_callB call_lenU rfl T.n_len bt_len (pa_cons (pv 4) pa_nil)) pe_int (nomark _))
   (pss_cons (ps_set (i := 5) sc_Joints_way_between.nd rfl (Or.inl rfl) (pe_bm0 PySem.F.plainAttrs_list PySem.F.slot_list_pop PySem.F.type_list_pop mt_pop (pv 4)))
   (pss_one (ps_for PassesOwn.never rfl (pi_U (pe_dget2 (hu1 hu) (pe_fld (pv 0) rfl) (pv 5) (pe_lst pa_nil) ⟨rfl, rfl, rfl, rfl⟩)) (pg_name (i := 6) sc_Joints_way_between.nd rfl (Or.inl rfl))
   (pss_one (ps_if (pt_cmp (pc_dnotin (hu1 hu) (pe_ix ix_U (pv 6) pe_int (fun _ _ => rfl)) (pv 3)) (by with_unfolding_all rfl))
   (pss_cons (ps_dput (hu1 hu) (pv 3) (pe_ix ix_U (pv 6) pe_int (fun _ _ => rfl)) (pe_op op_addU (pe_dget (hu1 hu) (pv 3) (pv 5) (fun _ _ => rfl)) (pe_lst (pa_cons (pe_ix ix_U (pv 6) pe_int (fun _ _ => rfl)) pa_nil))) rfl)
   (pss_one (ps_expr (pe_bm PySem.F.plainAttrs_list PySem.F.slot_list_append PySem.F.type_list_append mt_append (pv 4) (pa_cons (pe_ix ix_U (pv 6) pe_int (fun _ _ => rfl)) pa_nil)))))
   pss_nil))))))
   (pss_one (ps_ret (pe_dget1 (hu1 hu) (pv 3) (pv 2) ⟨rfl, rfl, rfl, rfl⟩)))))), ?_⟩
 obtain ⟨⟨⟨dx, hj⟩, hd0, kvs, hd, hk, hJ⟩, hl, hnd, k1, k2⟩ := h
 have sl : (1000 : Nat) ≤ sizeLine := by decide
 have jc := T.c_Joints _ rfl
 show tSeq _ _ _ [some (.ref j), some (.str one), some (.str other), none, none, none, none] H
 and_intros
 intro fd h_fd
 generalize q_fd : upd H fd _ = H1
 have S1 := newS h_fd q_fd
 have e1 := newE q_fd
 and_intros
 refine ⟨len0, ?_⟩
 intro l0 h_l0
 generalize q_l0 : upd H1 l0 _ = H2
 have S2 := newS h_l0 q_l0
 have e2 := newE q_l0
 and_intros
 refine ⟨S2 _ _ e1, [(Sum.inr one, .ref l0)], rfl, by show 1 ≤ 15; omega, ?_⟩
 generalize u3 : upd H2 fd _ = H3
 and_intros
 have e3 : H3 fd = some (.dK [(Sum.inr one, .ref l0)]) := by rw [← u3]; exact upd_same.trans rfl
 have nl0 : l0 ≠ fd := fun z => by rw [z, e1] at h_l0; cases h_l0
 have e3l : H3 l0 = some (.lst []) := by rw [← u3, upd_ne nl0]; exact e2
 have S03 : Same H H3 := fun b u h => by rw [← u3, upd_ne (ne_of_none h h_fd)]; exact S2 _ _ (S1 _ _ h)
 have h0l : H l0 = none := by
  cases e : H l0 with
  | none => rfl
  | some o => rw [S1 _ _ e] at h_l0; cases h_l0
 refine ⟨by show 1 ≤ sizeLine; omega, ?_⟩
 intro wl h_wl
 generalize q_wl : upd H3 wl _ = H4
 have S4 := newS h_wl q_wl
 have e4 := newE q_wl
 and_intros
 have h0w : H wl = none := by
  cases e : H wl with
  | none => rfl
  | some o => rw [S03 _ _ e] at h_wl; cases h_wl
 have nwl : l0 ≠ wl := fun z => by rw [← z, e3l] at h_wl; cases h_wl
 have nfw : fd ≠ wl := fun z => by rw [← z, e3] at h_wl; cases h_wl
 have sr0 : Srch H ls one fd wl H4 [(one, [])] [one] := ⟨S03.trans S4, ⟨_, S4 _ _ e3, rfl, .ref l0, [], rfl, ⟨l0, [], rfl, h0l, nwl, S4 _ _ e3l, rfl⟩, rfl⟩, by simp, by simp, fun a ha => by rw [List.mem_singleton.mp ha]; exact .nil, e4, by simp, by simp, fun a ha => by rw [List.mem_singleton.mp ha]; simp⟩
 refine ⟨fun m σ H' => ∃ (v5 v6 : Option V) (ws : List (Str × List Pr)) (wt : List Str), σ = [some (.ref j), some (.str one), some (.str other), some (.ref fd), some (.ref wl), v5, v6] ∧ Srch H ls one fd wl H' ws wt ∧ (∀ a ∈ ws, a.1 ∉ wt → ∀ e ∈ leadsOf ls a.1, e.1 ∈ ws.map (·.1)) ∧ m = 2 * (41 - ws.length) + wt.length ∧ m ≤ 81, ⟨_, none, none, [(one, [])], [one], rfl, sr0, fun a ha hn => absurd (by rw [List.mem_singleton.mp ha]; simp) hn, rfl, by simp⟩, ?_⟩
 rintro m σ H5 ⟨v5, v6, ws, wt, rfl, sr, cl, rfl, m81⟩
 and_intros
 refine ⟨_, .inl (SqL.of sr.wait), ?_⟩
 and_intros
 rcases List.eq_nil_or_concat wt with rfl | ⟨wt', face, rfl⟩
 ·rw [if_neg (by simp)]
  and_intros
  obtain ⟨kv5, hf5, hb5⟩ := sr.dict
  and_intros
  refine ⟨fd, rfl, .inl ⟨kv5, .inl hf5⟩, _, DGet.k (k := Sum.inr other) hf5, ?_⟩
  rcases hb5.get (z := other) with ⟨a, v, h1, h2, h3, l, xs, rfl, h4, _, h5, h6⟩ | ⟨h1, h2⟩
  ·rw [h3]
   exact k2 a.2 l xs H5 sr.same h4 h5 h6 (by rw [← h2]; exact sr.walk a h1) (sr.sim a h1).1
  ·rw [h2]
   refine k1 (fun hc => h1 (conn_in sr.here (fun f hf e he => ?_) hc)) H5 sr.same
   obtain ⟨a, ha, rfl⟩ := List.mem_map.mp hf
   exact cl a ha (by simp) e he
 ·rw [if_pos (by simp)]
  and_intros
  rw [List.concat_eq_append] at sr cl m81 ⊢
  refine ⟨_, fun _ _ q => q, ?_⟩
  and_intros
  refine ⟨.inl ⟨rfl, _, SqL.of sr.wait⟩, ?_⟩
  refine ⟨wl, _, .str face, rfl, rfl, sr.wait, by simp, ?_⟩
  generalize u6 : upd H5 wl _ = H6
  and_intros
  have ed : ((wt' ++ [face]).map V.str).dropLast = wt'.map V.str := by simp
  rw [ed] at u6
  have sr6 : Srch H ls one fd wl H6 ws wt' := sr.wait' h0w u6 fun f hf => sr.sub f (by simp [hf])
  have hface := sr.sub face (by simp)
  and_intros
  refine ⟨j, _, dx, _, .ref d, rfl, sr6.same _ _ hj, jc.cls, jc.n1, rfl, ?_⟩
  and_intros
  refine ⟨d, rfl, .inl ⟨kvs, .inl (sr6.same _ _ hd)⟩, len0, ?_⟩
  intro le h_le
  generalize q_le : upd H6 le _ = H7
  have S7 := newS h_le q_le
  have e7 := newE q_le
  and_intros
  have sr7 := sr6.grow S7
  have nle : le ≠ wl := fun z => by have := sr6.wait; rw [← z, h_le] at this; cases this
  refine ⟨_, DGet.k (k := Sum.inr face) (sr7.same _ _ hd), ?_⟩
  obtain ⟨la, xs, hla, hxs, hlx, nla⟩ : ∃ la xs, (valV kvs (Sum.inr face)).getD (.ref le) = .ref la ∧ H7 la = some (.lst xs) ∧ All2 (LeV H7) (leadsOf ls face) xs ∧ la ≠ wl := by
   rcases hJ.at_ face with ⟨h1, h2⟩ | ⟨l, xs, h1, h2, h3, h4⟩
   ·exact ⟨le, [], by rw [h1]; rfl, e7, by rw [h2]; rfl, nle⟩
   ·exact ⟨l, xs, by rw [h1]; rfl, sr7.same _ _ h3, h4.mono fun _ _ z => z.sameT sr7.same.t, ne_of_none h3 h0w⟩
  have lx := hlx.length
  have l41 := sr7.len hl
  refine ⟨la, hla, ForA.byLN (xs := xs) (SqL.of hxs) (fun i σ H' => i ≤ xs.length ∧ ∃ (v6 : Option V) (ws2 : List (Str × List Pr)) (wt2 : List Str), σ = [some (.ref j), some (.str one), some (.str other), some (.ref fd), some (.ref wl), some (.str face), v6] ∧ Srch H ls one fd wl H' ws2 wt2 ∧ H' la = some (.lst xs) ∧ SameT H7 H' ∧ (∀ a ∈ ws2, a.1 ∉ wt2 → a.1 ≠ face → ∀ e ∈ leadsOf ls a.1, e.1 ∈ ws2.map (·.1)) ∧ (∀ e ∈ (leadsOf ls face).take i, e.1 ∈ ws2.map (·.1)) ∧ face ∈ ws2.map (·.1) ∧ 2 * (41 - ws2.length) + wt2.length ≤ 2 * (41 - ws.length) + wt'.length) ⟨Nat.zero_le _, v6, ws, wt', rfl, sr7, hxs, SameT.refl _, fun a ha h1 h2 => cl a ha (by simp [h1, h2]), by simp, hface, Nat.le_refl _⟩ (fun i σ H' z => by obtain ⟨_, _, _, _, _, _, z, _⟩ := z; exact SqL.of z) ?_ ?_⟩
  ·rintro i y σ H8 hy ⟨hi, v6, ws2, wt2, rfl, sr8, hl8, T78, cl8, pt8, fc8, ms8⟩ N0 hN0
   have li : i < xs.length := (List.getElem?_eq_some_iff.mp hy).1
   obtain ⟨e, he, b, c, rfl, hb7, hc7⟩ := hlx.at_ hy
   have hb8 := T78 _ _ rfl hb7
   have hc8 := T78 _ _ rfl hc7
   have etk : (leadsOf ls face).take (i + 1) = (leadsOf ls face).take i ++ [e] := by rw [List.take_succ, he]; rfl
   have hem : e ∈ leadsOf ls face := List.mem_of_getElem? he
   obtain ⟨kv8, hf8, bg8⟩ := sr8.dict
   and_intros
   refine ixT (i := 0) (SqT.of hb8) rfl ?_
   refine ⟨fd, _, rfl, DGet.k (k := Sum.inr e.1) hf8, ?_⟩
   rw [bg8.val]
   by_cases cin : e.1 ∈ ws2.map (·.1)
   ·rw [decide_eq_true cin]
    and_intros
    refine hN0 _ _ ⟨li, _, ws2, wt2, rfl, sr8, hl8, T78, cl8, fun e' he' => ?_, fc8, ms8⟩
    rw [etk] at he'
    rcases List.mem_append.mp he' with h' | h'
    ·exact pt8 e' h'
    ·rw [List.mem_singleton.mp h']
     exact cin
   ·rw [decide_eq_false cin]
    and_intros
    obtain ⟨a, v, ha, haf, hv, l, xw, rfl, hl0, hlw, hlx8, hxa⟩ := bg8.some fc8
    have wl8 := sr8.lw a ha
    have w41 := sr8.len hl
    have lxw := hxa.length
    refine ⟨fd, .ref l, rfl, by rw [← hv]; exact DGet.k (k := Sum.inr face) hf8, ?_⟩
    refine ixT (i := 1) (SqT.of hb8) rfl ?_
    refine ⟨by show 1 ≤ sizeLine; omega, ?_⟩
    intro ln h_ln
    generalize q_ln : upd H8 ln _ = H9
    have S9 := newS h_ln q_ln
    have e9 := newE q_ln
    and_intros
    refine .inl ⟨l, ln, xw, _, rfl, rfl, S9 _ _ hlx8, e9, by simp; omega, ?_⟩
    intro lr h_lr
    generalize q_lr : upd H9 lr _ = H10
    have S10 := newS h_lr q_lr
    have e10 := newE q_lr
    and_intros
    and_intros
    have S810 := S9.trans S10
    have sr10 := sr8.grow S810
    refine ixT (i := 0) (SqT.of (S810 _ _ hb8)) rfl ?_
    have lk := bg8.length
    refine ⟨fd, _, rfl, DPut.k (k := Sum.inr e.1) (S810 _ _ hf8) (by omega), ?_⟩
    generalize u11 : upd H10 fd _ = H11
    and_intros
    have n0 : H lr = none := by
     cases e : H lr with
     | none => rfl
     | some o => rw [S9 _ _ (sr8.same _ _ e)] at h_lr; cases h_lr
    have nlr : lr ≠ wl := fun z => by have := (sr8.grow S9).wait; rw [← z, h_lr] at this; cases this
    have hwk : WalkTo ls one (a.2 ++ [e.2]) e.1 := .snoc (by rw [← haf]; exact sr8.walk a ha) hem
    have hf10 := S810 _ _ hf8
    have bg10 := bg8.mono (P' := PWy H H10 wl) fun a v ⟨l, xs, e1, hn, hne, hx, ha⟩ => ⟨l, xs, e1, hn, hne, S810 _ _ hx, ha.mono fun _ _ z => z.sameT S810.t⟩
    have cv : CV H10 e.2 (.ref c) := ⟨c, rfl, S810 _ _ hc8⟩
    obtain ⟨pp, hpp, hpe⟩ := (lead_mem (g := e.1) (pr := e.2)).mp hem
    have hpn : e.2.1 = pp.nm := by rcases hpe with h | h; rw [h.2.2]; rw [h.2.2.2]
    have hps : (pp.st = face ∧ pp.en = e.1) ∨ (pp.en = face ∧ pp.st = e.1) := by rcases hpe with h | h; exact .inl ⟨h.1, h.2.1⟩; exact .inr ⟨h.2.1, h.2.2.1⟩
    have hsm : ((a.2 ++ [e.2]).map (·.1)).Nodup ∧ ∀ p ∈ ls, p.nm ∈ (a.2 ++ [e.2]).map (·.1) → p.st ∈ (ws2 ++ [(e.1, a.2 ++ [e.2])]).map (·.1) ∧ p.en ∈ (ws2 ++ [(e.1, a.2 ++ [e.2])]).map (·.1) := by
     have sm := sr8.sim a ha
     have nin : e.2.1 ∉ a.2.map (·.1) := fun z => by
      have := sm.2 pp hpp (hpn ▸ z)
      rcases hps with h | h
      ·exact cin (h.2 ▸ this.2)
      ·exact cin (h.2 ▸ this.1)
     rw [List.map_append, List.map_append, List.map_cons, List.map_nil, List.map_cons, List.map_nil]
     refine ⟨List.nodup_append.mpr ⟨sm.1, by simp, fun x hx y hy z => nin (by rw [List.mem_singleton] at hy; rw [← hy, ← z]; exact hx)⟩, fun p hp hn => ?_⟩
     rcases List.mem_append.mp hn with hn | hn
     ·have := sm.2 p hp hn
      exact ⟨List.mem_append.mpr (.inl this.1), List.mem_append.mpr (.inl this.2)⟩
     ·have ep := nm_uniq hnd hp hpp ((List.mem_singleton.mp hn).trans hpn)
      subst ep
      have m1 : e.1 ∈ ws2.map (·.1) ++ [e.1] := List.mem_append.mpr (.inr (by simp))
      have m2 : face ∈ ws2.map (·.1) ++ [e.1] := List.mem_append.mpr (.inl fc8)
      rcases hps with h | h
      ·rw [h.1, h.2]
       exact ⟨m2, m1⟩
      ·rw [h.1, h.2]
       exact ⟨m1, m2⟩
    have sr11 := sr10.find hf10 bg10 h_fd cin hwk (by simp; omega) hsm n0 nlr e10 ((hxa.mono (P' := CV H10) fun _ _ z => z.sameT S810.t).append (.one cv)) u11
    have T11 : SameT H10 H11 := SameT.put u11 hf10 rfl
    have nlf : la ≠ fd := fun z => by rw [z, hf8] at hl8; cases hl8
    have hl11 : H11 la = some (.lst xs) := by rw [← u11, upd_ne nlf]; exact S810 _ _ hl8
    have l11 := sr11.len hl
    rw [List.length_append, List.length_singleton] at l11
    have lw' : (wt2.map V.str).length ≤ 81 := by
     rw [List.length_map]
     rw [List.length_append, List.length_singleton] at m81
     omega
    refine ⟨.inl ⟨rfl, _, SqL.of sr11.wait⟩, ?_⟩
    refine ixT (i := 0) (SqT.of (T11 _ _ rfl (S810 _ _ hb8))) rfl ?_
    refine ⟨wl, _, _, rfl, rfl, sr11.wait, by omega, ?_⟩
    generalize u12 : upd H11 wl _ = H12
    and_intros
    have ea : wt2.map V.str ++ [V.str e.1] = (wt2 ++ [e.1]).map V.str := by simp
    rw [ea] at u12
    have sr12 := sr11.wait' h0w u12 (fun f hf => by
     rcases List.mem_append.mp hf with h' | h'
     ·exact sr11.sub f h'
     ·rw [List.mem_singleton.mp h', List.map_append]
      simp)
    have T12 : SameT H11 H12 := SameT.put u12 sr11.wait rfl
    refine hN0 _ _ ⟨li, _, ws2 ++ [(e.1, a.2 ++ [e.2])], wt2 ++ [e.1], rfl, sr12, by rw [← u12, upd_ne nla]; exact hl11, T78.trans (S810.t.trans (T11.trans T12)), fun a' ha' h1 h2 e' he' => ?_, fun e' he' => ?_, ?_, ?_⟩
    ·rw [List.map_append]
     rcases List.mem_append.mp ha' with h' | h'
     ·exact List.mem_append.mpr (.inl (cl8 a' h' (fun z => h1 (by simp [z])) h2 e' he'))
     ·refine absurd ?_ h1
      rw [List.mem_singleton.mp h']
      simp
    ·rw [List.map_append]
     rw [etk] at he'
     rcases List.mem_append.mp he' with h' | h'
     ·exact List.mem_append.mpr (.inl (pt8 e' h'))
     ·rw [List.mem_singleton.mp h']
      simp
    ·rw [List.map_append]
     exact List.mem_append.mpr (.inl fc8)
    ·rw [List.length_append, List.length_append, List.length_singleton, List.length_singleton]
     omega
  ·rintro σ H8 ⟨hi, v6, ws2, wt2, rfl, sr8, hl8, T78, cl8, pt8, fc8, ms8⟩
   rw [List.length_append, List.length_singleton] at m81
   refine ⟨_, by rw [List.length_append, List.length_singleton]; omega, some (.str face), v6, ws2, wt2, rfl, sr8, fun a ha hn e he => ?_, rfl, by omega⟩
   by_cases c : a.1 = face
   ·rw [List.take_of_length_le (by omega)] at pt8
    rw [c] at he
    exact pt8 e he
   ·exact cl8 a ha hn c e he
abbrev s_Thinguu_inituu : Stmt := inClass (top 34) 0
theorem sc_Thinguu_inituu : FnScope ["self", "parts", "gaps", "joints", "row", "part", "gap", "found"] ["self", "parts", "gaps"] (defScope s_Thinguu_inituu) := ⟨rfl, rfl, rfl, by decide +kernel, rfl, by decide +kernel, by decide +kernel⟩
def sp_Thinguu_inituu (K : PySem.W.Frag) (Ad : Adr) : Sp := fun vs H Q E => ∃ (x dx a c : Addr) (xs zs : List V) (es : List (PD ⊕ D)) (fs : List (GD ⊕ D)) (H0 : Hp), vs = [.ref x, .ref a, .ref c] ∧ H x = some (.ins Ad.Thing dx []) ∧ H0 x = none ∧ Same H0 H ∧ SqL K H0 a xs ∧ All2 (PEV K H0) es xs ∧ SqL K H0 c zs ∧ All2 (GEV K H0) fs zs ∧ es.length ≤ 20 ∧ fs.length ≤ 20 ∧ (match partsW [] es with | .noPart => ∀ H', Same H0 H' → E (.ref Ad.NoPart) none H' | .twice => ∀ H', Same H0 H' → E (.ref Ad.Twice) none H' | .ring => ∀ H', Same H0 H' → E (.ref Ad.InRing) none H' | .ok ls => match gapsW ls [] fs with | .noGap => ∀ H', Same H0 H' → E (.ref Ad.NoGap) none H' | .twice => ∀ H', Same H0 H' → E (.ref Ad.Twice) none H' | .apart => ∀ H', Same H0 H' → E (.ref Ad.Apart) none H' | .ok gs => ∀ H', Same H0 H' → TK K Ad H' x ls gs → Q .non H')
theorem ok_Thinguu_inituu {f : Addr} {fd : FuncData} {dV : Value} (F : FunD K "__init__" "Thing.__init__" s_Thinguu_inituu dV f fd) (T : Txt K mg Ad) (k_Joints : KCal P w K mg base 1 "Joints" Ad.Joints ["self"] (sp_Jointsuu_inituu K Ad)) (c_part_of : Cal P w K mg base 6 "part_of" ["thing"] [] (sp_part_of K Ad)) (c_gap_of : Cal P w K mg base 7 "gap_of" ["thing"] [] (sp_gap_of K Ad)) (m_way_between : MCal P w K mg base 1 "way_between" (IsJoints Ad) ["self", "one", "other"] (sp_Joints_way_between K Ad)) (m_link : MCal P w K mg base 1 "link" (IsJoints Ad) ["self", "part"] (sp_Joints_link K Ad)) : FnOk P w K mg base (CX1 P w) 9 f fd ["self", "parts", "gaps"] (sp_Thinguu_inituu K Ad) := by
 refine F.okx sc_Thinguu_inituu (fun vs H Q E h => ?_) (fun cdv A outer s H vs Q E hr h => ?_)
 ·obtain ⟨x, dx, a, c, xs, zs, es, fs, H0, rfl, _⟩ := h; rfl
 obtain ⟨x, dx, a, c, xs, zs, es, fs, H0, rfl, h⟩ := h
 have hu := hr.units
 refine ⟨_, (pss_cons (ps_set (i := 3) sc_Thinguu_inituu.nd rfl (Or.inl rfl) (k_Joints.ev0 hr (by decide) rfl pass1))
   (pss_cons (ps_fld (pv 0) pe_dnewK rfl)
   (pss_cons (ps_for PassesOwn.leaving rfl (pi_U (pv 1)) (pg_name (i := 4) sc_Thinguu_inituu.nd rfl (Or.inl rfl))
   (pss_cons (ps_set (i := 5) sc_Thinguu_inituu.nd rfl (Or.inl rfl) (c_part_of.ev hr (by decide) rfl pass1 (pa_cons (pv 4) pa_nil)))
   (pss_cons (ps_if (pt_cmp (pc_din (hu1 hu) (pe_fld (pv 5) rfl) (pe_fld (pv 0) rfl)) (by with_unfolding_all rfl))
   (pss_one (ps_raise PySem.F.excBase_ValueError T.x_Twice rfl T.m_Twice (pa_cons pe_str pa_nil)))
   pss_nil)
   (pss_cons (ps_if (pt_cmpR op_notNU (m_way_between.m hr (by decide) pass1 (pv 3) (pa_cons (pe_fld (pv 5) rfl) (pa_cons (pe_fld (pv 5) rfl) pa_nil))) pe_non (nomark _))
   (pss_one (ps_raise PySem.F.excBase_ValueError T.x_InRing rfl T.m_InRing (pa_cons pe_str pa_nil)))
   pss_nil)
   (pss_cons (ps_expr (m_link.m hr (by decide) pass1 (pv 3) (pa_cons (pv 5) pa_nil)))
   (pss_one (ps_dput (hu1 hu) (pe_fld (pv 0) rfl) (pe_fld (pv 5) rfl) (pv 5) rfl)))))))
   (pss_cons (ps_fld (pv 0) pe_dnewK rfl)
   (pss_cons (ps_fld (pv 0) pe_dnewK rfl)
   (pss_one (ps_for PassesOwn.leaving rfl (pi_U (pv 2)) (pg_name (i := 4) sc_Thinguu_inituu.nd rfl (Or.inl rfl))
   (pss_cons (ps_set (i := 6) sc_Thinguu_inituu.nd rfl (Or.inl rfl) (c_gap_of.ev hr (by decide) rfl pass1 (pa_cons (pv 4) pa_nil)))
   (pss_cons (ps_if (pt_cmp (pc_din (hu1 hu) (pe_fld (pv 6) rfl) (pe_fld (pv 0) rfl)) (by with_unfolding_all rfl))
   (pss_one (ps_raise PySem.F.excBase_ValueError T.x_Twice rfl T.m_Twice (pa_cons pe_str pa_nil)))
   pss_nil)
   (pss_cons (ps_set (i := 7) sc_Thinguu_inituu.nd rfl (Or.inl rfl) (m_way_between.m hr (by decide) pass1 (pv 3) (pa_cons (pe_fld (pv 6) rfl) (pa_cons (pe_fld (pv 6) rfl) pa_nil))))
   (pss_cons (ps_if (pt_cmpR op_isNU (pv 7) pe_non (nomark _))
   (pss_one (ps_raise PySem.F.excBase_ValueError T.x_Apart rfl T.m_Apart (pa_cons pe_str pa_nil)))
   pss_nil)
   (pss_cons (ps_dput (hu1 hu) (pe_fld (pv 0) rfl) (pe_fld (pv 6) rfl) (pv 6) rfl)
   (pss_one (ps_dput (hu1 hu) (pe_fld (pv 0) rfl) (pe_fld (pv 6) rfl) (pv 7) rfl)))))))))))))), ?_⟩
 obtain ⟨hx, hx0, S0, hS, hE, hC, hG, hl, hg, k⟩ := h
 have tc := T.c_Thing _ rfl
 have pc := T.c_Part _ rfl
 have gc := T.c_Gap _ rfl
 have sl : (1000 : Nat) ≤ sizeLine := by decide
 have le := hE.length
 have lg := hG.length
 show tSeq _ _ _ [some (.ref x), some (.ref a), some (.ref c), none, none, none, none, none] H
 symm_saturate
 intro j dj hj hdj nj
 have Sm : Same H (upd (upd H dj (.own j)) j (.ins Ad.Joints dj [])) := fun b u q => by rw [upd_ne (ne_of_none q hj), upd_ne (ne_of_none q hdj)]; exact q
 generalize um : upd (upd H dj (.own j)) j (.ins Ad.Joints dj []) = Hm at Sm ⊢
 symm_saturate
 have em : Hm j = some (.ins Ad.Joints dj []) := by rw [← um, upd_same]
 refine ⟨j, dj, rfl, em, fun d H1 hd1 ndj e1j e1d fr1 => ⟨rfl, ?_⟩⟩
 have fresh : ∀ {H : Hp} {b : Addr}, Same H0 H → H b = none → H0 b = none := fun {H b} S h => by
  cases e : H0 b with
  | none => rfl
  | some o => rw [S _ _ e] at h; cases h
 have sdI : ∀ {H H' : Hp} {d : Addr} {kv : List (Key × V)}, (∀ b u, b ≠ d → H b = some u → H' b = some u) → H d = some (.dK kv) → SameI H H' := fun {H H' d kv} S hd b u t h => S b u (fun z => by rw [z, hd] at h; cases h; simp [isTI, isTF] at t) h
 have sdL : ∀ {H H' : Hp} {d b : Addr} {kv : List (Key × V)} {ys : List V}, (∀ b u, b ≠ d → H b = some u → H' b = some u) → H d = some (.dK kv) → H b = some (.lst ys) → H' b = some (.lst ys) := fun {H H' d b kv ys} S hd h => S _ _ (fun z => by rw [z, hd] at h; cases h) h
 have sdJ : ∀ {H H' : Hp} {e : Addr} {kv : List (Key × V)} {ls : List PD}, (∀ b u, b ≠ e → H b = some u → H' b = some u) → H e = some (.dK kv) → e ≠ d → JK Ad H0 H j d ls → JK Ad H0 H' j d ls := fun {H H' e kv ls} S he ne ⟨⟨dj, h1⟩, h2, kvs, h3, h4, h5⟩ => ⟨⟨dj, S _ _ (fun z => by rw [z, he] at h1; cases h1) h1⟩, h2, kvs, S _ _ (Ne.symm ne) h3, h4, h5.sx S he⟩
 have j0 := fresh S0 hj
 have S01 : Same H0 H1 := fun b u h => fr1 b u (ne_of_none h j0) (Sm _ _ (S0 _ _ h))
 have nxj : x ≠ j := ne_of_none hx hj
 have hx1 : H1 x = some (.ins Ad.Thing dx []) := fr1 x _ nxj (Sm _ _ hx)
 have d0 : H0 d = none := fresh (S0.trans Sm) hd1
 intro d1 h_d1
 generalize q_d1 : upd H1 d1 _ = H2
 have S2 := newS h_d1 q_d1
 have e2 := newE q_d1
 symm_saturate
 symm_saturate
 refine ⟨x, _, dx, _, rfl, S2 _ _ hx1, tc.cls, tc.n1, by simp, ?_⟩
 generalize u3 : upd H2 x _ = H3
 symm_saturate
 have e3 : H3 x = some (.ins Ad.Thing dx [("parts_by_name", .ref d1)]) := by rw [← u3]; exact upd_same.trans rfl
 have fr3 : ∀ b u, b ≠ x → H2 b = some u → H3 b = some u := fun b u hb h => by rw [← u3, upd_ne hb]; exact h
 have S03 : Same H0 H3 := fun b u h => fr3 _ _ (ne_of_none h hx0) (S2 _ _ (S01 _ _ h))
 have ndx : d ≠ x := fun z => by rw [z, hx1] at e1d; cases e1d
 have nd1x : d1 ≠ x := fun z => by rw [z, hx1] at h_d1; cases h_d1
 have nd1d : d1 ≠ d := fun z => by rw [z, e1d] at h_d1; cases h_d1
 have e3d1 : H3 d1 = some (.dK []) := fr3 _ _ nd1x e2
 have d10 := fresh S01 h_d1
 have jk3 : JK Ad H0 H3 j d [] := ⟨⟨dj, fr3 _ _ (Ne.symm nxj) (S2 _ _ e1j)⟩, d0, [], fr3 _ _ ndx (S2 _ _ e1d), by simp, JD.nil⟩
 refine ⟨a, rfl, ForA.byLN (xs := xs) (hS.same S03) (fun i σ H' => i ≤ xs.length ∧ ∃ (v4 v5 : Option V) (k1 : List (Key × V)) (ls : List PD), σ = [some (.ref x), some (.ref a), some (.ref c), some (.ref j), v4, v5, none, none] ∧ Same H0 H' ∧ H' x = some (.ins Ad.Thing dx [("parts_by_name", .ref d1)]) ∧ JK Ad H0 H' j d ls ∧ H' d1 = some (.dK k1) ∧ BG (·.nm) (POV K Ad H') ls k1 ∧ ls.length = i ∧ (ls.map (·.nm)).Nodup ∧ partsW ls (es.drop i) = partsW [] es) ⟨Nat.zero_le _, none, none, [], [], rfl, S03, e3, jk3, e3d1, ⟨rfl, rfl⟩, rfl, .nil, rfl⟩ (fun i σ H' z => by obtain ⟨_, _, _, _, _, _, z, _⟩ := z; exact hS.same z) ?_ ?_⟩
 ·rintro i y σ H4 hy ⟨hi, v4, v5, k1, ls, rfl, S4, hx4, jk4, hd4, bg4, hli, hnd, hw⟩ N0 hN0
  have li : i < xs.length := (List.getElem?_eq_some_iff.mp hy).1
  obtain ⟨e, he, ev0⟩ := hE.at_ hy
  have lie : i < es.length := by omega
  have edr : es.drop i = e :: es.drop (i + 1) := by
   rw [List.drop_eq_getElem_cons lie]
   rw [List.getElem?_eq_getElem lie] at he
   rw [Option.some.inj he]
  rw [edr] at hw
  have lk := bg4.length
  symm_saturate
  match e, ev0.same S4, hw with
  | .inr cc, ev, hw =>
   rw [partsW_bad] at hw
   rw [← hw] at k
   exact ⟨y, .inr cc, rfl, ev, fun H5 S5 => k H5 (S4.trans S5)⟩
  | .inl p, ev, hw =>
   refine ⟨y, .inl p, rfl, ev, fun v H5 S5 pv => ?_⟩
   obtain ⟨q, dq, vz, vm, rfl, hq5, hz, hm⟩ := id pv
   have ok := ev.2
   have hx5 := S5 _ _ hx4
   have hd5 := S5 _ _ hd4
   have jk5 := jk4.same S5
   have bg5 := bg4.mono (P' := POV K Ad H5) fun _ _ z => z.si (Same.i S5)
   obtain ⟨⟨dj5, hj5⟩, _⟩ := id jk5
   symm_saturate
   refine ⟨q, _, dq, _, .str p.nm, rfl, hq5, pc.cls, pc.n1, rfl, ?_⟩
   refine ⟨x, _, dx, _, .ref d1, rfl, hx5, tc.cls, tc.n1, rfl, ?_⟩
   refine ⟨d1, _, rfl, DGet.k (k := Sum.inr p.nm) hd5, ?_⟩
   rw [bg5.val]
   by_cases cn : p.nm ∈ ls.map (·.nm)
   ·rw [partsW_two cn] at hw
    rw [← hw] at k
    rw [decide_eq_true cn]
    symm_saturate
    exact ⟨by show 1 ≤ sizeLine; omega, k H5 (S4.trans S5)⟩
   ·rw [decide_eq_false cn]
    symm_saturate
    refine ⟨j, _, dj5, _, rfl, hj5, rfl, rfl, ?_⟩
    symm_saturate
    refine ⟨q, _, dq, _, .str p.st, rfl, hq5, pc.cls, pc.n2, rfl, ?_⟩
    refine ⟨q, _, dq, _, .str p.en, rfl, hq5, pc.cls, pc.n3, rfl, ?_⟩
    refine ⟨j, d, p.st, p.en, ls, H0, rfl, jk5, by omega, hnd, fun hc H6 S6 => ?_, fun w l yy H6 S6 hl6 e6 hcv hwk _ => ?_⟩
    ·rw [partsW_go cn hc] at hw
     symm_saturate
     have jk6 := jk5.same S6
     have S06 := S4.trans (S5.trans S6)
     refine ⟨j, _, dj5, _, rfl, S6 _ _ hj5, rfl, rfl, ?_⟩
     symm_saturate
     refine ⟨j, d, .ref q, ls, p, H0, rfl, jk6, S06, pv.si (Same.i S6), ok.ne, by omega, fun H7 S07 sj jk7 => ?_⟩
     have nd : ∀ {b : Addr} {C dd : Addr} {ff : List (Str × V)}, H6 b = some (.ins C dd ff) → H7 b = some (.ins C dd ff) := fun {b C dd ff} h => by
      obtain ⟨_, _, _, hdd, _⟩ := jk6
      exact sj _ _ (fun z => by rw [z, hdd] at h; cases h) (by intro xs z; cases z) h
     have SI : SameI H6 H7 := fun b u t h => by
      obtain ⟨_, _, _, hdd, _⟩ := jk6
      exact sj b u (fun z => by rw [z, hdd] at h; cases h; simp [isTI, isTF] at t) (fun xs z => by rw [z] at t; simp [isTI, isTF] at t) h
     have hd7 : H7 d1 = some (.dK k1) := sj _ _ nd1d (by intro xs z; cases z) (S6 _ _ hd5)
     have bg7 := bg5.mono (P' := POV K Ad H7) fun _ _ z => (z.si (Same.i S6)).si SI
     have pv7 := (pv.si (Same.i S6)).si SI
     symm_saturate
     refine ⟨x, _, dx, _, .ref d1, rfl, nd (S6 _ _ hx5), tc.cls, tc.n1, rfl, ?_⟩
     refine ⟨q, _, dq, _, .str p.nm, rfl, nd (S6 _ _ hq5), pc.cls, pc.n1, rfl, ?_⟩
     refine ⟨d1, _, rfl, DPut.k (k := Sum.inr p.nm) hd7 (by omega), ?_⟩
     generalize u8 : upd H7 d1 _ = H8
     symm_saturate
     have e8 := putE u8
     have sd8 : ∀ b u, b ≠ d1 → H7 b = some u → H8 b = some u := fun b u hb h => by rw [← u8, upd_ne hb]; exact h
     have SI8 := sdI sd8 hd7
     refine hN0 _ _ ⟨li, _, _, _, ls ++ [p], rfl, fun b u h => sd8 _ _ (ne_of_none h d10) (S07 _ _ h), sd8 _ _ (Ne.symm nd1x) (nd (S6 _ _ hx5)), sdJ sd8 hd7 nd1d jk7, e8, ?_, by simp [hli], by rw [List.map_append]; exact List.nodup_append.mpr ⟨hnd, by simp, fun u hu v hv z => cn (by have e : v = p.nm := List.mem_singleton.mp hv; rw [← e, ← z]; exact hu)⟩, hw⟩
     exact (bg7.new (a := p) cn pv7).mono fun _ _ z => z.si SI8
    ·by_cases hc : Conn ls p.st p.en
     ·rw [partsW_ring cn hc] at hw
      rw [← hw] at k
      symm_saturate
      exact ⟨by show 1 ≤ sizeLine; omega, k H6 (S4.trans (S5.trans S6))⟩
     ·exact absurd ⟨w, hwk⟩ hc
 ·rintro σ H4 ⟨hi, v4, v5, k1, ls, rfl, S4, hx4, jk4, hd4, bg4, hli, hnd, hw⟩
  rw [List.drop_eq_nil_of_le (by omega), partsW] at hw
  rw [← hw] at k
  dsimp only at k
  symm_saturate
  obtain ⟨⟨dj4, hj4⟩, _, kd4, hdd4, hkd4, hJ4⟩ := id jk4
  intro d2 h_d2
  generalize q_d2 : upd H4 d2 _ = H5
  have S5 := newS h_d2 q_d2
  have e5 := newE q_d2
  symm_saturate
  refine ⟨x, _, dx, _, rfl, S5 _ _ hx4, tc.cls, tc.n2, by simp, ?_⟩
  generalize u6 : upd H5 x _ = H6
  symm_saturate
  have e6 : H6 x = some (.ins Ad.Thing dx [("parts_by_name", .ref d1), ("gaps_by_name", .ref d2)]) := by rw [← u6]; exact upd_same.trans rfl
  have fr6 : ∀ b u, b ≠ x → H5 b = some u → H6 b = some u := fun b u hb h => by rw [← u6, upd_ne hb]; exact h
  symm_saturate
  intro d3 h_d3
  generalize q_d3 : upd H6 d3 _ = H7
  have S7 := newS h_d3 q_d3
  have e7 := newE q_d3
  symm_saturate
  refine ⟨x, _, dx, _, rfl, S7 _ _ e6, tc.cls, tc.n3, by simp, ?_⟩
  generalize u8 : upd H7 x _ = H8
  symm_saturate
  have e8 : H8 x = some (.ins Ad.Thing dx [("parts_by_name", .ref d1), ("gaps_by_name", .ref d2), ("ways", .ref d3)]) := by rw [← u8]; exact upd_same.trans rfl
  have fr8 : ∀ b u, b ≠ x → H7 b = some u → H8 b = some u := fun b u hb h => by rw [← u8, upd_ne hb]; exact h
  have st8 : ∀ b u, b ≠ x → H4 b = some u → H8 b = some u := fun b u hb h => fr8 _ _ hb (S7 _ _ (fr6 _ _ hb (S5 _ _ h)))
  have nd2x : d2 ≠ x := fun z => by rw [z, hx4] at h_d2; cases h_d2
  have nd2d1 : d2 ≠ d1 := fun z => by rw [z, hd4] at h_d2; cases h_d2
  have nd2d : d2 ≠ d := fun z => by rw [z, hdd4] at h_d2; cases h_d2
  have nd3x : d3 ≠ x := fun z => by rw [z, e6] at h_d3; cases h_d3
  have e6d1 := fr6 _ _ nd1x (S5 _ _ hd4)
  have e6d := fr6 _ _ ndx (S5 _ _ hdd4)
  have e6d2 := fr6 _ _ nd2x e5
  have nd3d1 : d3 ≠ d1 := fun z => by rw [z, e6d1] at h_d3; cases h_d3
  have nd3d : d3 ≠ d := fun z => by rw [z, e6d] at h_d3; cases h_d3
  have nd3d2 : d3 ≠ d2 := fun z => by rw [z, e6d2] at h_d3; cases h_d3
  have d20 := fresh S4 h_d2
  have S06 : Same H0 H6 := fun b u h => fr6 _ _ (ne_of_none h hx0) (S5 _ _ (S4 _ _ h))
  have d30 := fresh S06 h_d3
  have S08 : Same H0 H8 := fun b u h => st8 _ _ (ne_of_none h hx0) (S4 _ _ h)
  have T48 : SameT H4 H8 := fun b u t h => st8 _ _ (fun z => by rw [z, hx4] at h; cases h; simp [isTF] at t) h
  have jk8 : JK Ad H0 H8 j d ls := ⟨⟨dj4, st8 _ _ (Ne.symm nxj) hj4⟩, d0, kd4, st8 _ _ ndx hdd4, hkd4, hJ4.sy st8 hx4 (by intro xs z; cases z) rfl⟩
  have bg8 : BG (·.nm) (POV K Ad H8) ls k1 := bg4.mono fun p v ⟨q, dq, vz, vm, h1, h2, h3, h4⟩ => ⟨q, dq, vz, vm, h1, st8 _ _ (ne_of h2 hx4 (by
   intro z
   injection z with _ _ z3
   have := congrArg List.length z3
   simp [partF] at this)) h2, h3.sameT T48, h4.sameT T48⟩
  refine ⟨c, rfl, ForA.byLN (xs := zs) (hC.same S08) (fun i σ H' => i ≤ zs.length ∧ ∃ (v4 v6 v7 : Option V) (k2 k3 : List (Key × V)) (gs : List GD), σ = [some (.ref x), some (.ref a), some (.ref c), some (.ref j), v4, v5, v6, v7] ∧ Same H0 H' ∧ H' x = some (.ins Ad.Thing dx [("parts_by_name", .ref d1), ("gaps_by_name", .ref d2), ("ways", .ref d3)]) ∧ JK Ad H0 H' j d ls ∧ H' d1 = some (.dK k1) ∧ BG (·.nm) (POV K Ad H') ls k1 ∧ H' d2 = some (.dK k2) ∧ BG (·.nm) (GOV K Ad H') gs k2 ∧ H' d3 = some (.dK k3) ∧ BG (·.nm) (WOV H' ls) gs k3 ∧ gs.length = i ∧ gapsW ls gs (fs.drop i) = gapsW ls [] fs) ⟨Nat.zero_le _, v4, none, none, [], [], [], rfl, S08, e8, jk8, st8 _ _ nd1x hd4, bg8, fr8 _ _ nd2x (S7 _ _ e6d2), ⟨rfl, rfl⟩, fr8 _ _ nd3x e7, ⟨rfl, rfl⟩, rfl, rfl⟩ (fun i σ H' z => by obtain ⟨_, _, _, _, _, _, _, _, z, _⟩ := z; exact hC.same z) ?_ ?_⟩
  ·rintro i y σ H9 hy ⟨hi, v4, v6, v7, k2, k3, gs, rfl, S9, hx9, jk9, hd19, bg9, hd29, bh9, hd39, bw9, hgi, hw2⟩ N0 hN0
   have li : i < zs.length := (List.getElem?_eq_some_iff.mp hy).1
   obtain ⟨e, he, ev0⟩ := hG.at_ hy
   have lie : i < fs.length := by omega
   have edr : fs.drop i = e :: fs.drop (i + 1) := by
    rw [List.drop_eq_getElem_cons lie]
    rw [List.getElem?_eq_getElem lie] at he
    rw [Option.some.inj he]
   rw [edr] at hw2
   have lk := bh9.length
   have lk3 := bw9.length
   symm_saturate
   match e, ev0.same S9, hw2 with
   | .inr cc, ev, hw2 =>
    rw [gapsW_bad] at hw2
    rw [← hw2] at k
    exact ⟨y, .inr cc, rfl, ev, fun H10 S10 => k H10 (S9.trans S10)⟩
   | .inl g, ev, hw2 =>
    refine ⟨y, .inl g, rfl, ev, fun v H10 S10 gv => ?_⟩
    obtain ⟨q, dq, vl, vg, rfl, hq10, hz, hm⟩ := id gv
    have hx10 := S10 _ _ hx9
    have hd10 := S10 _ _ hd29
    have jk10 := jk9.same S10
    obtain ⟨⟨dj10, hj10⟩, _⟩ := id jk10
    symm_saturate
    refine ⟨q, _, dq, _, .str g.nm, rfl, hq10, gc.cls, gc.n1, rfl, ?_⟩
    refine ⟨x, _, dx, _, .ref d2, rfl, hx10, tc.cls, tc.n2, rfl, ?_⟩
    refine ⟨d2, _, rfl, DGet.k (k := Sum.inr g.nm) hd10, ?_⟩
    rw [bh9.val]
    by_cases cn : g.nm ∈ gs.map (·.nm)
    ·rw [gapsW_two cn] at hw2
     rw [← hw2] at k
     rw [decide_eq_true cn]
     symm_saturate
     exact ⟨by show 1 ≤ sizeLine; omega, k H10 (S9.trans S10)⟩
    ·rw [decide_eq_false cn]
     symm_saturate
     refine ⟨j, _, dj10, _, rfl, hj10, rfl, rfl, ?_⟩
     symm_saturate
     refine ⟨q, _, dq, _, .str g.st, rfl, hq10, gc.cls, gc.n2, rfl, ?_⟩
     refine ⟨q, _, dq, _, .str g.en, rfl, hq10, gc.cls, gc.n3, rfl, ?_⟩
     refine ⟨j, d, g.st, g.en, ls, H0, rfl, jk10, by omega, hnd, fun hc H11 S11 => ?_, fun w l yy H11 S11 hl11 e11 hcv hwk hwn => ?_⟩
     ·rw [gapsW_apart cn hc] at hw2
      rw [← hw2] at k
      symm_saturate
      exact ⟨by show 1 ≤ sizeLine; omega, k H11 (S9.trans (S10.trans S11))⟩
     ·rw [gapsW_go cn ⟨w, hwk⟩] at hw2
      symm_saturate
      have S911 := S10.trans S11
      have hd11 := S911 _ _ hd29
      refine ⟨x, _, dx, _, .ref d2, rfl, S911 _ _ hx9, tc.cls, tc.n2, rfl, ?_⟩
      refine ⟨q, _, dq, _, .str g.nm, rfl, S11 _ _ hq10, gc.cls, gc.n1, rfl, ?_⟩
      refine ⟨d2, _, rfl, DPut.k (k := Sum.inr g.nm) hd11 (by omega), ?_⟩
      generalize u12 : upd H11 d2 _ = H12
      symm_saturate
      have e12 := putE u12
      have sd12 : ∀ b u, b ≠ d2 → H11 b = some u → H12 b = some u := fun b u hb h => by rw [← u12, upd_ne hb]; exact h
      have SI12 := sdI sd12 hd11
      have hx12 := sd12 _ _ (Ne.symm nd2x) (S911 _ _ hx9)
      have hq12 := sd12 _ _ (fun z => by have := S11 _ _ hq10; rw [z, hd11] at this; cases this) (S11 _ _ hq10)
      have hd312 := sd12 _ _ nd3d2 (S911 _ _ hd39)
      symm_saturate
      refine ⟨x, _, dx, _, .ref d3, rfl, hx12, tc.cls, tc.n3, rfl, ?_⟩
      refine ⟨q, _, dq, _, .str g.nm, rfl, hq12, gc.cls, gc.n1, rfl, ?_⟩
      refine ⟨d3, _, rfl, DPut.k (k := Sum.inr g.nm) hd312 (by omega), ?_⟩
      generalize u13 : upd H12 d3 _ = H13
      symm_saturate
      have e13 := putE u13
      have sd13 : ∀ b u, b ≠ d3 → H12 b = some u → H13 b = some u := fun b u hb h => by rw [← u13, upd_ne hb]; exact h
      have SI13 := sdI sd13 hd312
      have SI : SameI H11 H13 := fun b u t h => SI13 b u t (SI12 b u t h)
      have wv : ∀ {g : GD} {v : V}, WOV H11 ls g v → WOV H13 ls g v := fun {g v} ⟨l, xs, w, h1, h2, h3, h4⟩ => ⟨l, xs, w, h1, sdL sd13 hd312 (sdL sd12 hd11 h2), h3.mono fun _ _ z => z.sameT SI.t, h4⟩
      refine hN0 _ _ ⟨li, _, _, _, _, _, gs ++ [g], rfl, fun b u h => sd13 _ _ (ne_of_none h d30) (sd12 _ _ (ne_of_none h d20) (S911 _ _ (S9 _ _ h))), sd13 _ _ (Ne.symm nd3x) hx12, sdJ sd13 hd312 nd3d (sdJ sd12 hd11 nd2d (jk10.same S11)), sd13 _ _ (Ne.symm nd3d1) (sd12 _ _ (Ne.symm nd2d1) (S911 _ _ hd19)), bg9.mono fun _ _ z => (z.si (Same.i S911)).si SI, sd13 _ _ (Ne.symm nd3d2) e12, ?_, e13, ?_, by simp [hgi], hw2⟩
      ·exact ((bh9.mono (P' := GOV K Ad H11) fun _ _ z => z.si (Same.i S911)).new (a := g) cn (gv.si (Same.i S11))).mono fun _ _ z => z.si SI
      ·exact ((bw9.mono (P' := WOV H11 ls) fun _ _ z => z.same S911).new (a := g) cn ⟨l, yy, w, rfl, e11, hcv, hwk, hwn⟩).mono fun _ _ z => wv z
  ·rintro σ H9 ⟨hi, v4, v6, v7, k2, k3, gs, rfl, S9, hx9, jk9, hd19, bg9, hd29, bh9, hd39, bw9, hgi, hw2⟩
   rw [List.drop_eq_nil_of_le (by omega), gapsW] at hw2
   symm_saturate
   have k' := k
   simp only [← hw2] at k'
   exact k' H9 S9 ⟨dx, d1, d2, d3, k1, k2, k3, hx9, hd19, bg9, hd29, bh9, hd39, bw9⟩
abbrev s_Thing_way : Stmt := inClass (top 34) 3
theorem sc_Thing_way : FnScope ["self", "name"] ["self", "name"] (defScope s_Thing_way) := ⟨rfl, rfl, rfl, by decide +kernel, rfl, by decide +kernel, by decide +kernel⟩
def sp_Thing_way (K : PySem.W.Frag) (Ad : Adr) : Sp := fun vs H Q E => ∃ (x : Addr) (z : Str) (ls : List PD) (gs : List GD), vs = [.ref x, .str z] ∧ TK K Ad H x ls gs ∧ (z ∉ gs.map (·.nm) → E (.ref Ad.NoName) none H) ∧ (∀ g ∈ gs, g.nm = z → ∀ l xs w H', Same H H' → H l = none → H' l = some (.lst xs) → All2 (CV H') w xs → WalkTo ls g.st w g.en → (w.map (·.1)).Nodup → Q (.ref l) H')
theorem ok_Thing_way {f : Addr} {fd : FuncData} {dV : Value} (F : FunD K "way" "Thing.way" s_Thing_way dV f fd) (T : Txt K mg Ad)  : FnOk P w K mg base (CX1 P w) 1 f fd ["self", "name"] (sp_Thing_way K Ad) := by
 refine F.okx sc_Thing_way (fun vs H Q E h => ?_) (fun cdv A outer s H vs Q E hr h => ?_)
 ·obtain ⟨x, z, ls, gs, rfl, _⟩ := h; rfl
 obtain ⟨x, z, ls, gs, rfl, h⟩ := h
 have hu := hr.units
 refine ⟨_, (pss_cons (ps_if (pt_cmp (pc_dnotin (hu1 hu) (pv 1) (pe_fld (pv 0) rfl)) (by with_unfolding_all rfl))
   (pss_one (ps_raise PySem.F.excBase_ValueError T.x_NoName rfl T.m_NoName (pa_cons pe_str pa_nil)))
   pss_nil)
   (pss_one (ps_ret (pe_callTy call_listU rfl T.n_list bt_list (pa_cons (pe_dget (hu1 hu) (pe_fld (pv 0) rfl) (pv 1) (fun _ _ => rfl)) pa_nil))))), ?_⟩
 obtain ⟨⟨dx, d1, d2, d3, k1, k2, k3, hx, hd1, b1, hd2, b2, hd3, b3⟩, kn, k⟩ := h
 have tc := T.c_Thing _ rfl
 show tSeq _ _ _ [some (.ref x), some (.str z)] H
 and_intros
 refine ⟨x, _, dx, _, .ref d3, rfl, hx, tc.cls, tc.n3, rfl, ?_⟩
 refine ⟨d3, _, rfl, DGet.k (k := Sum.inr z) hd3, ?_⟩
 rw [b3.val]
 by_cases c : z ∈ gs.map (·.nm)
 ·rw [decide_eq_true c]
  and_intros
  obtain ⟨g, v, hg, hz, hv, l0, xs, w, rfl, hl0, hcv, hw, hwn⟩ := b3.some c
  refine ⟨x, _, dx, _, .ref d3, rfl, hx, tc.cls, tc.n3, rfl, ?_⟩
  refine ⟨d3, _, rfl, by rw [← hv]; exact DGet.k (k := Sum.inr z) hd3, ?_⟩
  refine ⟨l0, xs, rfl, .inl (SqL.of hl0), ?_⟩
  intro l h_l
  generalize q_l : upd H l _ = H1
  have S1 := newS h_l q_l
  have e1 := newE q_l
  and_intros
  exact k g hg hz l xs w H1 S1 h_l e1 (hcv.mono fun _ _ z => z.sameT S1.t) hw hwn
 ·rw [decide_eq_false c]
  and_intros
  exact ⟨by show 1 ≤ sizeLine; decide, kn c⟩
abbrev s_Thing_middle : Stmt := inClass (top 34) 4
theorem sc_Thing_middle : FnScope ["self", "name", "total", "part", "forward", "size"] ["self", "name"] (defScope s_Thing_middle) := ⟨rfl, rfl, rfl, by decide +kernel, rfl, by decide +kernel, by decide +kernel⟩
def sp_Thing_middle (K : PySem.W.Frag) (Ad : Adr) : Sp := fun vs H Q E => ∃ (x : Addr) (z : Str) (ls : List PD) (gs : List GD), vs = [.ref x, .str z] ∧ TK K Ad H x ls gs ∧ z ∉ gs.map (·.nm) ∧ E (.ref Ad.NoName) none H
theorem ok_Thing_middle {f : Addr} {fd : FuncData} {dV : Value} (F : FunD K "middle" "Thing.middle" s_Thing_middle dV f fd) (T : Txt K mg Ad) (m_way : MCal P w K mg base 1 "way" (IsThing Ad) ["self", "name"] (sp_Thing_way K Ad)) (c_plus : Cal P w K mg base 2 "plus" ["one", "other"] [] (sp_plus K)) (c_minus : Cal P w K mg base 3 "minus" ["one", "other"] [] (sp_minus K)) : FnOk P w K mg base (CX1 P w) 4 f fd ["self", "name"] (sp_Thing_middle K Ad) := by
 refine F.okx sc_Thing_middle (fun vs H Q E h => ?_) (fun cdv A outer s H vs Q E hr h => ?_)
 ·obtain ⟨x, z, ls, gs, rfl, _⟩ := h; rfl
 obtain ⟨x, z, ls, gs, rfl, h⟩ := h
 have hu := hr.units
 refine ⟨_, (pss_cons (ps_set (i := 2) sc_Thing_middle.nd rfl (Or.inl rfl) (pe_glob (v := .ref _) rfl T.m_ZERO T.r_ZERO))
   (pss_cons (ps_for PassesOwn.leaving rfl (pi_U (m_way.m hr (by decide) pass1 (pv 0) (pa_cons (pv 1) pa_nil))) (pg_tup rfl (pgs_cons (pg_name (i := 3) sc_Thing_middle.nd rfl (Or.inl rfl)) (pgs_cons (pg_name (i := 4) sc_Thing_middle.nd rfl (Or.inl rfl)) pgs_nil)))
   (pss_cons (ps_set (i := 5) sc_Thing_middle.nd rfl (Or.inl rfl) (pe_fld (pe_dget (hu1 hu) (pe_fld (pv 0) rfl) (pv 3) (fun _ _ => rfl)) rfl))
   (pss_one (ps_set (i := 2) sc_Thing_middle.nd rfl (Or.inl rfl) (pe_ifExp (pt_val (pv 4)) (c_plus.ev hr (by decide) rfl pass1 (pa_cons (pv 2) (pa_cons (pv 5) pa_nil))) (c_minus.ev hr (by decide) rfl pass1 (pa_cons (pv 2) (pa_cons (pv 5) pa_nil))))))))
   (pss_one (ps_ret (pv 2))))), ?_⟩
 obtain ⟨ht, hz, k⟩ := h
 obtain ⟨dx, d1, d2, d3, k1, k2, k3, hx, _⟩ := id ht
 show tSeq _ _ _ [some (.ref x), some (.str z), none, none, none, none] H
 and_intros
 exact ⟨x, _, dx, _, rfl, hx, rfl, rfl, x, z, ls, gs, rfl, ht, fun _ => k, fun g hg e => absurd (List.mem_map.mpr ⟨g, hg, e⟩) hz⟩
abbrev s_Thing_room : Stmt := inClass (top 34) 5
theorem sc_Thing_room : FnScope ["self", "name", "middle", "gap", "above", "below"] ["self", "name"] (defScope s_Thing_room) := ⟨rfl, rfl, rfl, by decide +kernel, rfl, by decide +kernel, by decide +kernel⟩
def sp_Thing_room (K : PySem.W.Frag) (Ad : Adr) : Sp := fun vs H Q E => ∃ (x : Addr) (z : Str) (ls : List PD) (gs : List GD), vs = [.ref x, .str z] ∧ TK K Ad H x ls gs ∧ z ∉ gs.map (·.nm) ∧ E (.ref Ad.NoName) none H
theorem ok_Thing_room {f : Addr} {fd : FuncData} {dV : Value} (F : FunD K "room" "Thing.room" s_Thing_room dV f fd) (T : Txt K mg Ad) (m_middle : MCal P w K mg base 4 "middle" (IsThing Ad) ["self", "name"] (sp_Thing_middle K Ad)) (c_minus : Cal P w K mg base 3 "minus" ["one", "other"] [] (sp_minus K)) (c_under : Cal P w K mg base 1 "under" ["one", "other"] [] (sp_under K)) : FnOk P w K mg base (CX1 P w) 5 f fd ["self", "name"] (sp_Thing_room K Ad) := by
 refine F.okx sc_Thing_room (fun vs H Q E h => ?_) (fun cdv A outer s H vs Q E hr h => ?_)
 ·obtain ⟨x, z, ls, gs, rfl, _⟩ := h; rfl
 obtain ⟨x, z, ls, gs, rfl, h⟩ := h
 have hu := hr.units
 refine ⟨_, (pss_cons (ps_set (i := 2) sc_Thing_room.nd rfl (Or.inl rfl) (m_middle.m hr (by decide) pass1 (pv 0) (pa_cons (pv 1) pa_nil)))
   (pss_cons (ps_set (i := 3) sc_Thing_room.nd rfl (Or.inl rfl) (pe_dget (hu1 hu) (pe_fld (pv 0) rfl) (pv 1) (fun _ _ => rfl)))
   (pss_cons (ps_set (i := 4) sc_Thing_room.nd rfl (Or.inl rfl) (c_minus.ev hr (by decide) rfl pass1 (pa_cons (pe_fld (pv 3) rfl) (pa_cons (pv 2) pa_nil))))
   (pss_cons (ps_set (i := 5) sc_Thing_room.nd rfl (Or.inl rfl) (c_minus.ev hr (by decide) rfl pass1 (pa_cons (pv 2) (pa_cons (pe_fld (pv 3) rfl) pa_nil))))
   (pss_one (ps_ret (pe_ifExp (pt_val (c_under.ev hr (by decide) rfl pass1 (pa_cons (pv 4) (pa_cons (pv 5) pa_nil)))) (pv 4) (pv 5)))))))), ?_⟩
 obtain ⟨ht, hz, k⟩ := h
 obtain ⟨dx, d1, d2, d3, k1, k2, k3, hx, _⟩ := id ht
 show tSeq _ _ _ [some (.ref x), some (.str z), none, none, none, none] H
 and_intros
 exact ⟨x, _, dx, _, rfl, hx, rfl, rfl, x, z, ls, gs, rfl, ht, hz, k⟩
abbrev s_law_cell : Stmt := top 36
theorem sc_law_cell : FnScope ["_law_script", "_law_k", "_law_total", "_law_j"] ["_law_script", "_law_k"] (defScope s_law_cell) := ⟨rfl, rfl, rfl, by decide +kernel, rfl, by decide +kernel, by decide +kernel⟩
def sp_law_cell (K : PySem.W.Frag) : Sp := fun vs H Q E => ∃ (a : Addr) (ns : List Int) (k : Int), vs = [.ref a, .int k] ∧ SqL K H a (ns.map V.int) ∧ ns.length ≤ 63 ∧ 0 ≤ k ∧ k ≤ 1000 ∧ ∀ v : Int, Q (.int v) H
theorem ok_law_cell {f : Addr} {fd : FuncData} {dV : Value} (F : FunD K "_law_cell" "_law_cell" s_law_cell dV f fd) (T : Txt K mg Ad)  : FnOk P w K mg base (CX1 P w) 1 f fd ["_law_script", "_law_k"] (sp_law_cell K) := by
 refine F.okn sc_law_cell (fun vs H Q E h => ?_) (fun cdv A outer s H vs Q E hr h => ?_)
 ·obtain ⟨a, ns, k, rfl, _⟩ := h; rfl
 obtain ⟨a, ns, k, rfl, h⟩ := h
 have hu := hr.units
 refine ⟨_, (pss_cons (ps_set (i := 2) sc_law_cell.nd rfl (Or.inl rfl) pe_int)
   (pss_cons (ps_for PassesOwn.never rfl (pi_range3 rfl T.n_range (pa_cons (pv 1) (pa_cons (pe_callB (call_minU rfl) rfl T.n_min bt_min (pa_cons (pe_callB call_lenU rfl T.n_len bt_len (pa_cons (pv 0) pa_nil)) (pa_cons pe_int pa_nil))) (pa_cons pe_int pa_nil)))) (pg_name (i := 3) sc_law_cell.nd rfl (Or.inl rfl))
   (pss_one (ps_set (i := 2) sc_law_cell.nd rfl (Or.inl rfl) (pe_op op_addU (pv 2) (pe_op op_mul0 (pe_ix ix_U (pv 0) (pv 3) (fun _ _ => rfl)) (pe_op op_addU pe_int (pv 3)))))))
   (pss_one (ps_ret (pv 2))))), ?_⟩
 obtain ⟨hS, hl, h0, h1, q⟩ := h
 obtain ⟨k, rfl⟩ := Int.eq_ofNat_of_zero_le h0
 show tSeq _ _ _ [some (.ref a), some (.int (k : Int)), none, none] H
 nofun
 refine ⟨_, .inl hS, ?_⟩
 simp only [y80y, y4cy, y4dy, y4ey, y6fy, y2ay, y6ay, y7dy, y7ey, y44y, y2dy, y76y, y8cy, y2fy, y39y, y70y, y2ey, y85y, y23y, y28y, y77y, y72y, y29y, y78y, y74y, y58y, y8ey, y26y, y84y, y6ey, y67y, y49y, y66y, y7by, y32y, y47y, y6cy, y48y, y6dy, y46y, y6by, y87y, y62y, y5ey, y89y, y8by, y88y, y8ay, y25y, y65y, y24y, true_and, if_true, if_false, Bool.not_true, Bool.not_false, Bool.false_eq_true, yby, ydy, yay, ycy, yey, y15y, y17y, y14y, y16y, y18y, y6y, y8y, y5y, y7y, y9y, y1y, y3y, y0y, y2y, y4y, y10y, y12y, yfy, y11y, y13y, y1ay, y1cy, y19y, y1by, y1dy, y1fy, y21y, y1ey, y20y, y22y, y82y, y7ay, y71y, y30y, y31y, y52y, y60y, y61y, y4by, y83y, y86y, y8fy, y7cy, y27y, V.int.injEq, V.str.injEq, List.set_cons_zero, List.set_cons_succ, List.getElem?_cons_zero, List.getElem?_cons_succ, Option.some.injEq, exists_eq_left, exists_eq_left', V.bl.injEq, Int.reduceToNat, Int.reducePow, List.append_nil, List.nil_append, List.cons_append, y54y, y56y, y2by, y2cy, y68y, y5dy, y73y, y63y, y64y, y3ay, y3by, y3cy, y43y, y45y, y3ey, y79y, y40y, y3fy, y33y, y35y, y37y, y3dy, y41y, y4fy, y50y, y59y, y93y, y94y, y90y, y91y, y92y, reduceCtorEq, decide_false, decide_true, List.length_map]
 refine ⟨_, _, _, rfl, ⟨by omega, by omega, by split <;> omega, by split <;> omega, by decide, by decide⟩, ?_⟩
 refine ForQ.by (fun i σ H' => ∃ (t : Int) (v : Option V), σ = [some (.ref a), some (.int (k : Int)), some (.int t), v] ∧ H' = H) ⟨0, none, rfl, rfl⟩ ?_ ?_
 ·rintro i σ H' hi ⟨t, v, rfl, rfl⟩
  have hj : k + i * 34 < ns.length := by
   unfold rsz at hi
   split at hi <;> split at hi <;> omega
  have ej : (k : Int) + (i : Int) * 34 = ((k + i * 34 : Nat) : Int) := by omega
  rw [ej]
  nofun
  refine ixL hS (by rw [List.getElem?_map, List.getElem?_eq_getElem hj]; rfl) ?_
  nofun
  exact ⟨mulOkR (.lit (by omega) (by omega)), _, _, rfl, trivial⟩
 ·rintro σ H' ⟨t, v, rfl, rfl⟩
  nofun
  exact q t
abbrev s_law_signed : Stmt := top 37
theorem sc_law_signed : FnScope ["_law_cell_here", "_law_most"] ["_law_cell_here", "_law_most"] (defScope s_law_signed) := ⟨rfl, rfl, rfl, by decide +kernel, rfl, by decide +kernel, by decide +kernel⟩
def sp_law_signed  : Sp := fun vs H Q E => ∃ (c m : Int), vs = [.int c, .int m] ∧ 1 ≤ m ∧ ∀ v : Int, -m < v → v < m → Q (.int v) H
theorem ok_law_signed {f : Addr} {fd : FuncData} {dV : Value} (F : FunD K "_law_signed" "_law_signed" s_law_signed dV f fd) (T : Txt K mg Ad)  : FnOk P w K mg base (CX1 P w) 1 f fd ["_law_cell_here", "_law_most"] (sp_law_signed) := by
 refine F.okn sc_law_signed (fun vs H Q E h => ?_) (fun cdv A outer s H vs Q E hr h => ?_)
 ·obtain ⟨c, m, rfl, _⟩ := h; rfl
 obtain ⟨c, m, rfl, h⟩ := h
 have hu := hr.units
 refine ⟨_, (pss_cons (ps_if (pt_cmpR op_ltU (pv 0) pe_int (nomark _))
   (pss_one (ps_ret (pe_op op_sub pe_int (pe_op op_modU (pe_op op_sub pe_int (pv 0)) (pv 1)))))
   pss_nil)
   (pss_one (ps_ret (pe_op op_modU (pv 0) (pv 1))))), ?_⟩
 obtain ⟨hm, k⟩ := h
 show tSeq _ _ _ [some (.int c), some (.int m)] H
 nofun
 by_cases z : c < 0
 ·rw [if_pos (by simpa using z)]
  nofun
  nofun
  have f := Mth.fm (x := 0 - c) (y := m) (by omega)
  exact ⟨by omega, k _ (by omega) (by omega)⟩
 ·rw [if_neg (by simpa using z)]
  nofun
  nofun
  have f := Mth.fm (x := c) (y := m) (by omega)
  exact ⟨by omega, k _ (by omega) (by omega)⟩
abbrev s_law_low : Stmt := top 38
theorem sc_law_low : FnScope ["_law_top", "_law_bottom", "_law_one", "_law_other", "_law_rest"] ["_law_top", "_law_bottom"] (defScope s_law_low) := ⟨rfl, rfl, rfl, by decide +kernel, rfl, by decide +kernel, by decide +kernel⟩
def sp_law_low  : Sp := fun vs H Q E => ∃ (t b : Int), vs = [.int t, .int b] ∧ 1 ≤ b ∧ Mth.Sz 8000 b ∧ ∀ p H', Same H H' → H' p = some (.tup [.int (Mth.top t b), .int (Mth.bot t b)]) → Q (.ref p) H'
theorem ok_law_low {f : Addr} {fd : FuncData} {dV : Value} (F : FunD K "_law_low" "_law_low" s_law_low dV f fd) (T : Txt K mg Ad)  : FnOk P w K mg base (CX1 P w) 1 f fd ["_law_top", "_law_bottom"] (sp_law_low) := by
 refine F.okn sc_law_low (fun vs H Q E h => ?_) (fun cdv A outer s H vs Q E hr h => ?_)
 ·obtain ⟨t, b, rfl, _⟩ := h; rfl
 obtain ⟨t, b, rfl, h⟩ := h
 have hu := hr.units
 refine ⟨_, (pss_cons (ps_set (i := 2) sc_law_low.nd rfl (Or.inl rfl) (pv 0))
   (pss_cons (ps_set (i := 3) sc_law_low.nd rfl (Or.inl rfl) (pv 1))
   (pss_cons (ps_while PassesOwn.never (pt_cmpR (op_neU hu) (pv 3) pe_int (nomark _))
   (pss_cons (ps_set (i := 4) sc_law_low.nd rfl (Or.inl rfl) (pe_op op_modU (pv 2) (pv 3)))
   (pss_cons (ps_set (i := 2) sc_law_low.nd rfl (Or.inl rfl) (pv 3))
   (pss_one (ps_set (i := 3) sc_law_low.nd rfl (Or.inl rfl) (pv 4))))))
   (pss_one (ps_ret (pe_tup (pa_cons (pe_op op_fdivU (pv 0) (pe_callB call_absU rfl T.n_abs bt_abs (pa_cons (pv 2) pa_nil))) (pa_cons (pe_op op_fdivU (pv 1) (pe_callB call_absU rfl T.n_abs bt_abs (pa_cons (pv 2) pa_nil))) pa_nil)))))))), ?_⟩
 obtain ⟨hb, hs, k⟩ := h
 show tSeq _ _ _ [some (.int t), some (.int b), none, none, none] H
 nofun
 refine ⟨fun m σ H' => ∃ (x y : Int) (z : Option V), σ = [some (.int t), some (.int b), some (.int x), some (.int y), z] ∧ H' = H ∧ 0 ≤ y ∧ Mth.g x y = Mth.g t b ∧ y.toNat = m, ⟨_, _, _, none, rfl, rfl, by omega, rfl, rfl⟩, ?_⟩
 rintro m σ H' ⟨x, y, z, rfl, rfl, hy, hg, rfl⟩
 nofun
 by_cases c : y = 0
 ·subst c
  rw [if_neg (by simp)]
  nofun
  have gp := Mth.g_pos (a := t) (b := b) (by omega)
  have gl := Mth.g_le (a := t) (b := b) (by omega)
  have d1 : DivOk (Mth.g t b) := divOk (n := 8000) (by omega) (Nat.lt_of_le_of_lt (by omega : (Mth.g t b).natAbs ≤ b.natAbs) hs)
  have e : (if x < 0 then -x else x) = Mth.g t b := by
   rw [← hg, Mth.g_zero]
   split <;> omega
  nofun
  rw [e]
  refine ⟨d1, d1, len2, ?_⟩
  refine new_obj fun p H1 S hp => k p H1 S ?_
  rw [hp]
  unfold Mth.top Mth.bot Mth.by_
  rw [if_neg (by omega)]
  nofun
 ·rw [if_pos (by simp [c])]
  nofun
  have f := Mth.fm (x := x) (y := y) (by omega)
  refine ⟨_, fun _ _ q => q, ?_⟩
  nofun
  have hg' : Mth.g y (x.fmod y) = Mth.g t b := by rw [Mth.g_fstep (by omega)]; exact hg
  first
   | exact ⟨c, (x.fmod y).toNat, by omega, y, x.fmod y, _, rfl, f.1, hg', rfl⟩
   | exact ⟨c, (x.fmod y).toNat, by omega, y, x.fmod y, _, rfl, rfl, f.1, hg', rfl⟩
abbrev s_law_plus : Stmt := top 39
theorem sc_law_plus : FnScope ["_law_one", "_law_other", "_law_sign"] ["_law_one", "_law_other", "_law_sign"] (defScope s_law_plus) := ⟨rfl, rfl, rfl, by decide +kernel, rfl, by decide +kernel, by decide +kernel⟩
def sp_law_plus (K : PySem.W.Frag) : Sp := fun vs H Q E => ∃ (x y : V) (g : Int) (a c : Fr2) (s : Bool), vs = [x, y, .int g] ∧ (g = if s then 1 else -1) ∧ FrV K H x a.1 a.2 ∧ FrV K H y c.1 c.2 ∧ FW 3000 3000 a ∧ FW 3000 3000 c ∧ ∀ p H', Same H H' → H' p = some (.tup [.int (addF a (sgn s c)).1, .int (addF a (sgn s c)).2]) → Q (.ref p) H'
theorem ok_law_plus {f : Addr} {fd : FuncData} {dV : Value} (F : FunD K "_law_plus" "_law_plus" s_law_plus dV f fd) (T : Txt K mg Ad) (c_law_low : Cal P w K mg base 1 "_law_low" ["_law_top", "_law_bottom"] [] (sp_law_low)) : FnOk P w K mg base (CX1 P w) 2 f fd ["_law_one", "_law_other", "_law_sign"] (sp_law_plus K) := by
 refine F.okn sc_law_plus (fun vs H Q E h => ?_) (fun cdv A outer s H vs Q E hr h => ?_)
 ·obtain ⟨x, y, g, a, c, s, rfl, _⟩ := h; rfl
 obtain ⟨x, y, g, a, c, s, rfl, h⟩ := h
 have hu := hr.units
 refine ⟨_, (pss_one (ps_ret (c_law_low.ev hr (by decide) rfl passF (pa_cons (pe_op op_addU (pe_op op_mul0 (pe_ix ix_U (pv 0) pe_int (fun _ _ => rfl)) (pe_ix ix_U (pv 1) pe_int (fun _ _ => rfl))) (pe_op op_mul0 (pe_op op_mul0 (pv 2) (pe_ix ix_U (pv 1) pe_int (fun _ _ => rfl))) (pe_ix ix_U (pv 0) pe_int (fun _ _ => rfl)))) (pa_cons (pe_op op_mul0 (pe_ix ix_U (pv 0) pe_int (fun _ _ => rfl)) (pe_ix ix_U (pv 1) pe_int (fun _ _ => rfl))) pa_nil))))), ?_⟩
 obtain ⟨hg, hx, hy, ha, hc, k⟩ := h
 have hgs : Mth.Sz 4 g := by
  rw [hg]
  cases s
  ·exact .lit (by decide) (by decide)
  ·exact .lit (by decide) (by decide)
 have e1 : (sgn s c).1 = g * c.1 := by
  rw [hg]
  cases s
  ·show -c.1 = -1 * c.1
   omega
  ·show c.1 = 1 * c.1
   omega
 have e2 : (sgn s c).2 = c.2 := by cases s <;> rfl
 unfold addF at k
 rw [e1, e2] at k
 show tRet _ _ [some x, some y, some (.int g)] H
 nofun
 refine ixF0 hx (ixF1 hy ?_)
 nofun
 refine ⟨mulOk ha.s1 hc.s2, ixF0 hy ?_⟩
 nofun
 refine ⟨mulOk hgs hc.s1, ixF1 hx ?_⟩
 nofun
 refine ⟨mulOk (hgs.mul hc.s1) ha.s2, ixF1 hx (ixF1 hy ?_)⟩
 nofun
 refine ⟨mulOk ha.s2 hc.s2, _, _, rfl, ?_, (ha.s2.mul hc.s2).mono (by decide), fun p H1 S e => k p H1 S e⟩
 have := Int.mul_pos (show 0 < a.2 by have := ha.b1; omega) (show 0 < c.2 by have := hc.b1; omega)
 omega
abbrev s_law_name : Stmt := top 40
theorem sc_law_name : FnScope ["_law_k", "_law_sign", "_law_style"] ["_law_k", "_law_sign", "_law_style"] (defScope s_law_name) := ⟨rfl, rfl, rfl, by decide +kernel, rfl, by decide +kernel, by decide +kernel⟩
def sp_law_name  : Sp := fun vs H Q E => ∃ (i : Int) (z : Str) (st : Int) (s m : Nat), vs = [.int i, .str z, .int st] ∧ z.cps = #[s] ∧ i = (m : Int) ∧ m ≤ 16 ∧ 0 ≤ st ∧ st ≤ 3 ∧ Q (.str (nmK s st.toNat m)) H
theorem ok_law_name {f : Addr} {fd : FuncData} {dV : Value} (F : FunD K "_law_name" "_law_name" s_law_name dV f fd) (T : Txt K mg Ad)  : FnOk P w K mg base (CX1 P w) 1 f fd ["_law_k", "_law_sign", "_law_style"] (sp_law_name) := by
 refine F.okn sc_law_name (fun vs H Q E h => ?_) (fun cdv A outer s H vs Q E hr h => ?_)
 ·obtain ⟨i, z, st, s, m, rfl, _⟩ := h; rfl
 obtain ⟨i, z, st, s, m, rfl, h⟩ := h
 have hu := hr.units
 refine ⟨_, (pss_one (ps_ret (pe_op op_addU (pe_op op_addU (pe_op op_mul0 (pv 1) (pv 2)) (pe_ix ix_U pe_str (pv 0) (fun _ _ => rfl))) (pe_op op_mul0 (pv 1) (pe_op op_sub pe_int (pv 2)))))), ?_⟩
 obtain ⟨hz, rfl, hm, h0, h3, q⟩ := h
 have zl : z.cps.toList = [s] := by rw [hz]
 have zn : z.length = 1 := by rw [len_cps', zl]; rfl
 have sl : (1000 : Nat) ≤ sizeLine := by decide
 show tRet _ _ [some (.int (m : Int)), some (.str z), some (.int st)] H
 nofun
 refine ⟨h0, by omega, by omega, fun z1 hz1 => ?_⟩
 have ez1 : z1.cps.toList = List.replicate st.toNat s := by
  rw [hz1, zl]
  simp
 have eab : (Str.ofString "abcdefghijklmnopq").cps.toList = List.range' 97 17 := by decide
 refine ⟨97 + m, by decide, by rw [eab]; exact atI_nat (by rw [List.getElem?_range' (by omega), Nat.one_mul]), ?_⟩
 nofun
 have l1 : z1.length = st.toNat := by rw [len_cps', ez1, List.length_replicate]
 have e2s : (z1 ++ (⟨#[97 + m]⟩ : Str)).cps.toList = List.replicate st.toNat s ++ [97 + m] := by rw [app_cps', ez1]
 have l2s : (z1 ++ (⟨#[97 + m]⟩ : Str)).length = st.toNat + 1 := by rw [len_cps', e2s]; simp
 have lc : (⟨#[97 + m]⟩ : Str).length = 1 := rfl
 refine ⟨by omega, ?_⟩
 nofun
 refine ⟨by omega, by omega, by omega, fun z2 hz2 => ?_⟩
 have ez2 : z2.cps.toList = List.replicate (3 - st.toNat) s := by
  rw [hz2, zl]
  have : (3 - st).toNat = 3 - st.toNat := by omega
  rw [this]
  simp
 have l3 : z2.length = 3 - st.toNat := by rw [len_cps', ez2, List.length_replicate]
 nofun
 refine ⟨by omega, ?_⟩
 have en : z1 ++ (⟨#[97 + m]⟩ : Str) ++ z2 = nmK s st.toNat m := by
  have : (z1 ++ (⟨#[97 + m]⟩ : Str) ++ z2).cps = (nmK s st.toNat m).cps := by
   apply Array.toList_inj.mp
   rw [app_cps', e2s, ez2]
   unfold nmK
   simp
  cases h1 : z1 ++ (⟨#[97 + m]⟩ : Str) ++ z2
  cases h2 : nmK s st.toNat m
  rw [h1, h2] at this
  congr
 rw [en]
 exact q
abbrev s_law_parts : Stmt := top 41
theorem sc_law_parts : FnScope ["_law_script", "_law_style", "_law_parts_here", "_law_spots", "_law_k", "_law_cell_here", "_law_mixed", "_law_here", "_law_there", "_law_other", "_law_size", "_law_most", "_law_ends"] ["_law_script", "_law_style"] (defScope s_law_parts) := ⟨rfl, rfl, rfl, by decide +kernel, rfl, by decide +kernel, by decide +kernel⟩
def sp_law_parts (K : PySem.W.Frag) : Sp := fun vs H Q E => ∃ (a : Addr) (ns : List Int) (st : Nat), vs = [.ref a, .int (st : Int)] ∧ SqL K H a (ns.map V.int) ∧ ns.length ≤ 63 ∧ st ≤ 3 ∧ ∀ q pl sd px kv ls sp H', Same H H' → H' q = some (.tup [.ref pl, .ref sd]) → H' pl = some (.lst px) → All2 (PDV K H') ls px → H' sd = some (.dK kv) → BG (·.f) (SPV K H') sp kv → Grn st ls sp → Two sp → ls.length ≤ 8 → sp.length ≤ 16 → sp ≠ [] → Q (.ref q) H'
theorem ok_law_parts {f : Addr} {fd : FuncData} {dV : Value} (F : FunD K "_law_parts" "_law_parts" s_law_parts dV f fd) (T : Txt K mg Ad) (c_law_cell : Cal P w K mg base 1 "_law_cell" ["_law_script", "_law_k"] [] (sp_law_cell K)) (c_law_name : Cal P w K mg base 1 "_law_name" ["_law_k", "_law_sign", "_law_style"] [] (sp_law_name)) (c_law_low : Cal P w K mg base 1 "_law_low" ["_law_top", "_law_bottom"] [] (sp_law_low)) (c_law_signed : Cal P w K mg base 1 "_law_signed" ["_law_cell_here", "_law_most"] [] (sp_law_signed)) (c_law_plus : Cal P w K mg base 2 "_law_plus" ["_law_one", "_law_other", "_law_sign"] [] (sp_law_plus K)) : FnOk P w K mg base (CX1 P w) 3 f fd ["_law_script", "_law_style"] (sp_law_parts K) := by
 refine F.okn sc_law_parts (fun vs H Q E h => ?_) (fun cdv A outer s H vs Q E hr h => ?_)
 ·obtain ⟨a, ns, st, rfl, _⟩ := h; rfl
 obtain ⟨a, ns, st, rfl, h⟩ := h
 have hu := hr.units
 refine ⟨_, (pss_cons (ps_set (i := 2) sc_law_parts.nd rfl (Or.inl rfl) (pe_lst pa_nil))
   (pss_cons (ps_set (i := 3) sc_law_parts.nd rfl (Or.inl rfl) pe_dnewK)
   (pss_cons (ps_for PassesOwn.never rfl (pi_range1 rfl T.n_range (pa_cons (pe_op op_addU pe_int (pe_op op_modU (c_law_cell.ev hr (by decide) rfl passF (pa_cons (pv 0) (pa_cons pe_int pa_nil))) pe_int)) pa_nil)) (pg_name (i := 4) sc_law_parts.nd rfl (Or.inl rfl))
   (pss_cons (ps_set (i := 5) sc_law_parts.nd rfl (Or.inl rfl) (c_law_cell.ev hr (by decide) rfl passF (pa_cons (pv 0) (pa_cons (pe_op op_addU pe_int (pe_op op_mul0 pe_int (pv 4))) pa_nil))))
   (pss_cons (ps_set (i := 6) sc_law_parts.nd rfl (Or.inl rfl) (pe_op op_fdivU (pe_op op_modU (pe_op op_mul0 (pv 5) pe_int) pe_int) pe_int))
   (pss_cons (ps_if (PW.pt (pw_or (pt_cmpR (op_eqU hu) (pe_callB call_lenD rfl T.n_len bt_len (pa_cons (pv 3) pa_nil)) pe_int (nomark _)) (pw_or1 (pt_cmpR (op_eqU hu) (pe_op op_modU (pe_op op_fdivU (pv 6) pe_int) pe_int) pe_int (nomark _)))))
   (pss_cons (ps_set (i := 7) sc_law_parts.nd rfl (Or.inl rfl) (c_law_name.ev hr (by decide) rfl passF (pa_cons (pe_callB call_lenD rfl T.n_len bt_len (pa_cons (pv 3) pa_nil)) (pa_cons pe_str (pa_cons (pv 1) pa_nil)))))
   (pss_one (ps_dput (hu1 hu) (pv 3) (pv 7) (pe_tup (pa_cons (pv 7) (pa_cons (pe_tup (pa_cons pe_int (pa_cons pe_int pa_nil))) pa_nil))) rfl)))
   (pss_one (ps_set (i := 7) sc_law_parts.nd rfl (Or.inl rfl) (pe_ix ix_U (pe_callB (call_sortD rfl) rfl T.n_sorted bt_sorted (pa_cons (pv 3) pa_nil)) (pe_op op_modU (pv 6) (pe_callB call_lenD rfl T.n_len bt_len (pa_cons (pv 3) pa_nil))) (fun _ _ => rfl)))))
   (pss_cons (ps_set (i := 8) sc_law_parts.nd rfl (Or.inl rfl) (c_law_name.ev hr (by decide) rfl passF (pa_cons (pe_callB call_lenD rfl T.n_len bt_len (pa_cons (pv 3) pa_nil)) (pa_cons pe_str (pa_cons (pv 1) pa_nil)))))
   (pss_cons (ps_set (i := 9) sc_law_parts.nd rfl (Or.inl rfl) (c_law_cell.ev hr (by decide) rfl passF (pa_cons (pv 0) (pa_cons (pe_op op_addU pe_int (pe_op op_mul0 pe_int (pv 4))) pa_nil))))
   (pss_cons (ps_set (i := 10) sc_law_parts.nd rfl (Or.inl rfl) (c_law_low.ev hr (by decide) rfl passF (pa_cons (c_law_signed.ev hr (by decide) rfl passF (pa_cons (pv 9) (pa_cons (pe_ix ix_U (pe_lst (pa_cons pe_int (pa_cons (pe_op op_powU pe_int pe_int) pa_nil))) (pe_op op_modU (pe_op op_fdivU (pv 6) pe_int) pe_int) (fun _ _ => rfl)) pa_nil))) (pa_cons (pe_op op_addU pe_int (pe_op op_modU (pe_op op_fdivU (pv 6) pe_int) pe_int)) pa_nil))))
   (pss_cons (ps_set (i := 11) sc_law_parts.nd rfl (Or.inl rfl) (c_law_low.ev hr (by decide) rfl passF (pa_cons (pe_op op_modU (pv 9) pe_int) (pa_cons (pe_op op_addU pe_int (pe_op op_modU (pe_op op_fdivU (pv 6) pe_int) pe_int)) pa_nil))))
   (pss_cons (ps_set (i := 12) sc_law_parts.nd rfl (Or.inl rfl) (pe_ix ix_U (pe_lst (pa_cons (pe_tup (pa_cons (pv 7) (pa_cons (pv 8) pa_nil))) (pa_cons (pe_tup (pa_cons (pv 8) (pa_cons (pv 7) pa_nil))) pa_nil))) (pe_op op_modU (pe_op op_fdivU (pv 6) pe_int) pe_int) (fun _ _ => rfl)))
   (pss_cons (ps_expr (pe_bm PySem.F.plainAttrs_list PySem.F.slot_list_append PySem.F.type_list_append mt_append (pv 2) (pa_cons (pe_tup (pa_cons (c_law_name.ev hr (by decide) rfl passF (pa_cons (pv 4) (pa_cons pe_str (pa_cons (pv 1) pa_nil)))) (pa_cons (pe_ix ix_U (pv 12) pe_int (fun _ _ => rfl)) (pa_cons (pe_ix ix_U (pv 12) pe_int (fun _ _ => rfl)) (pa_cons (pv 10) (pa_cons (pv 11) (pa_cons (pe_op op_addU pe_int (pe_op op_modU (pe_op op_fdivU (pv 6) pe_int) pe_int)) pa_nil))))))) pa_nil)))
   (pss_one (ps_dput (hu1 hu) (pv 3) (pv 8) (pe_tup (pa_cons (pe_ix ix_U (pe_dget (hu1 hu) (pv 3) (pv 7) (fun _ _ => rfl)) pe_int (fun _ _ => rfl)) (pa_cons (c_law_plus.ev hr (by decide) rfl passF (pa_cons (pe_ix ix_U (pe_dget (hu1 hu) (pv 3) (pv 7) (fun _ _ => rfl)) pe_int (fun _ _ => rfl)) (pa_cons (pv 10) (pa_cons (pe_op op_sub pe_int (pe_op op_mul0 pe_int (pe_op op_modU (pe_op op_fdivU (pv 6) pe_int) pe_int))) pa_nil)))) pa_nil))) rfl))))))))))))
   (pss_one (ps_ret (pe_tup (pa_cons (pv 2) (pa_cons (pv 3) pa_nil)))))))), ?_⟩
 obtain ⟨hS, hl, hst, k⟩ := h
 have sl : (1000 : Nat) ≤ sizeLine := by decide
 have e102 : (Str.ofString "f").cps = #[102] := by decide
 have e112 : (Str.ofString "p").cps = #[112] := by decide
 show tSeq _ _ _ [some (.ref a), some (.int (st : Int)), none, none, none, none, none, none, none, none, none, none, none] H
 nofun
 refine ⟨len0, ?_⟩
 intro pl h_pl
 generalize q_pl : upd H pl _ = H1
 have S1 := newS h_pl q_pl
 have e1 := newE q_pl
 nofun
 intro sd h_sd
 generalize q_sd : upd H1 sd _ = H2
 have S2 := newS h_sd q_sd
 have e2 := newE q_sd
 nofun
 refine ⟨a, ns, 0, rfl, (hS.same S1).same S2, hl, by decide, by decide, fun c0 => ?_⟩
 nofun
 repeat (refine And.intro (by first | exact divOkL (by decide) | exact powOkL (by decide) | exact mulOkL (by decide) | exact mulOkL' (by decide) | exact Int.one_ne_zero | decide) ?_)
 have q0 := Mth.fm (x := c0) (y := 8) (by decide)
 refine ⟨_, rfl, by omega, by omega, ?_⟩
 have npd : pl ≠ sd := fun z => by rw [← z, e1] at h_sd; cases h_sd
 have h0sd := freshS S1 h_sd
 refine ForR.byN (fun i σ H' => ∃ (v4 v5 v6 v7 v8 v9 v10 v11 v12 : Option V) (px : List V) (kv : List (Key × V)) (ls : List PD) (sp : List SpD), σ = [some (.ref a), some (.int (st : Int)), some (.ref pl), some (.ref sd), v4, v5, v6, v7, v8, v9, v10, v11, v12] ∧ Same H H' ∧ H' pl = some (.lst px) ∧ All2 (PDV K H') ls px ∧ H' sd = some (.dK kv) ∧ BG (·.f) (SPV K H') sp kv ∧ Grn st ls sp ∧ Two sp ∧ ls.length = i ∧ sp.length ≤ 2 * i ∧ (1 ≤ i → sp ≠ [])) ⟨none, none, none, none, none, none, none, none, none, [], [], [], [], rfl, S1.trans S2, S2 _ _ e1, rfl, e2, ⟨rfl, rfl⟩, Grn.nil, (fun s hs => by cases hs), rfl, by decide, fun z => absurd z (by decide)⟩ ?_ ?_
 ·rintro i σ H3 hi ⟨v4, v5, v6, v7, v8, v9, v10, v11, v12, px, kv, ls, sp, rfl, S3, ep, hP, ed, hB, hG, hT, hli, hsp, hne⟩ N0 hN0
  have i8 : i < 8 := by omega
  rw [Int.zero_add]
  simp only [y80y, y4cy, y4dy, y4ey, y6fy, y2ay, y6ay, y7dy, y7ey, y44y, y2dy, y76y, y8cy, y2fy, y39y, y70y, y2ey, y85y, y23y, y28y, y77y, y72y, y29y, y78y, y74y, y58y, y8ey, y26y, y84y, y6ey, y67y, y49y, y66y, y7by, y32y, y47y, y6cy, y48y, y6dy, y46y, y6by, y87y, y62y, y5ey, y89y, y8by, y88y, y8ay, y25y, y65y, y24y, true_and, if_true, if_false, Bool.not_true, Bool.not_false, Bool.false_eq_true, yby, ydy, yay, ycy, yey, y15y, y17y, y14y, y16y, y18y, y6y, y8y, y5y, y7y, y9y, y1y, y3y, y0y, y2y, y4y, y10y, y12y, yfy, y11y, y13y, y1ay, y1cy, y19y, y1by, y1dy, y1fy, y21y, y1ey, y20y, y22y, y82y, y7ay, y71y, y30y, y31y, y52y, y60y, y61y, y4by, y83y, y86y, y8fy, y7cy, y27y, V.int.injEq, V.str.injEq, List.set_cons_zero, List.set_cons_succ, List.getElem?_cons_zero, List.getElem?_cons_succ, Option.some.injEq, exists_eq_left, exists_eq_left', V.bl.injEq, Int.reduceToNat, Int.reducePow, List.append_nil, List.nil_append, List.cons_append, y54y, y56y, y2by, y2cy, y68y, y5dy, y73y, y63y, y64y, y3ay, y3by, y3cy, y43y, y45y, y3ey, y79y, y40y, y3fy, y33y, y35y, y37y, y3dy, y41y, y4fy, y50y, y59y, y93y, y94y, y90y, y91y, y92y, reduceCtorEq, decide_false, decide_true, -y58y]
  repeat (refine And.intro (by first | exact divOkL (by decide) | exact powOkL (by decide) | exact mulOkL (by decide) | exact mulOkL' (by decide) | exact Int.one_ne_zero | decide) ?_)
  refine ⟨a, ns, _, rfl, hS.same S3, hl, by omega, by omega, fun c1 => ?_⟩
  try simp only [y80y, y4cy, y4dy, y4ey, y6fy, y2ay, y6ay, y7dy, y7ey, y44y, y2dy, y76y, y8cy, y2fy, y39y, y70y, y2ey, y85y, y23y, y28y, y77y, y72y, y29y, y78y, y74y, y58y, y8ey, y26y, y84y, y6ey, y67y, y49y, y66y, y7by, y32y, y47y, y6cy, y48y, y6dy, y46y, y6by, y87y, y62y, y5ey, y89y, y8by, y88y, y8ay, y25y, y65y, y24y, true_and, if_true, if_false, Bool.not_true, Bool.not_false, Bool.false_eq_true, yby, ydy, yay, ycy, yey, y15y, y17y, y14y, y16y, y18y, y6y, y8y, y5y, y7y, y9y, y1y, y3y, y0y, y2y, y4y, y10y, y12y, yfy, y11y, y13y, y1ay, y1cy, y19y, y1by, y1dy, y1fy, y21y, y1ey, y20y, y22y, y82y, y7ay, y71y, y30y, y31y, y52y, y60y, y61y, y4by, y83y, y86y, y8fy, y7cy, y27y, V.int.injEq, V.str.injEq, List.set_cons_zero, List.set_cons_succ, List.getElem?_cons_zero, List.getElem?_cons_succ, Option.some.injEq, exists_eq_left, exists_eq_left', V.bl.injEq, Int.reduceToNat, Int.reducePow, List.append_nil, List.nil_append, List.cons_append, y54y, y56y, y2by, y2cy, y68y, y5dy, y73y, y63y, y64y, y3ay, y3by, y3cy, y43y, y45y, y3ey, y79y, y40y, y3fy, y33y, y35y, y37y, y3dy, y41y, y4fy, y50y, y59y, y93y, y94y, y90y, y91y, y92y, reduceCtorEq, decide_false, decide_true, -y58y]
  repeat (refine And.intro (by first | exact divOkL (by decide) | exact powOkL (by decide) | exact mulOkL (by decide) | exact mulOkL' (by decide) | exact Int.one_ne_zero | decide) ?_)
  generalize hmx : ((c1 * 48271).fmod 2147483647).fdiv 37 = mx
  refine if_cut (fun σ' H' => ∃ (kv : List (Key × V)) (sp : List SpD) (s0 : SpD), σ' = [some (.ref a), some (.int (st : Int)), some (.ref pl), some (.ref sd), some (.int (i : Int)), some (.int c1), some (.int mx), some (.str s0.f), v8, v9, v10, v11, v12] ∧ Same H H' ∧ H' pl = some (.lst px) ∧ All2 (PDV K H') ls px ∧ H' sd = some (.dK kv) ∧ BG (·.f) (SPV K H') sp kv ∧ Grn st ls sp ∧ s0 ∈ sp ∧ (∀ s ∈ sp, s.r = s0.r ∨ ∃ t ∈ sp, t.f ≠ s.f ∧ t.r = s.r) ∧ sp.length ≤ 2 * i + 1) ?_ ?_
  ·clear hB hG hT hsp hne ed hP ep S3
   rintro σ' H4 ⟨kv, sp, s0, rfl, S4, ep, hP, ed, hB, hG, hs0, hT, hsp⟩
   have lk := hB.length
   nofun
   refine ⟨sd, kv, rfl, ed, ?_⟩
   refine ⟨_, _, _, 102, sp.length, rfl, e102, by omega, by omega, by omega, by omega, ?_⟩
   rw [Int.toNat_natCast]
   nofun
   repeat (refine And.intro (by first | exact divOkL (by decide) | exact powOkL (by decide) | exact mulOkL (by decide) | exact mulOkL' (by decide) | exact Int.one_ne_zero | decide) ?_)
   refine ⟨a, ns, _, rfl, hS.same S4, hl, by omega, by omega, fun c2 => ?_⟩
   nofun
   repeat (refine And.intro (by first | exact divOkL (by decide) | exact powOkL (by decide) | exact mulOkL (by decide) | exact mulOkL' (by decide) | exact Int.one_ne_zero | decide) ?_)
   intro ml h_ml
   generalize q_ml : upd H4 ml _ = H6
   have S6 := newS h_ml q_ml
   have e6 := newE q_ml
   nofun
   repeat (refine And.intro (by first | exact divOkL (by decide) | exact powOkL (by decide) | exact mulOkL (by decide) | exact mulOkL' (by decide) | exact Int.one_ne_zero | decide) ?_)
   have q5 := Mth.fm (x := mx.fdiv 64) (y := 2) (by decide)
   obtain ⟨n5, hn5⟩ := Int.eq_ofNat_of_zero_le q5.1
   rw [hn5] at q5 ⊢
   obtain ⟨mo, hmo, m1, m2⟩ : ∃ mo : Int, [V.int 9, .int 10000000000000000000000000000000000000000][n5]? = some (.int mo) ∧ 1 ≤ mo ∧ mo ≤ 10000000000000000000000000000000000000000 := by
    match n5, q5 with
    | 0, _ => exact ⟨_, rfl, by decide, by decide⟩
    | 1, _ => exact ⟨_, rfl, by decide, by decide⟩
    | n + 2, q5 => omega
   refine ixL (i := n5) (SqL.of e6) hmo ?_
   nofun
   refine ⟨c2, mo, rfl, m1, fun tp ht1 ht2 => ?_⟩
   nofun
   repeat (refine And.intro (by first | exact divOkL (by decide) | exact powOkL (by decide) | exact mulOkL (by decide) | exact mulOkL' (by decide) | exact Int.one_ne_zero | decide) ?_)
   have qb := Mth.fm (x := mx.fdiv 128) (y := 12) (by decide)
   obtain ⟨bt, hbt⟩ : ∃ bt : Int, bt = 1 + (mx.fdiv 128).fmod 12 := ⟨_, rfl⟩
   rw [← hbt]
   have b1 : 1 ≤ bt := by omega
   have b2 : bt ≤ 12 := by omega
   refine ⟨tp, bt, rfl, b1, .lit (by omega) (by omega), fun fz H71 S71 e71 => ?_⟩
   nofun
   repeat (refine And.intro (by first | exact divOkL (by decide) | exact powOkL (by decide) | exact mulOkL (by decide) | exact mulOkL' (by decide) | exact Int.one_ne_zero | decide) ?_)
   have qo := Mth.fm (x := c2) (y := 13) (by decide)
   have qe := Mth.fm (x := mx.fdiv 16) (y := 6) (by decide)
   have qw := Mth.fm (x := mx.fdiv 8) (y := 4) (by decide)
   refine ⟨_, _, rfl, by omega, .lit (by omega) (by omega), fun fo H7 S7 e7o => ?_⟩
   have ob : FOk 200 (Mth.top (c2.fmod 13) (1 + (mx.fdiv 16).fmod 6), Mth.bot (c2.fmod 13) (1 + (mx.fdiv 16).fmod 6)) := (FB.low (A := 5) (B := 5) (by omega) (.lit (by omega) (by omega)) (.lit (by omega) (by omega))).ok (by decide) (by decide)
   have on : 0 ≤ Mth.top (c2.fmod 13) (1 + (mx.fdiv 16).fmod 6) := top_nn qo.1 (by omega)
   generalize hmo1 : Mth.top (c2.fmod 13) (1 + (mx.fdiv 16).fmod 6) = mo1 at *
   generalize hmo2 : Mth.bot (c2.fmod 13) (1 + (mx.fdiv 16).fmod 6) = mo2 at *
   have e7 := S7 _ _ e71
   have zb : FB 133 20 (Mth.top tp bt, Mth.bot tp bt) := FB.low b1 (.lit (by omega) (by omega)) (.lit (by omega) (by omega))
   generalize hz1 : (Mth.top tp bt, Mth.bot tp bt) = sz at zb
   have hz1 : Mth.top tp bt = sz.1 ∧ Mth.bot tp bt = sz.2 := ⟨by rw [← hz1], by rw [← hz1]⟩
   rw [hz1.1, hz1.2] at e7
   nofun
   refine ⟨len2, ?_⟩
   intro t1 h_t1
   generalize q_t1 : upd H7 t1 _ = H8
   have S8 := newS h_t1 q_t1
   have e8 := newE q_t1
   nofun
   refine ⟨len2, ?_⟩
   intro t2 h_t2
   generalize q_t2 : upd H8 t2 _ = H9
   have S9 := newS h_t2 q_t2
   have e9 := newE q_t2
   nofun
   refine ⟨len2, ?_⟩
   intro el h_el
   generalize q_el : upd H9 el _ = H10
   have S10 := newS h_el q_el
   have e10 := newE q_el
   nofun
   repeat (refine And.intro (by first | exact divOkL (by decide) | exact powOkL (by decide) | exact mulOkL (by decide) | exact mulOkL' (by decide) | exact Int.one_ne_zero | decide) ?_)
   have q6 := Mth.fm (x := mx.fdiv 32) (y := 2) (by decide)
   obtain ⟨n6, hn6⟩ := Int.eq_ofNat_of_zero_le q6.1
   rw [hn6] at q6 ⊢
   obtain ⟨d, et, u, v, hd, het, hu', hv', hsg⟩ : ∃ (d : Bool) (et : Addr) (u v : Str), [V.ref t1, .ref t2][n6]? = some (.ref et) ∧ H10 et = some (.tup [.str u, .str v]) ∧ (u = if d then s0.f else nmK 102 st sp.length) ∧ (v = if d then nmK 102 st sp.length else s0.f) ∧ (1 - 2 * (n6 : Int) = if d then 1 else -1) := by
    match n6, q6 with
    | 0, _ => exact ⟨true, t1, _, _, rfl, S10 _ _ (S9 _ _ e8), rfl, rfl, rfl⟩
    | 1, _ => exact ⟨false, t2, _, _, rfl, S10 _ _ e9, rfl, rfl, rfl⟩
    | n + 2, q6 => omega
   refine ixL (i := n6) (SqL.of e10) hd ?_
   nofun
   have S410 : Same H4 H10 := S6.trans (S71.trans (S7.trans (S8.trans (S9.trans S10))))
   have ep10 := S410 _ _ ep
   refine ⟨.inl ⟨rfl, _, SqL.of ep10⟩, ?_⟩
   refine ⟨_, _, _, 112, i, rfl, e112, rfl, by omega, by omega, by omega, ?_⟩
   rw [Int.toNat_natCast]
   nofun
   refine ixT (i := 0) (SqT.of het) rfl ?_
   refine ixT (i := 1) (SqT.of het) rfl ?_
   nofun
   repeat (refine And.intro (by first | exact divOkL (by decide) | exact powOkL (by decide) | exact mulOkL (by decide) | exact mulOkL' (by decide) | exact Int.one_ne_zero | decide) ?_)
   refine ⟨by show 6 ≤ sizeLine; omega, ?_⟩
   intro pt h_pt
   generalize q_pt : upd H10 pt _ = H12
   have S12 := newS h_pt q_pt
   have e12 := newE q_pt
   nofun
   have S412 := S410.trans S12
   have lp := hP.length
   refine ⟨pl, px, _, rfl, rfl, S412 _ _ ep, by omega, ?_⟩
   generalize u13 : upd H12 pl _ = H13
   nofun
   have e13 : H13 pl = some (.lst (px ++ [.ref pt])) := putE u13
   have T13 : SameT H12 H13 := SameT.put u13 (S412 _ _ ep) rfl
   have fr13 : ∀ b u, b ≠ pl → H12 b = some u → H13 b = some u := fun b u hb h => by rw [← u13, upd_ne hb]; exact h
   have ed13 := fr13 _ _ (Ne.symm npd) (S412 _ _ ed)
   have T413 : SameT H4 H13 := S412.t.trans T13
   obtain ⟨s', vs0, hs', hsf, hv0, tb, w0, rfl, htb, hw0⟩ := hB.some (z := s0.f) (List.mem_map.mpr ⟨s0, hs0, rfl⟩)
   have es := hG.inj hs' hs0 hsf
   subst es
   nofun
   refine ⟨sd, _, rfl, by rw [← hv0]; exact DGet.k (k := Sum.inr s'.f) ed13, ?_⟩
   refine ixT (i := 0) (htb.sameT T413) rfl ?_
   refine ⟨sd, _, rfl, by rw [← hv0]; exact DGet.k (k := Sum.inr s'.f) ed13, ?_⟩
   refine ixT (i := 1) (htb.sameT T413) rfl ?_
   nofun
   repeat (refine And.intro (by first | exact divOkL (by decide) | exact powOkL (by decide) | exact mulOkL (by decide) | exact mulOkL' (by decide) | exact Int.one_ne_zero | decide) ?_)
   have fz13 : FrV K H13 (.ref fz) sz.1 sz.2 := FrV.of (T13 _ _ rfl (S12 _ _ (S10 _ _ (S9 _ _ (S8 _ _ e7)))))
   have pb := hG.fb s' hs0
   refine ⟨w0, .ref fz, _, s'.p, sz, d, rfl, (by first | exact hsg | (rw [hn6]; exact hsg)), hw0.sameT T413, fz13, pb.w.mono (by omega) (by omega), zb.w.mono (by decide) (by decide), fun np H14 S14 e14 => ?_⟩
   nofun
   refine ⟨len2, ?_⟩
   intro nt h_nt
   generalize q_nt : upd H14 nt _ = H15
   have S15 := newS h_nt q_nt
   have e15 := newE q_nt
   nofun
   have S1315 := S14.trans S15
   have ed15 := S1315 _ _ ed13
   refine ⟨sd, _, rfl, DPut.k (k := Sum.inr (nmK 102 st sp.length)) ed15 (by omega), ?_⟩
   generalize u16 : upd H15 sd _ = H16
   nofun
   have e16 := putE u16
   have T16 : SameT H15 H16 := SameT.put u16 ed15 rfl
   have fr16 : ∀ b u, b ≠ sd → H15 b = some u → H16 b = some u := fun b u hb h => by rw [← u16, upd_ne hb]; exact h
   have T416 : SameT H4 H16 := T413.trans (S1315.t.trans T16)
   have T1216 : SameT H12 H16 := T13.trans (S1315.t.trans T16)
   have hname : nameS (nmK 112 st i) = true := nmK_name (by decide) hst (by omega)
   have n1 : nameS s'.f = true := hG.fname hst (by omega) hs0
   have n2 : nameS (nmK 102 st sp.length) = true := nmK_name (by decide) hst (by omega)
   have nw : nmK 102 st sp.length ≠ s'.f := fun z => hG.new (Nat.le_refl _) (z ▸ List.mem_map.mpr ⟨s', hs0, rfl⟩)
   have one_ : Mth.Sz 200 (1 + (mx.fdiv 8).fmod 4) := .lit (by omega) (by omega)
   have pok : POk ⟨nmK 112 st i, u, v, sz, (mo1, mo2), 1 + (mx.fdiv 8).fmod 4⟩ := ⟨hname, by show nameS u = true; rw [hu']; cases d <;> assumption, by show nameS v = true; rw [hv']; cases d <;> assumption, by show u ≠ v; rw [hu', hv']; cases d; exact nw; exact Ne.symm nw, zb.ok (by decide) (by decide), ob, on, by show (1 : Int) ≤ 1 + (mx.fdiv 8).fmod 4; omega, one_⟩
   have hG' := hG.part hst hs0 (p := ⟨nmK 112 st i, u, v, sz, (mo1, mo2), 1 + (mx.fdiv 8).fmod 4⟩) (d := d) (by rw [hli]) hu' hv' zb pok
   have hT' := two_step hG hs0 hT (z := addF s'.p (sgn d sz))
   refine hN0 _ _ ⟨_, _, _, _, _, _, _, _, _, px ++ [.ref pt], _, ls ++ [⟨nmK 112 st i, u, v, sz, (mo1, mo2), 1 + (mx.fdiv 8).fmod 4⟩], sp ++ [⟨nmK 102 st sp.length, s'.r, addF s'.p (sgn d sz)⟩], rfl, fun b w h => fr16 _ _ (ne_of_none h h0sd) (S1315 _ _ (fr13 _ _ (ne_of_none h h_pl) (S412 _ _ (S4 _ _ h)))), fr16 _ _ npd (S1315 _ _ e13), ?_, e16, ?_, hG', hT', by simp [hli], by simp; omega, fun _ => by simp⟩
   ·exact (hP.mono (P' := PDV K H16) fun _ _ z => z.sameT T416).append (.one ⟨pt, _, _, rfl, SqT.of (T1216 _ _ rfl e12), FrV.of (T1216 _ _ rfl (S12 _ _ (S10 _ _ (S9 _ _ (S8 _ _ e7))))), FrV.of (T1216 _ _ rfl (S12 _ _ (S10 _ _ (S9 _ _ (S8 _ _ e7o)))))⟩)
   ·refine (hB.mono (P' := SPV K H16) fun _ _ z => z.sameT T416).new (a := (⟨nmK 102 st sp.length, s'.r, addF s'.p (sgn d sz)⟩ : SpD)) (hG.new (Nat.le_refl _)) ⟨nt, .ref np, rfl, SqT.of (T16 _ _ rfl e15), FrV.of (T16 _ _ rfl (S15 _ _ e14))⟩
  ·intro N hN
   have lk := hB.length
   nofun
   refine ⟨sd, kv, rfl, ed, ?_⟩
   nofun
   have add : ∀ (H' : Hp) (tf rf : Addr), Same H3 H' → H' rf = some (.tup [.int 0, .int 1]) → H' tf = some (.tup [.str (nmK 102 st sp.length), .ref rf]) → ∀ H'', upd H' sd (.dK (putK kv (Sum.inr (nmK 102 st sp.length)) (.ref tf))) = H'' → N [some (.ref a), some (.int (st : Int)), some (.ref pl), some (.ref sd), some (.int (i : Int)), some (.int c1), some (.int mx), some (.str (nmK 102 st sp.length)), v8, v9, v10, v11, v12] H'' := fun H' tf rf S' hr ht H'' u => by
    have ed' := S' _ _ ed
    have e'' := putE u
    have T' : SameT H' H'' := SameT.put u ed' rfl
    have fr : ∀ b w, b ≠ sd → H' b = some w → H'' b = some w := fun b w hb h => by rw [← u, upd_ne hb]; exact h
    have T3 : SameT H3 H'' := S'.t.trans T'
    refine hN _ _ ⟨_, sp ++ [⟨nmK 102 st sp.length, nmK 102 st sp.length, (0, 1)⟩], ⟨nmK 102 st sp.length, nmK 102 st sp.length, (0, 1)⟩, rfl, fun b w h => fr _ _ (ne_of_none h h0sd) (S' _ _ (S3 _ _ h)), fr _ _ npd (S' _ _ ep), hP.mono (P' := PDV K H'') (fun _ _ z => z.sameT T3), e'', ?_, hG.face, by simp, fun s hs => ?_, by simp; omega⟩
    ·exact (hB.mono (P' := SPV K H'') fun _ _ z => z.sameT T3).new (a := (⟨nmK 102 st sp.length, nmK 102 st sp.length, (0, 1)⟩ : SpD)) (hG.new (Nat.le_refl _)) ⟨tf, .ref rf, rfl, SqT.of (T' _ _ rfl ht), FrV.of (T' _ _ rfl hr)⟩
    ·rcases List.mem_append.mp hs with hs | hs
     ·obtain ⟨t, h1, h2, h3⟩ := hT s hs
      exact .inr ⟨t, List.mem_append.mpr (.inl h1), h2, h3⟩
     ·rw [List.mem_singleton.mp hs]
      exact .inl rfl
   by_cases z0 : sp.length = 0
   ·rw [if_pos (by rw [decide_eq_true_iff]; omega)]
    nofun
    refine ⟨sd, kv, rfl, ed, ?_⟩
    refine ⟨_, _, _, 102, sp.length, rfl, e102, by omega, by omega, by omega, by omega, ?_⟩
    rw [Int.toNat_natCast]
    nofun
    refine ⟨len2, ?_⟩
    intro rf h_rf
    generalize q_rf : upd H3 rf _ = H4
    have S4 := newS h_rf q_rf
    have e4 := newE q_rf
    nofun
    refine ⟨len2, ?_⟩
    intro tf h_tf
    generalize q_tf : upd H4 tf _ = H5
    have S5 := newS h_tf q_tf
    have e5 := newE q_tf
    nofun
    refine ⟨sd, _, rfl, DPut.k (k := Sum.inr (nmK 102 st sp.length)) (S5 _ _ (S4 _ _ ed)) (by omega), ?_⟩
    exact add H5 tf rf (S4.trans S5) (S5 _ _ e4) e5 _ rfl
   ·rw [if_neg (by rw [decide_eq_true_iff]; omega)]
    nofun
    nofun
    repeat (refine And.intro (by first | exact divOkL (by decide) | exact powOkL (by decide) | exact mulOkL (by decide) | exact mulOkL' (by decide) | exact Int.one_ne_zero | decide) ?_)
    by_cases c6 : (mx.fdiv 4096).fmod 6 = 1
    ·rw [if_pos (by simpa using c6)]
     nofun
     refine ⟨sd, kv, rfl, ed, ?_⟩
     refine ⟨_, _, _, 102, sp.length, rfl, e102, by omega, by omega, by omega, by omega, ?_⟩
     rw [Int.toNat_natCast]
     nofun
     refine ⟨len2, ?_⟩
     intro rf h_rf
     generalize q_rf : upd H3 rf _ = H4
     have S4 := newS h_rf q_rf
     have e4 := newE q_rf
     nofun
     refine ⟨len2, ?_⟩
     intro tf h_tf
     generalize q_tf : upd H4 tf _ = H5
     have S5 := newS h_tf q_tf
     have e5 := newE q_tf
     nofun
     refine ⟨sd, _, rfl, DPut.k (k := Sum.inr (nmK 102 st sp.length)) (S5 _ _ (S4 _ _ ed)) (by omega), ?_⟩
     exact add H5 tf rf (S4.trans S5) (S5 _ _ e4) e5 _ rfl
    ·rw [if_neg (by simpa using c6)]
     nofun
     refine ⟨sd, kv, sp.map (·.f), rfl, ed, by rw [hB.1, List.map_map]; rfl, by rw [List.length_map]; omega, fun sl_ out h_sl ord => ?_⟩
     generalize u4 : upd H3 sl_ _ = H4
     nofun
     have S4 := newS h_sl u4
     have e4 := newE u4
     nofun
     refine ⟨sd, kv, rfl, S4 _ _ ed, ?_⟩
     nofun
     have lo : out.length = sp.length := by rw [ord.1.length_eq, List.length_map]
     refine ⟨by omega, ?_⟩
     have qj := Mth.fm (x := mx) (y := (kv.length : Int)) (by omega)
     obtain ⟨j, hj⟩ := Int.eq_ofNat_of_zero_le qj.1
     rw [hj] at qj ⊢
     have jl : j < out.length := by omega
     obtain ⟨s0, hs0, ef⟩ := List.mem_map.mp (ord.1.mem_iff.mp (List.getElem_mem jl))
     refine ixL (i := j) (SqL.of e4) (by rw [List.getElem?_map, List.getElem?_eq_getElem jl]; rfl) ?_
     nofun
     have ef : s0.f = out[j] := ef
     rw [← ef]
     exact hN _ _ ⟨kv, sp, s0, rfl, S3.trans S4, S4 _ _ ep, hP.mono (P' := PDV K H4) (fun _ _ z => z.sameT S4.t), S4 _ _ ed, hB.mono (P' := SPV K H4) (fun _ _ z => z.sameT S4.t), hG, hs0, fun s hs => .inr (hT s hs), by omega⟩
 ·rintro σ H3 ⟨v4, v5, v6, v7, v8, v9, v10, v11, v12, px, kv, ls, sp, rfl, S3, ep, hP, ed, hB, hG, hT, hli, hsp, hne⟩
  nofun
  refine ⟨len2, ?_⟩
  intro q h_q
  generalize q_q : upd H3 q _ = H4
  have S4 := newS h_q q_q
  have e4 := newE q_q
  nofun
  exact k q pl sd px kv ls sp H4 (S3.trans S4) e4 (S4 _ _ ep) (hP.mono (P' := PDV K H4) fun _ _ z => z.sameT S4.t) (S4 _ _ ed) (hB.mono (P' := SPV K H4) fun _ _ z => z.sameT S4.t) hG hT (by omega) (by omega) (hne (by omega))
abbrev s_law_gaps : Stmt := top 43
theorem sc_law_gaps : FnScope ["_law_script", "_law_spots", "_law_style", "_law_gaps_here", "_law_k", "_law_cell_here", "_law_mixed", "_law_faces", "_law_one", "_law_same", "_law_two", "_law_middle", "_law_other", "_law_low_here", "_law_high"] ["_law_script", "_law_spots", "_law_style"] (defScope s_law_gaps) := ⟨rfl, rfl, rfl, by decide +kernel, rfl, by decide +kernel, by decide +kernel⟩
def sp_law_gaps (K : PySem.W.Frag) : Sp := fun vs H Q E => ∃ (a sd : Addr) (ns : List Int) (st : Nat) (kv : List (Key × V)) (ls : List PD) (sp : List SpD), vs = [.ref a, .ref sd, .int (st : Int)] ∧ SqL K H a (ns.map V.int) ∧ ns.length ≤ 63 ∧ st ≤ 3 ∧ H sd = some (.dK kv) ∧ BG (·.f) (SPV K H) sp kv ∧ Grn st ls sp ∧ Two sp ∧ ls.length ≤ 8 ∧ sp.length ≤ 16 ∧ sp ≠ [] ∧ ∀ gl gx gs H', Same H H' → H' gl = some (.lst gx) → All2 (fun (g : GD) x => TV K H' g.td x) gs gx → (∀ g ∈ gs, TOk g.td ∧ Conn ls g.st g.en ∧ g.nm.length = 4) → gs.length ≤ 8 → Q (.ref gl) H'
theorem ok_law_gaps {f : Addr} {fd : FuncData} {dV : Value} (F : FunD K "_law_gaps" "_law_gaps" s_law_gaps dV f fd) (T : Txt K mg Ad) (c_law_cell : Cal P w K mg base 1 "_law_cell" ["_law_script", "_law_k"] [] (sp_law_cell K)) (c_law_name : Cal P w K mg base 1 "_law_name" ["_law_k", "_law_sign", "_law_style"] [] (sp_law_name)) (c_law_low : Cal P w K mg base 1 "_law_low" ["_law_top", "_law_bottom"] [] (sp_law_low)) (c_law_plus : Cal P w K mg base 2 "_law_plus" ["_law_one", "_law_other", "_law_sign"] [] (sp_law_plus K)) : FnOk P w K mg base (CX1 P w) 3 f fd ["_law_script", "_law_spots", "_law_style"] (sp_law_gaps K) := by
 refine F.okn sc_law_gaps (fun vs H Q E h => ?_) (fun cdv A outer s H vs Q E hr h => ?_)
 ·obtain ⟨a, sd, ns, st, kv, ls, sp, rfl, _⟩ := h; rfl
 obtain ⟨a, sd, ns, st, kv, ls, sp, rfl, h⟩ := h
 have hu := hr.units
 refine ⟨_, (pss_cons (ps_set (i := 3) sc_law_gaps.nd rfl (Or.inl rfl) (pe_lst pa_nil))
   (pss_cons (ps_for PassesOwn.never rfl (pi_range1 rfl T.n_range (pa_cons (pe_op op_modU (c_law_cell.ev hr (by decide) rfl passF (pa_cons (pv 0) (pa_cons pe_int pa_nil))) pe_int) pa_nil)) (pg_name (i := 4) sc_law_gaps.nd rfl (Or.inl rfl))
   (pss_cons (ps_set (i := 5) sc_law_gaps.nd rfl (Or.inl rfl) (c_law_cell.ev hr (by decide) rfl passF (pa_cons (pv 0) (pa_cons (pe_op op_addU pe_int (pe_op op_mul0 pe_int (pv 4))) pa_nil))))
   (pss_cons (ps_set (i := 6) sc_law_gaps.nd rfl (Or.inl rfl) (pe_op op_fdivU (pe_op op_modU (pe_op op_mul0 (pv 5) pe_int) pe_int) pe_int))
   (pss_cons (ps_set (i := 7) sc_law_gaps.nd rfl (Or.inl rfl) (pe_callB (call_sortD rfl) rfl T.n_sorted bt_sorted (pa_cons (pv 1) pa_nil)))
   (pss_cons (ps_set (i := 8) sc_law_gaps.nd rfl (Or.inr rfl) (pe_ix ix_U (pv 7) (pe_op op_modU (pv 6) (pe_callB call_lenU rfl T.n_len bt_len (pa_cons (pv 7) pa_nil))) (fun _ _ => rfl)))
   (pss_cons (ps_setCompI (j := 9) (own := ["_law_face"]) (cs := [(8, "_law_one"), (1, "_law_spots")]) sc_law_gaps.nd rfl (Or.inl rfl) rfl (pi_U (pv 7)) (fun _ _ _ _ => (pg_name (i := 0) (show [("_law_face" : Str), ("_law_one" : Str), ("_law_spots" : Str)].Nodup by decide) rfl (Or.inl rfl))) (fun _ _ _ _ => (PW.pt (pw_and (pt_cmpR (op_neK (K := K) rfl hu) (pv 0) (pv 1) (nomark _)) (pw_and1 (pt_cmpR (op_eqK (K := K) rfl hu) (pe_ix (ix_UK (K := K) rfl) (pe_dget (hu1 hu) (pv 2) (pv 0) (fun _ _ => rfl)) pe_int (fun _ _ => rfl)) (pe_ix (ix_UK (K := K) rfl) (pe_dget (hu1 hu) (pv 2) (pv 1) (fun _ _ => rfl)) pe_int (fun _ _ => rfl)) (nomark _)))))) (fun _ _ _ _ => (pv 0)) (hfreeD rfl) (by decide) rfl (by decide) (hcs2 rfl rfl rfl rfl rfl rfl))
   (pss_cons (ps_set (i := 10) sc_law_gaps.nd rfl (Or.inl rfl) (pe_ix ix_U (pv 9) (pe_op op_modU (pe_op op_fdivU (pv 6) pe_int) (pe_callB call_lenU rfl T.n_len bt_len (pa_cons (pv 9) pa_nil))) (fun _ _ => rfl)))
   (pss_cons (ps_set (i := 11) sc_law_gaps.nd rfl (Or.inl rfl) (c_law_plus.ev hr (by decide) rfl passF (pa_cons (pe_ix ix_U (pe_dget (hu1 hu) (pv 1) (pv 10) (fun _ _ => rfl)) pe_int (fun _ _ => rfl)) (pa_cons (pe_ix ix_U (pe_dget (hu1 hu) (pv 1) (pv 8) (fun _ _ => rfl)) pe_int (fun _ _ => rfl)) (pa_cons (pe_un un_neg pe_int) pa_nil)))))
   (pss_cons (ps_set (i := 12) sc_law_gaps.nd rfl (Or.inl rfl) (c_law_cell.ev hr (by decide) rfl passF (pa_cons (pv 0) (pa_cons (pe_op op_addU pe_int (pe_op op_mul0 pe_int (pv 4))) pa_nil))))
   (pss_cons (ps_set (i := 13) sc_law_gaps.nd rfl (Or.inl rfl) (c_law_plus.ev hr (by decide) rfl passF (pa_cons (pv 11) (pa_cons (c_law_low.ev hr (by decide) rfl passF (pa_cons (pe_op op_modU (pv 12) pe_int) (pa_cons (pe_op op_addU pe_int (pe_op op_modU (pe_op op_fdivU (pv 6) pe_int) pe_int)) pa_nil))) (pa_cons (pe_un un_neg pe_int) pa_nil)))))
   (pss_cons (ps_set (i := 14) sc_law_gaps.nd rfl (Or.inl rfl) (c_law_plus.ev hr (by decide) rfl passF (pa_cons (pv 11) (pa_cons (c_law_low.ev hr (by decide) rfl passF (pa_cons (pe_op op_modU (pe_op op_fdivU (pv 12) pe_int) pe_int) (pa_cons (pe_op op_addU pe_int (pe_op op_modU (pe_op op_fdivU (pv 6) pe_int) pe_int)) pa_nil))) (pa_cons pe_int pa_nil)))))
   (pss_one (ps_expr (pe_bm PySem.F.plainAttrs_list PySem.F.slot_list_append PySem.F.type_list_append mt_append (pv 3) (pa_cons (pe_tup (pa_cons (c_law_name.ev hr (by decide) rfl passF (pa_cons (pv 4) (pa_cons (pe_ix ix_U (pe_lst (pa_cons pe_str (pa_cons pe_str pa_nil))) (pe_op op_modU (pe_op op_fdivU (pv 6) pe_int) pe_int) (fun _ _ => rfl)) (pa_cons (pe_op op_modU (pe_op op_addU (pv 2) (pv 4)) pe_int) pa_nil)))) (pa_cons (pv 8) (pa_cons (pv 10) (pa_cons (pv 13) (pa_cons (pv 14) pa_nil)))))) pa_nil)))))))))))))))
   (pss_one (ps_ret (pv 3))))), ?_⟩
 obtain ⟨hS, hl, hst, ed, hB, hG, hT, h8, h16, hne, k⟩ := h
 have sl : (1000 : Nat) ≤ sizeLine := by decide
 have e103 : (Str.ofString "g").cps = #[103] := by decide
 have e112 : (Str.ofString "p").cps = #[112] := by decide
 have lk := hB.length
 have sp1 : 1 ≤ sp.length := by cases sp with | nil => exact absurd rfl hne | cons _ _ => simp
 show tSeq _ _ _ [some (.ref a), some (.ref sd), some (.int (st : Int)), none, none, none, none, none, none, none, none, none, none, none, none] H
 nofun
 refine ⟨len0, ?_⟩
 intro gl h_gl
 generalize q_gl : upd H gl _ = H2
 have S2 := newS h_gl q_gl
 have e2 := newE q_gl
 nofun
 refine ⟨a, ns, 1, rfl, hS.same S2, hl, by decide, by decide, fun c0 => ?_⟩
 nofun
 repeat (refine And.intro (by first | exact divOkL (by decide) | exact powOkL (by decide) | exact mulOkL (by decide) | exact mulOkL' (by decide) | exact Int.one_ne_zero | decide) ?_)
 have q0 := Mth.fm (x := c0) (y := 9) (by decide)
 refine ⟨_, rfl, by omega, by omega, ?_⟩
 refine ForR.byN (fun i σ H' => ∃ (v5 v6 v7 v8 v9 v10 v11 v12 v13 v14 v15 : Option V) (gx : List V) (gs : List GD), σ = [some (.ref a), some (.ref sd), some (.int (st : Int)), some (.ref gl), v5, v6, v7, v8, v9, v10, v11, v12, v13, v14, v15] ∧ Same H H' ∧ H' gl = some (.lst gx) ∧ All2 (fun (g : GD) x => TV K H' g.td x) gs gx ∧ (∀ g ∈ gs, TOk g.td ∧ Conn ls g.st g.en ∧ g.nm.length = 4) ∧ gs.length = i) ⟨none, none, none, none, none, none, none, none, none, none, none, [], [], rfl, S2, e2, rfl, (fun g hg => by cases hg), rfl⟩ ?_ ?_
 ·rintro i σ H3 hi ⟨v5, v6, v7, v8, v9, v10, v11, v12, v13, v14, v15, gx, gs, rfl, S3, eg, hX, hok, hgi⟩ N0 hN0
  have i8 : i < 8 := by omega
  have ed3 := S3 _ _ ed
  have hB3 := hB.mono (P' := SPV K H3) fun _ _ z => z.sameT S3.t
  rw [Int.zero_add]
  nofun
  repeat (refine And.intro (by first | exact divOkL (by decide) | exact powOkL (by decide) | exact mulOkL (by decide) | exact mulOkL' (by decide) | exact Int.one_ne_zero | decide) ?_)
  refine ⟨a, ns, _, rfl, hS.same S3, hl, by omega, by omega, fun c1 => ?_⟩
  nofun
  repeat (refine And.intro (by first | exact divOkL (by decide) | exact powOkL (by decide) | exact mulOkL (by decide) | exact mulOkL' (by decide) | exact Int.one_ne_zero | decide) ?_)
  generalize hmx : ((c1 * 39373).fmod 2147483629).fdiv 37 = mx
  refine ⟨sd, kv, sp.map (·.f), rfl, ed3, by rw [hB3.1, List.map_map]; rfl, by rw [List.length_map]; omega, fun fl out h_fl ord => ?_⟩
  generalize u4 : upd H3 fl _ = H4
  nofun
  have S4 := newS h_fl u4
  have e4 := newE u4
  have ed4 := S4 _ _ ed3
  have hB4 := hB3.mono (P' := SPV K H4) fun _ _ z => z.sameT S4.t
  have lo : out.length = sp.length := by rw [ord.1.length_eq, List.length_map]
  nofun
  refine ⟨_, .inl (SqL.of e4), ?_⟩
  try simp only [y80y, y4cy, y4dy, y4ey, y6fy, y2ay, y6ay, y7dy, y7ey, y44y, y2dy, y76y, y8cy, y2fy, y39y, y70y, y2ey, y85y, y23y, y28y, y77y, y72y, y29y, y78y, y74y, y58y, y8ey, y26y, y84y, y6ey, y67y, y49y, y66y, y7by, y32y, y47y, y6cy, y48y, y6dy, y46y, y6by, y87y, y62y, y5ey, y89y, y8by, y88y, y8ay, y25y, y65y, y24y, true_and, if_true, if_false, Bool.not_true, Bool.not_false, Bool.false_eq_true, yby, ydy, yay, ycy, yey, y15y, y17y, y14y, y16y, y18y, y6y, y8y, y5y, y7y, y9y, y1y, y3y, y0y, y2y, y4y, y10y, y12y, yfy, y11y, y13y, y1ay, y1cy, y19y, y1by, y1dy, y1fy, y21y, y1ey, y20y, y22y, y82y, y7ay, y71y, y30y, y31y, y52y, y60y, y61y, y4by, y83y, y86y, y8fy, y7cy, y27y, V.int.injEq, V.str.injEq, List.set_cons_zero, List.set_cons_succ, List.getElem?_cons_zero, List.getElem?_cons_succ, Option.some.injEq, exists_eq_left, exists_eq_left', V.bl.injEq, Int.reduceToNat, Int.reducePow, List.append_nil, List.nil_append, List.cons_append, y54y, y56y, y2by, y2cy, y68y, y5dy, y73y, y63y, y64y, y3ay, y3by, y3cy, y43y, y45y, y3ey, y79y, y40y, y3fy, y33y, y35y, y37y, y3dy, y41y, y4fy, y50y, y59y, y93y, y94y, y90y, y91y, y92y, reduceCtorEq, decide_false, decide_true, List.length_map]
  refine ⟨by omega, ?_⟩
  have qj := Mth.fm (x := mx) (y := (out.length : Int)) (by omega)
  obtain ⟨j, hj⟩ := Int.eq_ofNat_of_zero_le qj.1
  rw [hj] at qj ⊢
  have jl : j < out.length := by omega
  obtain ⟨s1, hs1, ef⟩ := List.mem_map.mp (ord.1.mem_iff.mp (List.getElem_mem jl))
  refine ixL (i := j) (SqL.of e4) (by rw [List.getElem?_map, List.getElem?_eq_getElem jl]; rfl) ?_
  have ef : s1.f = out[j] := ef
  rw [← ef]
  nofun
  obtain ⟨s', vs1, hs', hsf, hv1, tb1, w1, rfl, htb1, hw1⟩ := hB4.some (z := s1.f) (List.mem_map.mpr ⟨s1, hs1, rfl⟩)
  have es := hG.inj hs' hs1 hsf
  subst es
  refine ⟨fl, rfl, .inl ⟨⟨_, SqL.of e4⟩, CompIJ.list (xs := out.map V.str) (fun i ys H' => H' = H4 ∧ ∃ fs : List Str, ys = fs.map V.str ∧ fs.length ≤ i ∧ (∀ f ∈ fs, ∃ t ∈ sp, t.f = f ∧ t.f ≠ s'.f ∧ t.r = s'.r) ∧ (∀ t ∈ sp, t.f ∈ out.take i → t.f ≠ s'.f → t.r = s'.r → t.f ∈ fs)) ⟨rfl, [], rfl, Nat.zero_le _, (fun f hf => by cases hf), fun t _ h => by simp at h⟩ (fun i ys H' hi z => by
   obtain ⟨rfl, fs, rfl, hf, _⟩ := z
   rw [List.length_map] at hi ⊢
   exact ⟨SqL.of e4, by omega⟩) ?_ ?_⟩⟩
  ·rintro m y ys H5 hy ⟨rfl, fs, rfl, hfl, hf1, hf2⟩
   have lm := (List.getElem?_eq_some_iff.mp hy).1
   rw [List.length_map] at lm
   rw [List.getElem?_map, List.getElem?_eq_getElem lm] at hy
   have hy : y = .str out[m] := (Option.some.inj hy).symm
   subst hy
   obtain ⟨t, ht, etf⟩ := List.mem_map.mp (ord.1.mem_iff.mp (List.getElem_mem lm))
   have etf : t.f = out[m] := etf
   rw [← etf]
   obtain ⟨t', vt, ht', htf, hvt, tbt, wt, rfl, htbt, hwt⟩ := hB4.some (z := t.f) (List.mem_map.mpr ⟨t, ht, rfl⟩)
   have et := hG.inj ht' ht htf
   subst et
   have keep : ∀ (u : SpD), u ∈ sp → u.f ∈ out.take (m + 1) → u.f ∈ out.take m ∨ u = t' := fun u hu h => by
    rw [List.take_succ, List.getElem?_eq_getElem lm] at h
    rcases List.mem_append.mp h with h | h
    ·exact .inl h
    ·have : u.f = out[m] := by simpa using h
     exact .inr (hG.inj hu ht (this.trans etf.symm))
   simp only [List.length_singleton, List.length_cons, List.length_nil, List.replicate, capsAt, List.map_cons, List.map_nil, Option.join_some, y80y, y4cy, y4dy, y4ey, y6fy, y2ay, y6ay, y7dy, y7ey, y44y, y2dy, y76y, y8cy, y2fy, y39y, y70y, y2ey, y85y, y23y, y28y, y77y, y72y, y29y, y78y, y74y, y58y, y8ey, y26y, y84y, y6ey, y67y, y49y, y66y, y7by, y32y, y47y, y6cy, y48y, y6dy, y46y, y6by, y87y, y62y, y5ey, y89y, y8by, y88y, y8ay, y25y, y65y, y24y, true_and, if_true, if_false, Bool.not_true, Bool.not_false, Bool.false_eq_true, yby, ydy, yay, ycy, yey, y15y, y17y, y14y, y16y, y18y, y6y, y8y, y5y, y7y, y9y, y1y, y3y, y0y, y2y, y4y, y10y, y12y, yfy, y11y, y13y, y1ay, y1cy, y19y, y1by, y1dy, y1fy, y21y, y1ey, y20y, y22y, y82y, y7ay, y71y, y30y, y31y, y52y, y60y, y61y, y4by, y83y, y86y, y8fy, y7cy, y27y, V.int.injEq, V.str.injEq, List.set_cons_zero, List.set_cons_succ, List.getElem?_cons_zero, List.getElem?_cons_succ, Option.some.injEq, exists_eq_left, exists_eq_left', V.bl.injEq, Int.reduceToNat, Int.reducePow, List.append_nil, List.nil_append, List.cons_append, y54y, y56y, y2by, y2cy, y68y, y5dy, y73y, y63y, y64y, y3ay, y3by, y3cy, y43y, y45y, y3ey, y79y, y40y, y3fy, y33y, y35y, y37y, y3dy, y41y, y4fy, y50y, y59y, y93y, y94y, y90y, y91y, y92y, reduceCtorEq, decide_false, decide_true]
   have fin0 : (¬ (t'.f ≠ s'.f ∧ t'.r = s'.r)) → ∃ fs_1 : List Str, fs.map V.str = fs_1.map V.str ∧ fs_1.length ≤ m + 1 ∧ (∀ f ∈ fs_1, ∃ t ∈ sp, t.f = f ∧ t.f ≠ s'.f ∧ t.r = s'.r) ∧ ∀ t ∈ sp, t.f ∈ out.take (m + 1) → t.f ≠ s'.f → t.r = s'.r → t.f ∈ fs_1 := fun hno => ⟨fs, rfl, by omega, hf1, fun u hu hk h1 h2 => by
    rcases keep u hu hk with h | rfl
    ·exact hf2 u hu h h1 h2
    ·exact absurd ⟨h1, h2⟩ hno⟩
   by_cases c1 : t'.f = s'.f
   ·rw [if_neg (by simpa using c1)]
    nofun
    nofun
    exact fin0 fun h => h.1 c1
   ·rw [if_pos (by simpa using c1)]
    nofun
    nofun
    refine ⟨sd, _, rfl, by rw [← hvt]; exact DGet.k (k := Sum.inr t'.f) ed4, ?_⟩
    refine ixT (i := 0) htbt rfl ?_
    refine ⟨sd, _, rfl, by rw [← hv1]; exact DGet.k (k := Sum.inr s'.f) ed4, ?_⟩
    refine ixT (i := 0) htb1 rfl ?_
    nofun
    by_cases c2 : t'.r = s'.r
    ·rw [if_pos (by simpa using c2)]
     nofun
     nofun
     refine ⟨fs ++ [t'.f], by simp, by simp; omega, fun f hf => ?_, fun u hu hk h1 h2 => ?_⟩
     ·rcases List.mem_append.mp hf with h | h
      ·exact hf1 f h
      ·rw [List.mem_singleton.mp h]
       exact ⟨t', ht, rfl, c1, c2⟩
     ·rcases keep u hu hk with h | rfl
      ·exact List.mem_append.mpr (.inl (hf2 u hu h h1 h2))
      ·simp
    ·rw [if_neg (by simpa using c2)]
     nofun
     nofun
     exact fin0 fun h => c2 h.2
  ·rintro ys H5 ⟨rfl, fs, rfl, hfl, hf1, hf2⟩
   have fl1 : 1 ≤ fs.length := by
    obtain ⟨t, ht, h1, h2⟩ := hT s' hs1
    have := hf2 t ht (by rw [List.take_of_length_le (by rw [List.length_map]; omega)]; exact ord.1.mem_iff.mpr (List.mem_map.mpr ⟨t, ht, rfl⟩)) h1 h2
    cases fs with
    | nil => cases this
    | cons _ _ => simp
   rw [List.length_map] at hfl
   intro sm h_sm
   generalize q_sm : upd H5 sm _ = H6
   have S6 := newS h_sm q_sm
   have e6 := newE q_sm
   nofun
   try infer_instance
   repeat (refine And.intro (by first | exact divOkL (by decide) | exact powOkL (by decide) | exact mulOkL (by decide) | exact mulOkL' (by decide) | exact Int.one_ne_zero | decide) ?_)
   refine ⟨_, .inl (SqL.of e6), ?_⟩
   try simp only [y80y, y4cy, y4dy, y4ey, y6fy, y2ay, y6ay, y7dy, y7ey, y44y, y2dy, y76y, y8cy, y2fy, y39y, y70y, y2ey, y85y, y23y, y28y, y77y, y72y, y29y, y78y, y74y, y58y, y8ey, y26y, y84y, y6ey, y67y, y49y, y66y, y7by, y32y, y47y, y6cy, y48y, y6dy, y46y, y6by, y87y, y62y, y5ey, y89y, y8by, y88y, y8ay, y25y, y65y, y24y, true_and, if_true, if_false, Bool.not_true, Bool.not_false, Bool.false_eq_true, yby, ydy, yay, ycy, yey, y15y, y17y, y14y, y16y, y18y, y6y, y8y, y5y, y7y, y9y, y1y, y3y, y0y, y2y, y4y, y10y, y12y, yfy, y11y, y13y, y1ay, y1cy, y19y, y1by, y1dy, y1fy, y21y, y1ey, y20y, y22y, y82y, y7ay, y71y, y30y, y31y, y52y, y60y, y61y, y4by, y83y, y86y, y8fy, y7cy, y27y, V.int.injEq, V.str.injEq, List.set_cons_zero, List.set_cons_succ, List.getElem?_cons_zero, List.getElem?_cons_succ, Option.some.injEq, exists_eq_left, exists_eq_left', V.bl.injEq, Int.reduceToNat, Int.reducePow, List.append_nil, List.nil_append, List.cons_append, y54y, y56y, y2by, y2cy, y68y, y5dy, y73y, y63y, y64y, y3ay, y3by, y3cy, y43y, y45y, y3ey, y79y, y40y, y3fy, y33y, y35y, y37y, y3dy, y41y, y4fy, y50y, y59y, y93y, y94y, y90y, y91y, y92y, reduceCtorEq, decide_false, decide_true, List.length_map]
   refine ⟨by omega, ?_⟩
   have qk := Mth.fm (x := mx.fdiv 64) (y := (fs.length : Int)) (by omega)
   obtain ⟨j2, hj2⟩ := Int.eq_ofNat_of_zero_le qk.1
   rw [hj2] at qk ⊢
   have jl2 : j2 < fs.length := by omega
   obtain ⟨t, ht, htf, htn, htr⟩ := hf1 _ (List.getElem_mem jl2)
   refine ixL (i := j2) (SqL.of e6) (by rw [List.getElem?_map, List.getElem?_eq_getElem jl2]; rfl) ?_
   rw [← htf]
   obtain ⟨t', vt, ht', htf', hvt, tbt, wt, rfl, htbt, hwt⟩ := hB4.some (z := t.f) (List.mem_map.mpr ⟨t, ht, rfl⟩)
   have et := hG.inj ht' ht htf'
   subst et
   try infer_instance
   have ed6 := S6 _ _ ed4
   refine ⟨sd, _, rfl, by rw [← hvt]; exact DGet.k (k := Sum.inr t'.f) ed6, ?_⟩
   refine ixT (i := 1) (htbt.same S6) rfl ?_
   refine ⟨sd, _, rfl, by rw [← hv1]; exact DGet.k (k := Sum.inr s'.f) ed6, ?_⟩
   refine ixT (i := 1) (htb1.same S6) rfl ?_
   try infer_instance
   have tb := hG.fb t' ht
   have sb := hG.fb s' hs1
   refine ⟨wt, w1, _, t'.p, s'.p, false, rfl, rfl, hwt.same S6, hw1.same S6, tb.w.mono (by omega) (by omega), sb.w.mono (by omega) (by omega), fun mp H7 S7 e7 => ?_⟩
   have pt_ := hG.pl_at ht
   have ps_ := hG.pl_at hs1
   have mb : FB 464 322 (addF t'.p (sgn false s'.p)) := by
    have := mid_fb (g := ⟨s'.f, s'.f, t'.f, (0, 1), (0, 1)⟩) (hG.plb h8)
    unfold mid at this
    rw [pt_, ps_] at this
    exact this
   generalize addF t'.p (sgn false s'.p) = m at *
   nofun
   repeat (refine And.intro (by first | exact divOkL (by decide) | exact powOkL (by decide) | exact mulOkL (by decide) | exact mulOkL' (by decide) | exact Int.one_ne_zero | decide) ?_)
   have S37 := S4.trans (S6.trans S7)
   refine ⟨a, ns, _, rfl, (hS.same S3).same S37, hl, by omega, by omega, fun c2 => ?_⟩
   nofun
   repeat (refine And.intro (by first | exact divOkL (by decide) | exact powOkL (by decide) | exact mulOkL (by decide) | exact mulOkL' (by decide) | exact Int.one_ne_zero | decide) ?_)
   have qx := Mth.fm (x := c2) (y := 23) (by decide)
   have qy := Mth.fm (x := c2.fdiv 23) (y := 23) (by decide)
   have qd := Mth.fm (x := mx.fdiv 1024) (y := 5) (by decide)
   have qe := Mth.fm (x := mx.fdiv 8192) (y := 5) (by decide)
   refine ⟨_, _, rfl, by omega, .lit (by omega) (by omega), fun bp H8 S8 e8 => ?_⟩
   have fB : FB 6 4 (Mth.top (c2.fmod 23) (1 + (mx.fdiv 1024).fmod 5), Mth.bot (c2.fmod 23) (1 + (mx.fdiv 1024).fmod 5)) := FB.low (by omega) (.lit (by omega) (by omega)) (.lit (by omega) (by omega))
   have n1 := low_nn (t := c2.fmod 23) (d := 1 + (mx.fdiv 1024).fmod 5) qx.1 (by omega)
   have fA : FB 6 4 (Mth.top ((c2.fdiv 23).fmod 23) (1 + (mx.fdiv 8192).fmod 5), Mth.bot ((c2.fdiv 23).fmod 23) (1 + (mx.fdiv 8192).fmod 5)) := FB.low (by omega) (.lit (by omega) (by omega)) (.lit (by omega) (by omega))
   have n2 := low_nn (t := (c2.fdiv 23).fmod 23) (d := 1 + (mx.fdiv 8192).fmod 5) qy.1 (by omega)
   obtain ⟨B, hBe⟩ : ∃ B : Fr2, B = (Mth.top (c2.fmod 23) (1 + (mx.fdiv 1024).fmod 5), Mth.bot (c2.fmod 23) (1 + (mx.fdiv 1024).fmod 5)) := ⟨_, rfl⟩
   obtain ⟨A, hAe⟩ : ∃ A : Fr2, A = (Mth.top ((c2.fdiv 23).fmod 23) (1 + (mx.fdiv 8192).fmod 5), Mth.bot ((c2.fdiv 23).fmod 23) (1 + (mx.fdiv 8192).fmod 5)) := ⟨_, rfl⟩
   have eB1 : B.1 = Mth.top (c2.fmod 23) (1 + (mx.fdiv 1024).fmod 5) := by rw [hBe]
   have eB2 : B.2 = Mth.bot (c2.fmod 23) (1 + (mx.fdiv 1024).fmod 5) := by rw [hBe]
   have eA1 : A.1 = Mth.top ((c2.fdiv 23).fmod 23) (1 + (mx.fdiv 8192).fmod 5) := by rw [hAe]
   have eA2 : A.2 = Mth.bot ((c2.fdiv 23).fmod 23) (1 + (mx.fdiv 8192).fmod 5) := by rw [hAe]
   rw [← hBe] at fB n1
   rw [← hAe] at fA n2
   rw [← eB1, ← eB2] at e8
   have hAB : 0 ≤ vl A + vl B := Rat.add_nonneg n2 n1
   nofun
   refine ⟨.ref mp, .ref bp, _, m, B, false, rfl, rfl, FrV.of (S8 _ _ e7), FrV.of e8, mb.w.mono (by decide) (by decide), fB.w.mono (by decide) (by decide), fun lp H10 S10 e10 => ?_⟩
   nofun
   repeat (refine And.intro (by first | exact divOkL (by decide) | exact powOkL (by decide) | exact mulOkL (by decide) | exact mulOkL' (by decide) | exact Int.one_ne_zero | decide) ?_)
   refine ⟨_, _, rfl, by omega, .lit (by omega) (by omega), fun ap H9 S9 e9 => ?_⟩
   rw [← eA1, ← eA2] at e9
   nofun
   refine ⟨.ref mp, .ref ap, _, m, A, true, rfl, rfl, FrV.of (S9 _ _ (S10 _ _ (S8 _ _ e7))), FrV.of e9, mb.w.mono (by decide) (by decide), fA.w.mono (by decide) (by decide), fun hp H11 S11 e11 => ?_⟩
   nofun
   have S311 := S37.trans (S8.trans (S10.trans (S9.trans S11)))
   have lgx := hX.length
   refine ⟨.inl ⟨rfl, _, SqL.of (S311 _ _ eg)⟩, ?_⟩
   refine ⟨len2, ?_⟩
   intro nl h_nl
   generalize q_nl : upd H11 nl _ = H111
   have S111 := newS h_nl q_nl
   have e111 := newE q_nl
   nofun
   repeat (refine And.intro (by first | exact divOkL (by decide) | exact powOkL (by decide) | exact mulOkL (by decide) | exact mulOkL' (by decide) | exact Int.one_ne_zero | decide) ?_)
   have q6 := Mth.fm (x := mx.fdiv 32) (y := 2) (by decide)
   obtain ⟨n6, hn6⟩ := Int.eq_ofNat_of_zero_le q6.1
   rw [hn6] at q6 ⊢
   obtain ⟨zc, sc_, hzc, hsc, hsr⟩ : ∃ (zc : Str) (sc_ : Nat), [V.str (Str.ofString "g"), V.str (Str.ofString "p")][n6]? = some (.str zc) ∧ zc.cps = #[sc_] ∧ 97 ≤ sc_ ∧ sc_ ≤ 122 := by
    match n6, q6 with
    | 0, _ => exact ⟨_, 103, rfl, e103, by decide, by decide⟩
    | 1, _ => exact ⟨_, 112, rfl, e112, by decide, by decide⟩
    | n + 2, q6 => omega
   refine ixL (i := n6) (SqL.of e111) hzc ?_
   nofun
   repeat (refine And.intro (by first | exact divOkL (by decide) | exact powOkL (by decide) | exact mulOkL (by decide) | exact mulOkL' (by decide) | exact Int.one_ne_zero | decide) ?_)
   have q7 := Mth.fm (x := (st : Int) + (i : Int)) (y := 4) (by decide)
   refine ⟨_, _, _, sc_, i, rfl, hsc, rfl, by omega, q7.1, by omega, ?_⟩
   have hname : nameS (nmK sc_ (((st : Int) + (i : Int)).fmod 4).toNat i) = true := nmK_name hsr (by omega) (by omega)
   have hnl : (nmK sc_ (((st : Int) + (i : Int)).fmod 4).toNat i).length = 4 := nmK_len (by omega)
   generalize nmK sc_ (((st : Int) + (i : Int)).fmod 4).toNat i = gn at *
   nofun
   refine ⟨len5, ?_⟩
   intro gt h_gt
   generalize q_gt : upd H111 gt _ = H12
   have S12 := newS h_gt q_gt
   have e12 := newE q_gt
   nofun
   have S312 := S311.trans (S111.trans S12)
   refine ⟨gl, gx, _, rfl, rfl, S312 _ _ eg, by omega, ?_⟩
   generalize u13 : upd H12 gl _ = H13
   nofun
   have e13 : H13 gl = some (.lst (gx ++ [.ref gt])) := putE u13
   have T13 : SameT H12 H13 := SameT.put u13 (S312 _ _ eg) rfl
   have fr13 : ∀ b u, b ≠ gl → H12 b = some u → H13 b = some u := fun b u hb h => by rw [← u13, upd_ne hb]; exact h
   have T3' : SameT H3 H13 := S312.t.trans T13
   have lob : FB 600 600 (addF m (sgn false B)) := (FB.add (n := 468) (m := 326) mb fB.neg (by decide) (by decide) (by decide)).mono (by decide) (by decide)
   have hib : FB 600 600 (addF m (sgn true A)) := (FB.add (n := 468) (m := 326) mb fA (by decide) (by decide) (by decide)).mono (by decide) (by decide)
   have tok : TOk (GD.td ⟨gn, s'.f, t'.f, addF m (sgn false B), addF m (sgn true A)⟩) := ⟨hname, hG.fname hst h16 hs1, hG.fname hst h16 ht, Ne.symm htn, fun u hu => by cases hu; exact lob.ok (by decide) (by decide), fun u hu => by cases hu; exact hib.ok (by decide) (by decide), hi_lo mb fA fB hAB⟩
   refine hN0 _ _ ⟨_, _, _, _, _, _, _, _, _, _, _, gx ++ [.ref gt], gs ++ [⟨gn, s'.f, t'.f, addF m (sgn false B), addF m (sgn true A)⟩], rfl, fun b w h => fr13 _ _ (ne_of_none h h_gl) (S312 _ _ (S3 _ _ h)), e13, ?_, ?_, by simp [hgi]⟩
   ·exact (hX.mono (P' := fun (g : GD) x => TV K H13 g.td x) fun _ _ z => z.sameT T3').append (.one ⟨gt, .ref lp, .ref hp, rfl, SqT.of (T13 _ _ rfl e12), FrV.of (T13 _ _ rfl (S12 _ _ (S111 _ _ (S11 _ _ (S9 _ _ e10))))), FrV.of (T13 _ _ rfl (S12 _ _ (S111 _ _ e11)))⟩)
   ·intro g hg
    rcases List.mem_append.mp hg with h' | h'
    ·exact hok g h'
    ·rw [List.mem_singleton.mp h']
     exact ⟨tok, hG.joined hs1 ht htr.symm, hnl⟩
 ·rintro σ H3 ⟨v5, v6, v7, v8, v9, v10, v11, v12, v13, v14, v15, gx, gs, rfl, S3, eg, hX, hok, hgi⟩
  nofun
  exact k gl gx gs H3 S3 eg hX hok (by omega)
abbrev s_law_listed : Stmt := top 42
theorem sc_law_listed : FnScope ["_law_script", "_law_parts_here", "_law_kept", "_law_k"] ["_law_script", "_law_parts_here"] (defScope s_law_listed) := ⟨rfl, rfl, rfl, by decide +kernel, rfl, by decide +kernel, by decide +kernel⟩
def sp_law_listed (K : PySem.W.Frag) : Sp := fun vs H Q E => ∃ (a c : Addr) (ns : List Int) (px : List V) (ls : List PD), vs = [.ref a, .ref c] ∧ SqL K H a (ns.map V.int) ∧ ns.length ≤ 63 ∧ SqL K H c px ∧ All2 (PDV K H) ls px ∧ ls.length ≤ 8 ∧ ∀ l ys ks H', Same H H' → H' l = some (.lst ys) → All2 (PDV K H') ks ys → ks.Perm ls → Q (.ref l) H'
theorem ok_law_listed {f : Addr} {fd : FuncData} {dV : Value} (F : FunD K "_law_listed" "_law_listed" s_law_listed dV f fd) (T : Txt K mg Ad) (c_law_cell : Cal P w K mg base 1 "_law_cell" ["_law_script", "_law_k"] [] (sp_law_cell K)) : FnOk P w K mg base (CX1 P w) 2 f fd ["_law_script", "_law_parts_here"] (sp_law_listed K) := by
 refine F.okn sc_law_listed (fun vs H Q E h => ?_) (fun cdv A outer s H vs Q E hr h => ?_)
 ·obtain ⟨a, c, ns, px, ls, rfl, _⟩ := h; rfl
 obtain ⟨a, c, ns, px, ls, rfl, h⟩ := h
 have hu := hr.units
 refine ⟨_, (pss_cons (ps_set (i := 2) sc_law_listed.nd rfl (Or.inl rfl) (pe_lst pa_nil))
   (pss_cons (ps_for PassesOwn.never rfl (pi_range1 rfl T.n_range (pa_cons (pe_callB call_lenU rfl T.n_len bt_len (pa_cons (pv 1) pa_nil)) pa_nil)) (pg_name (i := 3) sc_law_listed.nd rfl (Or.inl rfl))
   (pss_one (ps_expr (pe_bm PySem.F.plainAttrs_list PySem.F.slot_list_insert PySem.F.type_list_insert mt_insert (pv 2) (pa_cons (pe_op op_modU (pe_op op_fdivU (pe_op op_modU (pe_op op_mul0 (c_law_cell.ev hr (by decide) rfl passF (pa_cons (pv 0) (pa_cons (pe_op op_addU pe_int (pe_op op_mul0 pe_int (pv 3))) pa_nil))) pe_int) pe_int) pe_int) (pe_op op_addU pe_int (pv 3))) (pa_cons (pe_ix ix_U (pv 1) (pv 3) (fun _ _ => rfl)) pa_nil))))))
   (pss_one (ps_ret (pv 2))))), ?_⟩
 obtain ⟨hS, hl, hC, hP, h8, k⟩ := h
 have sl : (1000 : Nat) ≤ sizeLine := by decide
 have lp := hP.length
 show tSeq _ _ _ [some (.ref a), some (.ref c), none, none] H
 nofun
 refine ⟨len0, ?_⟩
 intro kl h_kl
 generalize q_kl : upd H kl _ = H1
 have S1 := newS h_kl q_kl
 have e1 := newE q_kl
 nofun
 refine ⟨_, .inl (hC.same S1), ?_⟩
 nofun
 refine ⟨_, rfl, by omega, by omega, ?_⟩
 refine ForR.by (fun i σ H' => ∃ (v3 : Option V) (ys : List V) (ks : List PD), σ = [some (.ref a), some (.ref c), some (.ref kl), v3] ∧ Same H H' ∧ H' kl = some (.lst ys) ∧ All2 (PDV K H') ks ys ∧ ks.Perm (ls.take i)) ⟨none, [], [], rfl, S1, e1, rfl, by simp⟩ ?_ ?_
 ·rintro i σ H2 hi ⟨v3, ys, ks, rfl, S2, e2, hK, hp⟩
  have li : i < ls.length := by omega
  have lks : ks.length = i := by rw [hp.length_eq, List.length_take]; omega
  have lys := hK.length
  obtain ⟨xv, hxv, pv⟩ := hP.get (List.getElem?_eq_getElem li)
  rw [Int.zero_add]
  nofun
  refine ⟨.inl ⟨rfl, _, SqL.of e2⟩, ?_⟩
  repeat (refine And.intro (by first | exact divOkL (by decide) | exact powOkL (by decide) | exact mulOkL (by decide) | exact mulOkL' (by decide) | exact Int.one_ne_zero | decide) ?_)
  refine ⟨a, ns, _, rfl, hS.same S2, hl, by omega, by omega, fun c1 => ?_⟩
  nofun
  repeat (refine And.intro (by first | exact divOkL (by decide) | exact powOkL (by decide) | exact mulOkL (by decide) | exact mulOkL' (by decide) | exact Int.one_ne_zero | decide) ?_)
  refine ⟨by omega, ?_⟩
  have qn := Mth.fm (x := ((c1 * 16807).fmod 2147483587).fdiv 37) (y := 1 + (i : Int)) (by omega)
  obtain ⟨n, hn⟩ := Int.eq_ofNat_of_zero_le qn.1
  rw [hn] at qn ⊢
  refine ixL (i := i) (hC.same S2) hxv ?_
  nofun
  refine ⟨kl, ys, xv, n, rfl, rfl, e2, by omega, by omega, ?_⟩
  generalize u3 : upd H2 kl _ = H3
  nofun
  have e3 := putE u3
  have T3 : SameT H2 H3 := SameT.put u3 e2 rfl
  have hK3 := hK.mono (P' := PDV K H3) fun _ _ z => z.sameT T3
  refine ⟨_, _, ks.take n ++ ls[i] :: ks.drop n, rfl, fun b u h => by rw [← u3, upd_ne (ne_of_none h h_kl)]; exact S2 _ _ h, e3, (hK3.take n).append ⟨xv, _, rfl, (pv.sameT S2.t).sameT T3, hK3.drop n⟩, ?_⟩
  rw [List.take_succ, List.getElem?_eq_getElem li]
  refine List.Perm.trans List.perm_middle ?_
  rw [List.take_append_drop]
  refine List.Perm.trans (List.Perm.cons _ hp) ?_
  exact (List.perm_append_comm (l₁ := [ls[i]]) (l₂ := ls.take i))
 ·rintro σ H2 ⟨v3, ys, ks, rfl, S2, e2, hK, hp⟩
  rw [List.take_of_length_le (by omega)] at hp
  nofun
  exact k kl ys ks H2 S2 e2 hK hp
abbrev s_law_unlike : Stmt := top 44
theorem sc_law_unlike : FnScope ["_law_gaps_here", "_law_names", "_law_kept", "_law_gap"] ["_law_gaps_here"] (defScope s_law_unlike) := ⟨rfl, rfl, rfl, by decide +kernel, rfl, by decide +kernel, by decide +kernel⟩
def sp_law_unlike (K : PySem.W.Frag) : Sp := fun vs H Q E => ∃ (c : Addr) (gx : List V) (gs : List GD), vs = [.ref c] ∧ SqL K H c gx ∧ All2 (fun (g : GD) x => TV K H g.td x) gs gx ∧ gs.length ≤ 8 ∧ ∀ l ys hs H', Same H H' → H' l = some (.lst ys) → All2 (fun (g : GD) x => TV K H' g.td x) hs ys → (∀ g ∈ hs, g ∈ gs) → (hs.map (·.nm)).Nodup → hs.length ≤ 8 → Q (.ref l) H'
theorem ok_law_unlike {f : Addr} {fd : FuncData} {dV : Value} (F : FunD K "_law_unlike" "_law_unlike" s_law_unlike dV f fd) (T : Txt K mg Ad)  : FnOk P w K mg base (CX1 P w) 1 f fd ["_law_gaps_here"] (sp_law_unlike K) := by
 refine F.okn sc_law_unlike (fun vs H Q E h => ?_) (fun cdv A outer s H vs Q E hr h => ?_)
 ·obtain ⟨c, gx, gs, rfl, _⟩ := h; rfl
 obtain ⟨c, gx, gs, rfl, h⟩ := h
 have hu := hr.units
 refine ⟨_, (pss_cons (ps_set (i := 1) sc_law_unlike.nd rfl (Or.inl rfl) pe_dnewK)
   (pss_cons (ps_set (i := 2) sc_law_unlike.nd rfl (Or.inl rfl) (pe_lst pa_nil))
   (pss_cons (ps_for PassesOwn.never rfl (pi_U (pv 0)) (pg_name (i := 3) sc_law_unlike.nd rfl (Or.inl rfl))
   (pss_cons (ps_if (pt_cmp (pc_dnotin (hu1 hu) (pe_ix ix_U (pv 3) pe_int (fun _ _ => rfl)) (pv 1)) (by with_unfolding_all rfl))
   (pss_one (ps_expr (pe_bm PySem.F.plainAttrs_list PySem.F.slot_list_append PySem.F.type_list_append mt_append (pv 2) (pa_cons (pv 3) pa_nil))))
   pss_nil)
   (pss_one (ps_dput (hu1 hu) (pv 1) (pe_ix ix_U (pv 3) pe_int (fun _ _ => rfl)) pe_bl rfl))))
   (pss_one (ps_ret (pv 2)))))), ?_⟩
 obtain ⟨hC, hX, h8, k⟩ := h
 have sl : (1000 : Nat) ≤ sizeLine := by decide
 have lg := hX.length
 show tSeq _ _ _ [some (.ref c), none, none, none] H
 nofun
 intro nd h_nd
 generalize q_nd : upd H nd _ = H1
 have S1 := newS h_nd q_nd
 have e1 := newE q_nd
 nofun
 refine ⟨len0, ?_⟩
 intro kl h_kl
 generalize q_kl : upd H1 kl _ = H2
 have S2 := newS h_kl q_kl
 have e2 := newE q_kl
 nofun
 have nkd : kl ≠ nd := fun z => by rw [z, e1] at h_kl; cases h_kl
 have h0kl := freshS S1 h_kl
 refine ⟨c, rfl, ForA.byL (xs := gx) ((hC.same S1).same S2) (fun i σ H' => i ≤ gx.length ∧ ∃ (v3 : Option V) (kv : List (Key × V)) (ys : List V) (hs : List GD), σ = [some (.ref c), some (.ref nd), some (.ref kl), v3] ∧ Same H H' ∧ H' nd = some (.dK kv) ∧ kv.length ≤ i ∧ H' kl = some (.lst ys) ∧ All2 (fun (g : GD) x => TV K H' g.td x) hs ys ∧ (∀ g ∈ hs, g ∈ gs) ∧ (hs.map (·.nm)).Nodup ∧ hs.length ≤ i ∧ ∀ z : Str, (valV kv (Sum.inr z)).isSome = decide (z ∈ hs.map (·.nm))) ⟨Nat.zero_le _, none, [], [], [], rfl, S1.trans S2, S2 _ _ e1, Nat.le_refl _, e2, rfl, (fun g hg => by cases hg), .nil, Nat.le_refl _, fun z => rfl⟩ (fun i σ H' q => by obtain ⟨_, _, _, _, _, _, q, _⟩ := q; exact hC.same q) ?_ ?_⟩
 ·rintro i x σ H3 hx ⟨hi, v3, kv, ys, hs, rfl, S3, en, hkl, ek, hA, hsub, hnd, hsl, hval⟩
  have li : i < gx.length := (List.getElem?_eq_some_iff.mp hx).1
  obtain ⟨g, hg, b, vl_, vh, rfl, hb, hlo, hhi⟩ := hX.at_ hx
  have hgm := List.mem_of_getElem? hg
  have lA := hA.length
  simp only [y80y, y4cy, y4dy, y4ey, y6fy, y2ay, y6ay, y7dy, y7ey, y44y, y2dy, y76y, y8cy, y2fy, y39y, y70y, y2ey, y85y, y23y, y28y, y77y, y72y, y29y, y78y, y74y, y58y, y8ey, y26y, y84y, y6ey, y67y, y49y, y66y, y7by, y32y, y47y, y6cy, y48y, y6dy, y46y, y6by, y87y, y62y, y5ey, y89y, y8by, y88y, y8ay, y25y, y65y, y24y, true_and, if_true, if_false, Bool.not_true, Bool.not_false, Bool.false_eq_true, yby, ydy, yay, ycy, yey, y15y, y17y, y14y, y16y, y18y, y6y, y8y, y5y, y7y, y9y, y1y, y3y, y0y, y2y, y4y, y10y, y12y, yfy, y11y, y13y, y1ay, y1cy, y19y, y1by, y1dy, y1fy, y21y, y1ey, y20y, y22y, y82y, y7ay, y71y, y30y, y31y, y52y, y60y, y61y, y4by, y83y, y86y, y8fy, y7cy, y27y, V.int.injEq, V.str.injEq, List.set_cons_zero, List.set_cons_succ, List.getElem?_cons_zero, List.getElem?_cons_succ, Option.some.injEq, exists_eq_left, exists_eq_left', V.bl.injEq, Int.reduceToNat, Int.reducePow, List.append_nil, List.nil_append, List.cons_append, y54y, y56y, y2by, y2cy, y68y, y5dy, y73y, y63y, y64y, y3ay, y3by, y3cy, y43y, y45y, y3ey, y79y, y40y, y3fy, y33y, y35y, y37y, y3dy, y41y, y4fy, y50y, y59y, y93y, y94y, y90y, y91y, y92y, reduceCtorEq, decide_false, decide_true, -y58y]
  have vput : ∀ (hs' : List GD), (∀ z, z ∈ hs'.map (·.nm) ↔ z ∈ hs.map (·.nm) ∨ z = g.nm) → ∀ z : Str, (valV (putK kv (Sum.inr g.nm) (.bl true)) (Sum.inr z)).isSome = decide (z ∈ hs'.map (·.nm)) := fun hs' hh z => by
   rw [valV_put]
   by_cases e : z = g.nm
   ·subst e
    rw [if_pos rfl, decide_eq_true ((hh _).mpr (.inr rfl))]
    nofun
    rfl
   ·rw [if_neg (fun q => e (by injection q)), hval z]
    nofun
    exact decide_eq_decide.mpr ⟨fun h => (hh z).mpr (.inl h), fun h => ((hh z).mp h).resolve_right e⟩
  have lput := length_putK kv (Sum.inr g.nm) (V.bl true)
  refine if_cut (fun σ' H' => ∃ (ys' : List V) (hs' : List GD), σ' = [some (.ref c), some (.ref nd), some (.ref kl), some (.ref b)] ∧ Same H H' ∧ SameT H3 H' ∧ H' nd = some (.dK kv) ∧ H' kl = some (.lst ys') ∧ All2 (fun (g : GD) x => TV K H' g.td x) hs' ys' ∧ (∀ g ∈ hs', g ∈ gs) ∧ (hs'.map (·.nm)).Nodup ∧ hs'.length ≤ i + 1 ∧ (∀ z, z ∈ hs'.map (·.nm) ↔ z ∈ hs.map (·.nm) ∨ z = g.nm)) ?_ ?_
  ·rintro σ' H' ⟨ys', hs', rfl, S', T', en', ek', hA', hsub', hnd', hsl', hh⟩
   nofun
   refine ixT (i := 0) ((hb.same S3).sameT T') rfl ?_
   nofun
   refine ⟨nd, _, rfl, DPut.k (k := Sum.inr g.nm) en' (by omega), ?_⟩
   generalize u4 : upd H' nd _ = H4
   nofun
   have e4 := putE u4
   have T4 : SameT H' H4 := SameT.put u4 en' rfl
   exact ⟨li, _, _, ys', hs', rfl, fun b u h => by rw [← u4, upd_ne (ne_of_none h h_nd)]; exact S' _ _ h, e4, by omega, by rw [← u4, upd_ne nkd]; exact ek', hA'.mono (P' := fun (g : GD) x => TV K H4 g.td x) (fun _ _ z => z.sameT T4), hsub', hnd', hsl', vput hs' hh⟩
  ·intro N hN
   nofun
   refine ixT (i := 0) (hb.same S3) rfl ?_
   refine ⟨nd, _, rfl, DGet.k (k := Sum.inr g.nm) en, ?_⟩
   rw [hval g.nm]
   by_cases cn : g.nm ∈ hs.map (·.nm)
   ·rw [decide_eq_true cn]
    nofun
    exact hN _ _ ⟨ys, hs, rfl, S3, SameT.refl _, en, ek, hA, hsub, hnd, by omega, fun z => ⟨.inl, fun h => h.elim id fun e => e ▸ cn⟩⟩
   ·rw [decide_eq_false cn]
    nofun
    refine ⟨.inl ⟨rfl, _, SqL.of ek⟩, ?_⟩
    refine ⟨kl, ys, _, rfl, rfl, ek, by omega, ?_⟩
    generalize u4 : upd H3 kl _ = H4
    nofun
    have e4 := putE u4
    have T4 : SameT H3 H4 := SameT.put u4 ek rfl
    refine hN _ _ ⟨ys ++ [.ref b], hs ++ [g], rfl, fun b u h => by rw [← u4, upd_ne (ne_of_none h h0kl)]; exact S3 _ _ h, T4, by rw [← u4, upd_ne (Ne.symm nkd)]; exact en, e4, ?_, ?_, ?_, by simp; omega, ?_⟩
    ·exact (hA.mono (P' := fun (g : GD) x => TV K H4 g.td x) fun _ _ z => z.sameT T4).append (.one ⟨b, vl_, vh, rfl, (hb.same S3).sameT T4, (hlo.same S3).sameT T4, (hhi.same S3).sameT T4⟩)
    ·intro u hu
     rcases List.mem_append.mp hu with h | h
     ·exact hsub u h
     ·rw [List.mem_singleton.mp h]
      exact hgm
    ·rw [List.map_append]
     exact List.nodup_append.mpr ⟨hnd, by simp, fun u hu v hv z => cn (by have e : v = g.nm := List.mem_singleton.mp hv; rw [← e, ← z]; exact hu)⟩
    ·intro z
     rw [List.map_append, List.mem_append]
     simp
 ·rintro σ H3 ⟨hi, v3, kv, ys, hs, rfl, S3, en, hkl, ek, hA, hsub, hnd, hsl, hval⟩
  nofun
  exact k kl ys hs H3 S3 ek hA hsub hnd (by omega)
abbrev s_law_walked : Stmt := top 45
theorem sc_law_walked : FnScope ["_law_found", "_law_gap", "_law_parts_here", "_law_ends", "_law_part", "_law_here", "_law_seen", "_law_pair", "_law_start", "_law_end"] ["_law_found", "_law_gap", "_law_parts_here"] (defScope s_law_walked) := ⟨rfl, rfl, rfl, by decide +kernel, rfl, by decide +kernel, by decide +kernel⟩
def sp_law_walked (K : PySem.W.Frag) : Sp := fun vs H Q E => ∃ (x c : Addr) (vg : V) (xs px : List V) (w : List Pr) (g : GD) (ks : List PD), vs = [.ref x, vg, .ref c] ∧ H x = some (.lst xs) ∧ All2 (CV H) w xs ∧ Path ks g.st w g.en ∧ (w.map (·.1)).Nodup ∧ w ≠ [] ∧ TV K H g.td vg ∧ SqL K H c px ∧ All2 (PDV K H) ks px ∧ (ks.map (·.nm)).Nodup ∧ ks.length ≤ 8 ∧ ∀ H', Same H H' → Q (.bl true) H'
theorem ok_law_walked {f : Addr} {fd : FuncData} {dV : Value} (F : FunD K "_law_walked" "_law_walked" s_law_walked dV f fd) (T : Txt K mg Ad)  : FnOk P w K mg base (CX1 P w) 1 f fd ["_law_found", "_law_gap", "_law_parts_here"] (sp_law_walked K) := by
 refine F.okn sc_law_walked (fun vs H Q E h => ?_) (fun cdv A outer s H vs Q E hr h => ?_)
 ·obtain ⟨x, c, vg, xs, px, w, g, ks, rfl, _⟩ := h; rfl
 obtain ⟨x, c, vg, xs, px, w, g, ks, rfl, h⟩ := h
 have hu := hr.units
 refine ⟨_, (pss_cons (ps_if (PW.pt (pw_or (pt_not (pt_val (pe_callB call_isinstanceU rfl T.n_isinstance bt_isinstance (pa_cons (pv 0) (pa_cons (pe_bltn (v := .ty "list") rfl T.n_list bt_list rfl) pa_nil))))) (pw_or1 (pt_cmpR (op_eqU hu) (pe_callB call_lenU rfl T.n_len bt_len (pa_cons (pv 0) pa_nil)) pe_int (nomark _)))))
   (pss_one (ps_ret pe_bl))
   pss_nil)
   (pss_cons (ps_set (i := 3) sc_law_walked.nd rfl (Or.inl rfl) pe_dnewK)
   (pss_cons (ps_for PassesOwn.never rfl (pi_U (pv 2)) (pg_name (i := 4) sc_law_walked.nd rfl (Or.inl rfl))
   (pss_one (ps_dput (hu1 hu) (pv 3) (pe_ix ix_U (pv 4) pe_int (fun _ _ => rfl)) (pe_tup (pa_cons (pe_ix ix_U (pv 4) pe_int (fun _ _ => rfl)) (pa_cons (pe_ix ix_U (pv 4) pe_int (fun _ _ => rfl)) pa_nil))) rfl)))
   (pss_cons (ps_set (i := 5) sc_law_walked.nd rfl (Or.inl rfl) (pe_ix ix_U (pv 1) pe_int (fun _ _ => rfl)))
   (pss_cons (ps_set (i := 6) sc_law_walked.nd rfl (Or.inl rfl) (pe_lst pa_nil))
   (pss_cons (ps_for PassesOwn.never rfl (pi_U (pv 0)) (pg_name (i := 7) sc_law_walked.nd rfl (Or.inl rfl))
   (pss_cons (ps_if (PW.pt (pw_or (pt_not (pt_val (pe_callB call_isinstanceU rfl T.n_isinstance bt_isinstance (pa_cons (pv 7) (pa_cons (pe_bltn (v := .ty "tuple") rfl T.n_tuple bt_tuple rfl) pa_nil))))) (pw_or (pt_cmpR (op_neU hu) (pe_callB call_lenU rfl T.n_len bt_len (pa_cons (pv 7) pa_nil)) pe_int (nomark _)) (pw_or1 (pt_not (pt_val (pe_callB call_isinstanceU rfl T.n_isinstance bt_isinstance (pa_cons (pe_ix ix_U (pv 7) pe_int (fun _ _ => rfl)) (pa_cons (pe_bltn (v := .ty "bool") rfl T.n_bool bt_bool rfl) pa_nil)))))))))
   (pss_one (ps_ret pe_bl))
   pss_nil)
   (pss_cons (ps_if (PW.pt (pw_or (pt_cmp (pc_dnotin (hu1 hu) (pe_ix ix_U (pv 7) pe_int (fun _ _ => rfl)) (pv 3)) (by with_unfolding_all rfl)) (pw_or1 (pt_cmpR op_inU (pe_ix ix_U (pv 7) pe_int (fun _ _ => rfl)) (pv 6) (by with_unfolding_all rfl)))))
   (pss_one (ps_ret pe_bl))
   pss_nil)
   (pss_cons (ps_expr (pe_bm PySem.F.plainAttrs_list PySem.F.slot_list_append PySem.F.type_list_append mt_append (pv 6) (pa_cons (pe_ix ix_U (pv 7) pe_int (fun _ _ => rfl)) pa_nil)))
   (pss_cons (ps_asg (pe_dget (hu1 hu) (pv 3) (pe_ix ix_U (pv 7) pe_int (fun _ _ => rfl)) (fun _ _ => rfl)) (pg_tup rfl (pgs_cons (pg_name (i := 8) sc_law_walked.nd rfl (Or.inl rfl)) (pgs_cons (pg_name (i := 9) sc_law_walked.nd rfl (Or.inl rfl)) pgs_nil))))
   (pss_cons (ps_if (pt_cmpR (op_neU hu) (pv 5) (pe_ix ix_U (pe_lst (pa_cons (pv 9) (pa_cons (pv 8) pa_nil))) (pe_callTy call_int1 rfl T.n_int bt_int (pa_cons (pe_ix ix_U (pv 7) pe_int (fun _ _ => rfl)) pa_nil)) (fun _ _ => rfl)) (nomark _))
   (pss_one (ps_ret pe_bl))
   pss_nil)
   (pss_one (ps_set (i := 5) sc_law_walked.nd rfl (Or.inl rfl) (pe_ix ix_U (pe_lst (pa_cons (pv 8) (pa_cons (pv 9) pa_nil))) (pe_callTy call_int1 rfl T.n_int bt_int (pa_cons (pe_ix ix_U (pv 7) pe_int (fun _ _ => rfl)) pa_nil)) (fun _ _ => rfl))))))))))
   (pss_one (ps_ret (pe_cmpR (op_eqU hu) (pv 5) (pe_ix ix_U (pv 1) pe_int (fun _ _ => rfl)) (nomark _)))))))))), ?_⟩
 obtain ⟨hX, hcv, hpa, hwn, hw0, htv, hC, hP, hkn, h8, k⟩ := h
 obtain ⟨gb, vlo, vhi, rfl, hgb, _, _⟩ := htv
 have sl : (1000 : Nat) ≤ sizeLine := by decide
 have lw : w.length ≤ 8 := by
  have := sub_len (w.map (·.1)) (ks.map (·.nm)) hwn fun n hn => path_names hpa n hn
  rw [List.length_map, List.length_map] at this
  omega
 have lx := hcv.length
 have lp := hP.length
 have lw1 : 1 ≤ w.length := by cases w with | nil => exact absurd rfl hw0 | cons _ _ => simp
 show tSeq _ _ _ [some (.ref x), some (.ref gb), some (.ref c), none, none, none, none, none, none, none] H
 nofun
 refine ⟨_, .inl ⟨rfl, _, SqL.of hX⟩, ?_⟩
 nofun
 refine ⟨_, .inl (SqL.of hX), ?_⟩
 nofun
 rw [if_neg (by rw [decide_eq_true_iff]; omega)]
 nofun
 nofun
 intro ed h_ed
 generalize q_ed : upd H ed _ = H1
 have S1 := newS h_ed q_ed
 have e1 := newE q_ed
 nofun
 refine ⟨c, rfl, ForA.byLN (xs := px) (hC.same S1) (fun i σ H' => i ≤ px.length ∧ ∃ (v4 : Option V) (kv : List (Key × V)), σ = [some (.ref x), some (.ref gb), some (.ref c), some (.ref ed), v4, none, none, none, none, none] ∧ Same H H' ∧ H' ed = some (.dK kv) ∧ BG (·.nm) (EDV K H') (ks.take i) kv) ⟨Nat.zero_le _, none, [], rfl, S1, e1, ⟨rfl, rfl⟩⟩ (fun i σ H' q => by obtain ⟨_, _, _, _, q, _⟩ := q; exact hC.same q) ?_ ?_⟩
 ·rintro i y σ H2 hy ⟨hi, v4, kv, rfl, S2, e2, hB⟩ N0 hN0
  have li : i < px.length := (List.getElem?_eq_some_iff.mp hy).1
  obtain ⟨p, hp, b, vz, vm, rfl, hb, _, _⟩ := hP.at_ hy
  have lB := hB.length
  rw [List.length_take] at lB
  nofun
  refine ixT (i := 1) (hb.same S2) rfl ?_
  refine ixT (i := 2) (hb.same S2) rfl ?_
  refine ⟨len2, ?_⟩
  intro tt h_tt
  generalize q_tt : upd H2 tt _ = H3
  have S3 := newS h_tt q_tt
  have e3 := newE q_tt
  nofun
  refine ixT (i := 0) ((hb.same S2).same S3) rfl ?_
  refine ⟨ed, _, rfl, DPut.k (k := Sum.inr p.nm) (S3 _ _ e2) (by omega), ?_⟩
  generalize u4 : upd H3 ed _ = H4
  nofun
  have e4 := putE u4
  have T4 : SameT H3 H4 := SameT.put u4 (S3 _ _ e2) rfl
  refine hN0 _ _ ⟨li, _, _, rfl, fun b u h => by rw [← u4, upd_ne (ne_of_none h h_ed)]; exact S3 _ _ (S2 _ _ h), e4, ?_⟩
  rw [List.take_succ, hp]
  exact (hB.mono (P' := EDV K H4) fun _ _ z => z.sameT (S3.t.trans T4)).new (a := p) (nd_take hkn hp) ⟨tt, rfl, SqT.of (T4 _ _ rfl e3)⟩
 ·rintro σ H2 ⟨hi, v4, kv, rfl, S2, e2, hB⟩
  rw [List.take_of_length_le (by omega)] at hB
  nofun
  refine ixT (i := 1) (hgb.same S2) rfl ?_
  nofun
  refine ⟨len0, ?_⟩
  intro sn h_sn
  generalize q_sn : upd H2 sn _ = H3
  have S3 := newS h_sn q_sn
  have e3 := newE q_sn
  nofun
  refine ⟨x, rfl, ForA.byLN (xs := xs) (SqL.of (S3 _ _ (S2 _ _ hX))) (fun i σ H' => i ≤ xs.length ∧ ∃ (v7 v8 v9 : Option V) (f : Str), σ = [some (.ref x), some (.ref gb), some (.ref c), some (.ref ed), v4, some (.str f), some (.ref sn), v7, v8, v9] ∧ Same H2 H' ∧ H' sn = some (.lst (((w.take i).map (·.1)).map V.str)) ∧ Path ks f (w.drop i) g.en) ⟨Nat.zero_le _, none, none, none, g.st, rfl, S3, e3, hpa⟩ (fun i σ H' q => by obtain ⟨_, _, _, _, _, _, q, _⟩ := q; exact SqL.of (q _ _ (S2 _ _ hX))) ?_ ?_⟩
  ·rintro i y σ H4 hy ⟨hi', v7, v8, v9, f, rfl, S4, e4, hL⟩ N0 hN0
   have li : i < xs.length := (List.getElem?_eq_some_iff.mp hy).1
   obtain ⟨pr, hpr, b, rfl, hb⟩ := hcv.at_ hy
   have lie : i < w.length := by omega
   have ew : w[i] = pr := by rw [List.getElem?_eq_getElem lie] at hpr; exact Option.some.inj hpr
   rw [List.drop_eq_getElem_cons lie, ew] at hL
   obtain ⟨p, fw, g', rfl, hp, h1, h2, hL'⟩ : ∃ p fw g', pr = (p.nm, fw) ∧ p ∈ ks ∧ (f = if fw then p.st else p.en) ∧ (g' = if fw then p.en else p.st) ∧ Path ks g' (w.drop (i + 1)) g.en := by
    cases hL with
    | cons h1 h2 h3 h4 => exact ⟨_, _, _, rfl, h1, h2, h3, h4⟩
   have S24 := S2.trans S4
   have hb4 := S24 _ _ hb
   have ed4 := S4 _ _ e2
   have nin : p.nm ∉ (w.take i).map (·.1) := fun z => by
    have hn := hwn
    rw [← List.take_append_drop i w, List.map_append, List.nodup_append] at hn
    refine hn.2.2 _ z _ ?_ rfl
    rw [List.drop_eq_getElem_cons lie, ew, List.map_cons]
    simp
   have etk : (w.take (i + 1)).map (·.1) = (w.take i).map (·.1) ++ [p.nm] := by
    rw [List.take_succ, hpr, List.map_append]
    rfl
   obtain ⟨q, v, hq, hqn, hv, tb, rfl, htb⟩ := hB.some (z := p.nm) (List.mem_map.mpr ⟨p, hp, rfl⟩)
   have eq := nm_uniq hkn hq hp hqn
   subst eq
   nofun
   refine ⟨_, .inr ⟨rfl, _, SqT.of hb4⟩, ?_⟩
   nofun
   refine ⟨_, .inr (SqT.of hb4), ?_⟩
   simp only [List.length_cons, List.length_nil, y80y, y4cy, y4dy, y4ey, y6fy, y2ay, y6ay, y7dy, y7ey, y44y, y2dy, y76y, y8cy, y2fy, y39y, y70y, y2ey, y85y, y23y, y28y, y77y, y72y, y29y, y78y, y74y, y58y, y8ey, y26y, y84y, y6ey, y67y, y49y, y66y, y7by, y32y, y47y, y6cy, y48y, y6dy, y46y, y6by, y87y, y62y, y5ey, y89y, y8by, y88y, y8ay, y25y, y65y, y24y, true_and, if_true, if_false, Bool.not_true, Bool.not_false, Bool.false_eq_true, yby, ydy, yay, ycy, yey, y15y, y17y, y14y, y16y, y18y, y6y, y8y, y5y, y7y, y9y, y1y, y3y, y0y, y2y, y4y, y10y, y12y, yfy, y11y, y13y, y1ay, y1cy, y19y, y1by, y1dy, y1fy, y21y, y1ey, y20y, y22y, y82y, y7ay, y71y, y30y, y31y, y52y, y60y, y61y, y4by, y83y, y86y, y8fy, y7cy, y27y, V.int.injEq, V.str.injEq, List.set_cons_zero, List.set_cons_succ, List.getElem?_cons_zero, List.getElem?_cons_succ, Option.some.injEq, exists_eq_left, exists_eq_left', V.bl.injEq, Int.reduceToNat, Int.reducePow, List.append_nil, List.nil_append, List.cons_append, y54y, y56y, y2by, y2cy, y68y, y5dy, y73y, y63y, y64y, y3ay, y3by, y3cy, y43y, y45y, y3ey, y79y, y40y, y3fy, y33y, y35y, y37y, y3dy, y41y, y4fy, y50y, y59y, y93y, y94y, y90y, y91y, y92y, reduceCtorEq, decide_false, decide_true]
   rw [if_neg (by decide)]
   nofun
   nofun
   refine ixT (i := 1) (SqT.of hb4) rfl ?_
   nofun
   refine ixT (i := 0) (SqT.of hb4) rfl ?_
   refine ⟨ed, _, rfl, DGet.k (k := Sum.inr q.nm) ed4, ?_⟩
   rw [hB.val, decide_eq_true (List.mem_map.mpr ⟨q, hp, rfl⟩)]
   nofun
   refine ixT (i := 0) (SqT.of hb4) rfl ?_
   refine ⟨sn, _, rfl, .inl (SqL.of e4), rfl, flat_strs _, ?_⟩
   rw [inV_strs, decide_eq_false nin]
   nofun
   refine ⟨.inl ⟨rfl, _, SqL.of e4⟩, ?_⟩
   refine ixT (i := 0) (SqT.of hb4) rfl ?_
   refine ⟨sn, _, _, rfl, rfl, e4, by rw [List.length_map, List.length_map, List.length_take]; omega, ?_⟩
   generalize u5 : upd H4 sn _ = H5
   nofun
   have e5 := putE u5
   have T5 : SameT H4 H5 := SameT.put u5 e4 rfl
   have fr5 : ∀ b u, b ≠ sn → H4 b = some u → H5 b = some u := fun b u hb h => by rw [← u5, upd_ne hb]; exact h
   have ns : ed ≠ sn := fun z => by rw [z, h_sn] at e2; cases e2
   have hb5 := T5 _ _ rfl hb4
   nofun
   refine ixT (i := 0) (SqT.of hb5) rfl ?_
   refine ⟨ed, _, rfl, by rw [← hv]; exact DGet.k (k := Sum.inr q.nm) (fr5 _ _ ns ed4), ?_⟩
   refine ⟨tb, _, rfl, (htb.same S4).sameT T5, rfl, ?_⟩
   nofun
   refine ⟨len2, ?_⟩
   intro l1 h_l1
   generalize q_l1 : upd H5 l1 _ = H6
   have S6 := newS h_l1 q_l1
   have e6 := newE q_l1
   nofun
   refine ixT (i := 1) (SqT.of (S6 _ _ hb5)) rfl ?_
   refine .inr ⟨_, rfl, ?_⟩
   have S26 : Same H2 H6 := fun b u h => S6 _ _ (fr5 _ _ (ne_of_none h h_sn) (S4 _ _ h))
   cases fw with
   | true =>
    have h1 : f = q.st := h1
    have h2 : g' = q.en := h2
    subst h1
    subst h2
    refine ixL (i := 1) (SqL.of e6) rfl ?_
    nofun
    refine ⟨len2, ?_⟩
    intro l2 h_l2
    generalize q_l2 : upd H6 l2 _ = H7
    have S7 := newS h_l2 q_l2
    have e7 := newE q_l2
    nofun
    refine ixT (i := 1) (SqT.of (S7 _ _ (S6 _ _ hb5))) rfl ?_
    refine .inr ⟨_, rfl, ?_⟩
    refine ixL (i := 1) (SqL.of e7) rfl ?_
    nofun
    exact hN0 _ _ ⟨li, _, _, _, _, rfl, S26.trans S7, by rw [etk, List.map_append]; exact S7 _ _ (S6 _ _ e5), hL'⟩
   | false =>
    have h1 : f = q.en := h1
    have h2 : g' = q.st := h2
    subst h1
    subst h2
    refine ixL (i := 0) (SqL.of e6) rfl ?_
    nofun
    refine ⟨len2, ?_⟩
    intro l2 h_l2
    generalize q_l2 : upd H6 l2 _ = H7
    have S7 := newS h_l2 q_l2
    have e7 := newE q_l2
    nofun
    refine ixT (i := 1) (SqT.of (S7 _ _ (S6 _ _ hb5))) rfl ?_
    refine .inr ⟨_, rfl, ?_⟩
    refine ixL (i := 0) (SqL.of e7) rfl ?_
    nofun
    exact hN0 _ _ ⟨li, _, _, _, _, rfl, S26.trans S7, by rw [etk, List.map_append]; exact S7 _ _ (S6 _ _ e5), hL'⟩
  ·rintro σ H4 ⟨hi', v7, v8, v9, f, rfl, S4, e4, hL⟩
   rw [List.drop_eq_nil_of_le (by omega)] at hL
   cases hL
   nofun
   refine ixT (i := 2) (hgb.same (S2.trans S4)) rfl ?_
   nofun
   have e : decide (g.en = g.td.en) = true := decide_eq_true rfl
   rw [e]
   exact k H4 (S2.trans S4)
abbrev s_law_refused : Stmt := top 46
theorem sc_law_refused : FnScope ["_law_thing", "_law_name_here", "_law_way", "_law_caught", "e"] ["_law_thing", "_law_name_here", "_law_way"] (defScope s_law_refused) := ⟨rfl, rfl, rfl, by decide +kernel, rfl, by decide +kernel, by decide +kernel⟩
def sp_law_refused (K : PySem.W.Frag) (Ad : Adr) : Sp := fun vs H Q E => ∃ (x : Addr) (z : Str) (w : Int) (ls : List PD) (gs : List GD), vs = [.ref x, .str z, .int w] ∧ TK K Ad H x ls gs ∧ z ∉ gs.map (·.nm) ∧ ∀ H', Same H H' → Q (.bl true) H'
theorem ok_law_refused {f : Addr} {fd : FuncData} {dV : Value} (F : FunD K "_law_refused" "_law_refused" s_law_refused dV f fd) (T : Txt K mg Ad) (m_way : MCal P w K mg base 1 "way" (IsThing Ad) ["self", "name"] (sp_Thing_way K Ad)) (m_middle : MCal P w K mg base 4 "middle" (IsThing Ad) ["self", "name"] (sp_Thing_middle K Ad)) (m_room : MCal P w K mg base 5 "room" (IsThing Ad) ["self", "name"] (sp_Thing_room K Ad)) : FnOk P w K mg base (CX1 P w) 6 f fd ["_law_thing", "_law_name_here", "_law_way"] (sp_law_refused K Ad) := by
 refine F.okn sc_law_refused (fun vs H Q E h => ?_) (fun cdv A outer s H vs Q E hr h => ?_)
 ·obtain ⟨x, z, w, ls, gs, rfl, _⟩ := h; rfl
 obtain ⟨x, z, w, ls, gs, rfl, h⟩ := h
 have hu := hr.units
 refine ⟨_, (pss_cons (ps_set (i := 3) sc_law_refused.nd rfl (Or.inl rfl) pe_non)
   (pss_cons (ps_tryAsC (i := 4) sc_law_refused.nd rfl rfl (pb_cons (pb1_if (pt_cmpR (op_eqU hu) (pv 2) pe_int (nomark _)) (pb_cons (pb1_call (m_way.tr hr (by decide) (pv 0) (pa_cons (pv 1) pa_nil))) pb_nil) (pb_cons (pb1_if (pt_cmpR (op_eqU hu) (pv 2) pe_int (nomark _)) (pb_cons (pb1_call (m_middle.tr hr (by decide) (pv 0) (pa_cons (pv 1) pa_nil))) pb_nil) (pb_cons (pb1_call (m_room.tr hr (by decide) (pv 0) (pa_cons (pv 1) pa_nil))) pb_nil)) pb_nil)) pb_nil) rfl T.m_SlackError (fun _ =>
   (pss_one (ps_set (i := 3) sc_law_refused.nd rfl (Or.inl rfl) (pe_lst (pa_cons (pe_isiC (K := K) rfl rfl T.n_isinstance bt_isinstance (pa_cons (pv 4) (pa_cons (pe_glob (v := .ref _) rfl T.m_NoName rfl) pa_nil))) (pa_cons (pe_isiC (K := K) rfl rfl T.n_isinstance bt_isinstance (pa_cons (pv 4) (pa_cons (pe_bltn (v := .ty "ValueError") rfl T.n_ValueError bt_ValueError rfl) pa_nil))) (pa_cons (pe_isiC (K := K) rfl rfl T.n_isinstance bt_isinstance (pa_cons (pv 4) (pa_cons (pe_glob (v := .ref _) rfl T.m_NoGap rfl) pa_nil))) (pa_cons (pe_isiC (K := K) rfl rfl T.n_isinstance bt_isinstance (pa_cons (pv 4) (pa_cons (pe_glob (v := .ref _) rfl T.m_NoPart rfl) pa_nil))) (pa_cons (pe_isiC (K := K) rfl rfl T.n_isinstance bt_isinstance (pa_cons (pv 4) (pa_cons (pe_glob (v := .ref _) rfl T.m_Twice rfl) pa_nil))) (pa_cons (pe_isiC (K := K) rfl rfl T.n_isinstance bt_isinstance (pa_cons (pv 4) (pa_cons (pe_glob (v := .ref _) rfl T.m_NoFace rfl) pa_nil))) (pa_cons (pe_isiC (K := K) rfl rfl T.n_isinstance bt_isinstance (pa_cons (pv 4) (pa_cons (pe_glob (v := .ref _) rfl T.m_NoRow rfl) pa_nil))) pa_nil))))))))))))
   (pss_one (ps_ret (pe_cmpR (op_eqU hu) (pv 3) (pe_lst (pa_cons pe_bl (pa_cons pe_bl (pa_cons pe_bl (pa_cons pe_bl (pa_cons pe_bl (pa_cons pe_bl (pa_cons pe_bl pa_nil)))))))) (nomark _)))))), ?_⟩
 obtain ⟨ht, hz, k⟩ := h
 obtain ⟨dx, d1, d2, d3, k1, k2, k3, hx, _⟩ := id ht
 have xc : ExcC K Ad.NoName := ⟨T.xc1, T.xc2, T.xc3, T.xc4, T.xc5, T.xc6, T.xc7, T.xc8⟩
 have ctch : ∀ {R : Addr → Prop}, R Ad.NoName → ∃ C, (Value.ref Ad.NoName : Value) = .ref C ∧ Catches K C Ad.SlackError ∧ R C := fun r => ⟨_, rfl, ⟨T.y1, T.y2, T.y3, T.y4⟩, r⟩
 show tSeq _ _ _ [some (.ref x), some (.str z), some (.int w), none, none] H
 nofun
 by_cases w0 : w = 0
 ·rw [if_pos (by simpa using w0)]
  nofun
  nofun
  refine ⟨x, _, dx, _, rfl, hx, rfl, rfl, x, z, ls, gs, rfl, ht, fun _ => ?_, fun g hg e => absurd (List.mem_map.mpr ⟨g, hg, e⟩) hz⟩
  refine ctch ?_
  intro ea hea
  generalize qe : upd H ea _ = HE
  have SE := newS hea qe
  have eE := newE qe
  nofun
  refine isiXr eE xc T.kB ?_
  nofun
  refine isiXt eE xc T.kV ?_
  nofun
  refine isiXr eE xc T.k_NoGap ?_
  nofun
  refine isiXr eE xc T.k_NoPart ?_
  nofun
  refine isiXr eE xc T.k_Twice ?_
  nofun
  refine isiXr eE xc T.k_NoFace ?_
  nofun
  refine isiXr eE xc T.k_NoRow ?_
  nofun
  refine ⟨by show 7 ≤ sizeLine; decide, ?_⟩
  intro l h_l
  generalize q_l : upd HE l _ = HL
  have SL := newS h_l q_l
  have eL := newE q_l
  nofun
  nofun
  refine ⟨by show 7 ≤ sizeLine; decide, ?_⟩
  intro l2 h_l2
  generalize q_l2 : upd HL l2 _ = HM
  have SM := newS h_l2 q_l2
  have eM := newE q_l2
  nofun
  refine eqBL (as := [true, true, false, false, false, false, false]) (bs := [true, true, false, false, false, false, false]) (SM _ _ eL) eM ?_
  nofun
  exact k HM (SE.trans (SL.trans SM))
 ·rw [if_neg (by simpa using w0)]
  nofun
  by_cases w1 : w = 1
  ·rw [if_pos (by simpa using w1)]
   nofun
   nofun
   refine ⟨x, _, dx, _, rfl, hx, rfl, rfl, x, z, ls, gs, rfl, ht, hz, ?_⟩
   refine ctch ?_
   intro ea hea
   generalize qe : upd H ea _ = HE
   have SE := newS hea qe
   have eE := newE qe
   nofun
   refine isiXr eE xc T.kB ?_
   nofun
   refine isiXt eE xc T.kV ?_
   nofun
   refine isiXr eE xc T.k_NoGap ?_
   nofun
   refine isiXr eE xc T.k_NoPart ?_
   nofun
   refine isiXr eE xc T.k_Twice ?_
   nofun
   refine isiXr eE xc T.k_NoFace ?_
   nofun
   refine isiXr eE xc T.k_NoRow ?_
   nofun
   refine ⟨by show 7 ≤ sizeLine; decide, ?_⟩
   intro l h_l
   generalize q_l : upd HE l _ = HL
   have SL := newS h_l q_l
   have eL := newE q_l
   nofun
   nofun
   refine ⟨by show 7 ≤ sizeLine; decide, ?_⟩
   intro l2 h_l2
   generalize q_l2 : upd HL l2 _ = HM
   have SM := newS h_l2 q_l2
   have eM := newE q_l2
   nofun
   refine eqBL (as := [true, true, false, false, false, false, false]) (bs := [true, true, false, false, false, false, false]) (SM _ _ eL) eM ?_
   nofun
   exact k HM (SE.trans (SL.trans SM))
  ·rw [if_neg (by simpa using w1)]
   nofun
   nofun
   refine ⟨x, _, dx, _, rfl, hx, rfl, rfl, x, z, ls, gs, rfl, ht, hz, ?_⟩
   refine ctch ?_
   intro ea hea
   generalize qe : upd H ea _ = HE
   have SE := newS hea qe
   have eE := newE qe
   nofun
   refine isiXr eE xc T.kB ?_
   nofun
   refine isiXt eE xc T.kV ?_
   nofun
   refine isiXr eE xc T.k_NoGap ?_
   nofun
   refine isiXr eE xc T.k_NoPart ?_
   nofun
   refine isiXr eE xc T.k_Twice ?_
   nofun
   refine isiXr eE xc T.k_NoFace ?_
   nofun
   refine isiXr eE xc T.k_NoRow ?_
   nofun
   refine ⟨by show 7 ≤ sizeLine; decide, ?_⟩
   intro l h_l
   generalize q_l : upd HE l _ = HL
   have SL := newS h_l q_l
   have eL := newE q_l
   nofun
   nofun
   refine ⟨by show 7 ≤ sizeLine; decide, ?_⟩
   intro l2 h_l2
   generalize q_l2 : upd HL l2 _ = HM
   have SM := newS h_l2 q_l2
   have eM := newE q_l2
   nofun
   refine eqBL (as := [true, true, false, false, false, false, false]) (bs := [true, true, false, false, false, false, false]) (SM _ _ eL) eM ?_
   nofun
   exact k HM (SE.trans (SL.trans SM))
abbrev s_law : Stmt := top 47
theorem sc_law : FnScope ["_law_script", "_law_style", "_law_parts_here", "_law_spots", "_law_gaps_here", "_law_thing", "_law_names", "_law_gap", "_law_found", "_law_name_here"] ["_law_script"] (defScope s_law) := ⟨rfl, rfl, rfl, by decide +kernel, rfl, by decide +kernel, by decide +kernel⟩
def sp_law (K : PySem.W.Frag) : Sp := fun vs H Q E => ∃ (a : Addr) (ns : List Int), vs = [.ref a] ∧ SqL K H a (ns.map V.int) ∧ ns.length ≤ 63 ∧ ∀ H', Q (.bl true) H'
theorem ok_law {f : Addr} {fd : FuncData} {dV : Value} (F : FunD K "law" "law" s_law dV f fd) (T : Txt K mg Ad) (c_law_cell : Cal P w K mg base 1 "_law_cell" ["_law_script", "_law_k"] [] (sp_law_cell K)) (c_law_parts : Cal P w K mg base 3 "_law_parts" ["_law_script", "_law_style"] [] (sp_law_parts K)) (c_law_listed : Cal P w K mg base 2 "_law_listed" ["_law_script", "_law_parts_here"] [] (sp_law_listed K)) (c_law_gaps : Cal P w K mg base 3 "_law_gaps" ["_law_script", "_law_spots", "_law_style"] [] (sp_law_gaps K)) (c_law_unlike : Cal P w K mg base 1 "_law_unlike" ["_law_gaps_here"] [] (sp_law_unlike K)) (k_Thing : KCal P w K mg base 9 "Thing" Ad.Thing ["self", "parts", "gaps"] (sp_Thinguu_inituu K Ad)) (m_way : MCal P w K mg base 1 "way" (IsThing Ad) ["self", "name"] (sp_Thing_way K Ad)) (c_law_walked : Cal P w K mg base 1 "_law_walked" ["_law_found", "_law_gap", "_law_parts_here"] [] (sp_law_walked K)) (c_law_refused : Cal P w K mg base 6 "_law_refused" ["_law_thing", "_law_name_here", "_law_way"] [] (sp_law_refused K Ad)) : FnOk P w K mg base (CX1 P w) 11 f fd ["_law_script"] (sp_law K) := by
 refine F.okn sc_law (fun vs H Q E h => ?_) (fun cdv A outer s H vs Q E hr h => ?_)
 ·obtain ⟨a, ns, rfl, _⟩ := h; rfl
 obtain ⟨a, ns, rfl, h⟩ := h
 have hu := hr.units
 refine ⟨_, (pss_cons (ps_set (i := 1) sc_law.nd rfl (Or.inl rfl) (pe_op op_modU (c_law_cell.ev hr (by decide) rfl passF (pa_cons (pv 0) (pa_cons pe_int pa_nil))) pe_int))
   (pss_cons (ps_asg (c_law_parts.ev hr (by decide) rfl passF (pa_cons (pv 0) (pa_cons (pv 1) pa_nil))) (pg_tup rfl (pgs_cons (pg_name (i := 2) sc_law.nd rfl (Or.inl rfl)) (pgs_cons (pg_name (i := 3) sc_law.nd rfl (Or.inl rfl)) pgs_nil))))
   (pss_cons (ps_set (i := 2) sc_law.nd rfl (Or.inl rfl) (c_law_listed.ev hr (by decide) rfl passF (pa_cons (pv 0) (pa_cons (pv 2) pa_nil))))
   (pss_cons (ps_set (i := 4) sc_law.nd rfl (Or.inl rfl) (c_law_unlike.ev hr (by decide) rfl passF (pa_cons (c_law_gaps.ev hr (by decide) rfl passF (pa_cons (pv 0) (pa_cons (pv 3) (pa_cons (pv 1) pa_nil)))) pa_nil)))
   (pss_cons (ps_set (i := 5) sc_law.nd rfl (Or.inl rfl) (k_Thing.ev hr (by decide) rfl passF (pa_cons (pv 2) (pa_cons (pv 4) pa_nil))))
   (pss_cons (ps_setComp (j := 6) (own := ["_law_gap"]) (cs := []) sc_law.nd rfl (Or.inl rfl) rfl (pi_U (pv 4)) (fun _ _ _ _ => (pg_name (i := 0) (show [("_law_gap" : Str)].Nodup by decide) rfl (Or.inl rfl))) (fun _ _ _ _ => (pe_ix (ix_UK (K := K) rfl) (pv 0) pe_int (fun _ _ => rfl))) (hfreeD rfl) (by decide) rfl (by decide) hcs0)
   (pss_cons (ps_for PassesOwn.never rfl (pi_U (pe_op op_addU (pv 4) (pe_slice sl_V (pv 4) po_none (po_some pe_int)))) (pg_name (i := 7) sc_law.nd rfl (Or.inl rfl))
   (pss_cons (ps_set (i := 8) sc_law.nd rfl (Or.inl rfl) (m_way.m hr (by decide) passF (pv 5) (pa_cons (pe_ix ix_U (pv 7) pe_int (fun _ _ => rfl)) pa_nil)))
   (pss_cons (ps_if (pt_not (pt_val (c_law_walked.ev hr (by decide) rfl passF (pa_cons (pv 8) (pa_cons (pv 7) (pa_cons (pv 2) pa_nil))))))
   (pss_one (ps_ret pe_bl))
   pss_nil)
   (pss_cons (ps_expr (pe_bm PySem.F.plainAttrs_list PySem.F.slot_list_append PySem.F.type_list_append mt_append (pv 8) (pa_cons pe_int pa_nil)))
   (pss_one (ps_expr (pe_bm0 PySem.F.plainAttrs_list PySem.F.slot_list_reverse PySem.F.type_list_reverse mt_reverse (pv 8))))))))
   (pss_cons (ps_for PassesOwn.never rfl (pi_U (pe_op op_addU (pe_op op_addU (pe_lst (pa_cons pe_str pa_nil)) (pe_comp (own := ["_law_part"]) (cs := []) (cl := []) rfl (pi_U (pv 2)) (fun _ _ _ _ => (pg_name (i := 0) (show [("_law_part" : Str)].Nodup by decide) rfl (Or.inl rfl))) (fun _ _ _ _ => (pe_ix (ix_UK (K := K) rfl) (pv 0) pe_int (fun _ _ => rfl))) rfl (by decide) rfl (by decide) hcl0 (hhas0 (by decide)) hcs0)) (pe_callB (call_sortD rfl) rfl T.n_sorted bt_sorted (pa_cons (pv 3) pa_nil)))) (pg_name (i := 9) sc_law.nd rfl (Or.inl rfl))
   (pss_one (ps_if (PW.pt (pw_and (pt_cmpR op_notinU (pv 9) (pv 6) (by with_unfolding_all rfl)) (pw_and1 (pt_not (pt_val (c_law_refused.ev hr (by decide) rfl passF (pa_cons (pv 5) (pa_cons (pv 9) (pa_cons (pe_op op_modU (pe_op op_mul0 (pe_callB call_lenU rfl T.n_len bt_len (pa_cons (pv 9) pa_nil)) (pe_callB call_lenU rfl T.n_len bt_len (pa_cons (pv 6) pa_nil))) pe_int) pa_nil)))))))))
   (pss_one (ps_ret pe_bl))
   pss_nil)))
   (pss_one (ps_ret (pe_and (c_law_refused.ev hr (by decide) rfl passF (pa_cons (pv 5) (pa_cons pe_str (pa_cons pe_int pa_nil)))) (pe_and (c_law_refused.ev hr (by decide) rfl passF (pa_cons (pv 5) (pa_cons pe_str (pa_cons pe_int pa_nil)))) (pe_one (c_law_refused.ev hr (by decide) rfl passF (pa_cons (pv 5) (pa_cons pe_str (pa_cons pe_int pa_nil))))))))))))))))), ?_⟩
 obtain ⟨hS, hl, k⟩ := h
 have sl : (1000 : Nat) ≤ sizeLine := by decide
 show tSeq _ _ _ [some (.ref a), none, none, none, none, none, none, none, none, none] H
 nofun
 refine ⟨a, ns, 2, rfl, hS, hl, by decide, by decide, fun c0 => ?_⟩
 nofun
 repeat (refine And.intro (by first | exact divOkL (by decide) | exact powOkL (by decide) | exact mulOkL (by decide) | exact mulOkL' (by decide) | exact Int.one_ne_zero | decide) ?_)
 have q0 := Mth.fm (x := c0) (y := 4) (by decide)
 obtain ⟨st, hst⟩ := Int.eq_ofNat_of_zero_le q0.1
 rw [hst] at q0 ⊢
 refine ⟨a, ns, st, rfl, hS, hl, by omega, fun q pl sd px kv ls sp H1 S1 eq ep hP ed hB hG hT h8 h16 hne => ?_⟩
 nofun
 refine ⟨q, _, rfl, SqT.of eq, rfl, ?_⟩
 nofun
 refine ⟨a, pl, ns, px, ls, rfl, hS.same S1, hl, SqL.of ep, hP, h8, fun kl ys ks H2 S2 ek hK hperm => ?_⟩
 nofun
 refine ⟨a, sd, ns, st, kv, ls, sp, rfl, (hS.same S1).same S2, hl, by omega, S2 _ _ ed, hB.mono (P' := SPV K H2) (fun _ _ z => z.sameT S2.t), hG, hT, h8, h16, hne, fun gl gx gs H3 S3 eg hX hok hg8 => ?_⟩
 nofun
 refine ⟨gl, gx, gs, rfl, SqL.of eg, hX, hg8, fun ul ux us H4 S4 eu hU hsub hund hul => ?_⟩
 nofun
 intro x dx_ hx hdx hne_
 have S24 := S3.trans S4
 have hK4 := hK.mono (P' := PDV K H4) fun _ _ z => z.sameT S24.t
 have lks : ks.length = ls.length := hperm.length_eq
 have lK := hK.length
 have lU := hU.length
 have okk : ∀ p ∈ ks, POk p := fun p hp => hG.ok p (hperm.mem_iff.mp hp)
 have knd : (ks.map (·.nm)).Nodup := (List.Perm.nodup_iff (hperm.map (·.nm))).mpr (nmK_nodup hG.nm)
 have Sm : Same H4 (upd (upd H4 dx_ (.own x)) x (.ins Ad.Thing dx_ [])) := fun b u q => by rw [upd_ne (ne_of_none q hx), upd_ne (ne_of_none q hdx)]; exact q
 refine ⟨x, dx_, kl, ul, ys, ux, ks.map Sum.inl, us.map Sum.inl, H4, rfl, upd_same, hx, Sm, SqL.of (S24 _ _ ek), hK4.map fun p hp x z => ⟨z, okk p hp⟩, SqL.of eu, hU.map fun g hg x z => ⟨z, (hok g (hsub g hg)).1⟩, by rw [List.length_map]; omega, by rw [List.length_map]; omega, ?_⟩
 rw [partsW_tree hG.tr ks [] (by rw [List.nil_append]; exact knd) (fun p hp => hperm.mem_iff.mp (by simpa using hp)), List.nil_append]
 dsimp only
 rw [gaps_ok us [] (by rw [List.nil_append]; exact hund) (fun g hg => (hok g (hsub g hg)).2.1.sub fun p hp => hperm.mem_iff.mpr hp), List.nil_append]
 dsimp only
 intro H5 S5 tk
 refine ⟨rfl, ?_⟩
 nofun
 obtain ⟨xd, d1, d2, d3, k1, k2, k3, hx5, _⟩ := id tk
 have eu5 := S5 _ _ eu
 have hU5 := hU.mono (P' := fun (g : GD) x => TV K H5 g.td x) fun _ _ z => z.sameT S5.t
 have ek5 := S5 _ _ (S24 _ _ ek)
 have hK5 := hK4.mono (P' := PDV K H5) fun _ _ z => z.sameT S5.t
 have ed5 := S5 _ _ (S24 _ _ (S2 _ _ ed))
 have lst : ∀ (i : Nat) (f : GD → V), ((us.take i).map f).length ≤ 20 := fun i f => by rw [List.length_map, List.length_take]; omega
 refine ⟨ul, rfl, .inl ⟨⟨ux, SqL.of eu5⟩, CompJ.list (xs := ux) (fun i ys' H' => H' = H5 ∧ ys' = ((us.take i).map (·.nm)).map V.str) ⟨rfl, rfl⟩ (fun i ys' H' hi z => ⟨by rw [z.1]; exact SqL.of eu5, by rw [z.2, List.length_map, List.length_map, List.length_take]; omega⟩) ?_ ?_⟩⟩
 ·rintro i y ys' H' hy ⟨rfl, rfl⟩
  simp only [List.length_singleton, List.replicate, capsAt, List.map_cons, List.map_nil, Option.join_some, y80y, y4cy, y4dy, y4ey, y6fy, y2ay, y6ay, y7dy, y7ey, y44y, y2dy, y76y, y8cy, y2fy, y39y, y70y, y2ey, y85y, y23y, y28y, y77y, y72y, y29y, y78y, y74y, y58y, y8ey, y26y, y84y, y6ey, y67y, y49y, y66y, y7by, y32y, y47y, y6cy, y48y, y6dy, y46y, y6by, y87y, y62y, y5ey, y89y, y8by, y88y, y8ay, y25y, y65y, y24y, true_and, if_true, if_false, Bool.not_true, Bool.not_false, Bool.false_eq_true, yby, ydy, yay, ycy, yey, y15y, y17y, y14y, y16y, y18y, y6y, y8y, y5y, y7y, y9y, y1y, y3y, y0y, y2y, y4y, y10y, y12y, yfy, y11y, y13y, y1ay, y1cy, y19y, y1by, y1dy, y1fy, y21y, y1ey, y20y, y22y, y82y, y7ay, y71y, y30y, y31y, y52y, y60y, y61y, y4by, y83y, y86y, y8fy, y7cy, y27y, V.int.injEq, V.str.injEq, List.set_cons_zero, List.set_cons_succ, List.getElem?_cons_zero, List.getElem?_cons_succ, Option.some.injEq, exists_eq_left, exists_eq_left', V.bl.injEq, Int.reduceToNat, Int.reducePow, List.append_nil, List.nil_append, List.cons_append, y54y, y56y, y2by, y2cy, y68y, y5dy, y73y, y63y, y64y, y3ay, y3by, y3cy, y43y, y45y, y3ey, y79y, y40y, y3fy, y33y, y35y, y37y, y3dy, y41y, y4fy, y50y, y59y, y93y, y94y, y90y, y91y, y92y, reduceCtorEq, decide_false, decide_true]
  obtain ⟨g, hg, b, vl_, vh, rfl, hb, _, _⟩ := hU5.at_ hy
  refine ixT (i := 0) hb rfl ?_
  rw [List.take_succ, hg]
  simp
  rfl
 ·rintro ys' H' ⟨rfl, rfl⟩
  rw [List.take_of_length_le (by omega)]
  intro nl h_nl
  generalize q_nl : upd H' nl _ = H6
  have S6 := newS h_nl q_nl
  have e6 := newE q_nl
  nofun
  nofun
  have S56 := S6
  have eu6 := S6 _ _ eu5
  have hU6 := hU5.mono (P' := fun (g : GD) x => TV K H6 g.td x) fun _ _ z => z.sameT S6.t
  have hK6 := hK5.mono (P' := PDV K H6) fun _ _ z => z.sameT S6.t
  have lmin : ∃ j, j = min 1 ux.length ∧ cutV ux none (some 1) = ux.take j ∧ j ≤ ux.length := by
   by_cases c : 1 ≤ ux.length
   ·exact ⟨1, by omega, cut_to (j := 1) c, c⟩
   ·refine ⟨0, by omega, ?_, Nat.zero_le _⟩
    have : ux = [] := List.eq_nil_of_length_eq_zero (by omega)
    rw [this]
    rfl
  obtain ⟨jc, _, hcut, hjc⟩ := lmin
  refine .inl (.inl ⟨ul, ux, rfl, SqL.of eu6, ?_⟩)
  rw [hcut]
  intro cl h_cl
  generalize q_cl : upd H6 cl _ = H7
  have S7 := newS h_cl q_cl
  have e7 := newE q_cl
  nofun
  have ltk : (ux.take jc).length ≤ 8 := by rw [List.length_take]; omega
  refine .inl ⟨ul, cl, _, _, rfl, rfl, S7 _ _ eu6, e7, by omega, ?_⟩
  intro bl h_bl
  generalize q_bl : upd H7 bl _ = H8
  have S8 := newS h_bl q_bl
  have e8 := newE q_bl
  nofun
  nofun
  have S68 := S7.trans S8
  have hU8 := hU6.mono (P' := fun (g : GD) x => TV K H8 g.td x) fun _ _ z => z.sameT S68.t
  have hK8 := hK6.mono (P' := PDV K H8) fun _ _ z => z.sameT S68.t
  have hA8 : All2 (fun (g : GD) x => TV K H8 g.td x) (us ++ us.take jc) (ux ++ ux.take jc) := hU8.append (hU8.take jc)
  have tk8 := (tk.same S6).same S68
  have hx8 := S68 _ _ (S6 _ _ hx5)
  have ek8 := S68 _ _ (S6 _ _ ek5)
  have ed8 := S68 _ _ (S6 _ _ ed5)
  have e68 := S68 _ _ e6
  have hNe : ∀ g ∈ us ++ us.take jc, g ∈ us := fun g hg => by
   rcases List.mem_append.mp hg with h | h
   ·exact h
   ·exact List.mem_of_mem_take h
  refine ⟨bl, rfl, ForA.byL (xs := ux ++ ux.take jc) (SqL.of e8) (fun i σ H' => i ≤ (ux ++ ux.take jc).length ∧ ∃ (v7 v8 : Option V), σ = [some (.ref a), some (.int (st : Int)), some (.ref kl), some (.ref sd), some (.ref ul), some (.ref x), some (.ref nl), v7, v8, none] ∧ Same H8 H') ⟨Nat.zero_le _, none, none, rfl, Same.refl _⟩ (fun i σ H' q => by obtain ⟨_, _, _, _, q⟩ := q; exact SqL.of (q _ _ e8)) ?_ ?_⟩
  ·rintro i y σ H9 hy ⟨hi, v7, v8, rfl, S9⟩
   have li := (List.getElem?_eq_some_iff.mp hy).1
   obtain ⟨g, hg, gv⟩ := hA8.at_ hy
   have hgu := hNe g (List.mem_of_getElem? hg)
   have hgt := (hok g (hsub g hgu)).1
   have gv9 := gv.sameT S9.t
   obtain ⟨b, vl_, vh, rfl, hb, _, _⟩ := id gv9
   nofun
   refine ⟨x, _, xd, _, rfl, S9 _ _ hx8, rfl, rfl, ?_⟩
   refine ixT (i := 0) hb rfl ?_
   refine ⟨x, g.nm, ks, us, rfl, tk8.same S9, fun z => absurd (List.mem_map.mpr ⟨g, hgu, rfl⟩) z, fun g' hg' hz l xs w H10 S10 h_l e10 hcv hwk hwn => ?_⟩
   have eg' : g' = g := by
    have h2 := hund
    exact gd_uniq h2 hg' hgu hz
   subst eg'
   nofun
   have S810 := S9.trans S10
   refine ⟨l, kl, .ref b, xs, ys, w, g', ks, rfl, e10, hcv, path_of hwk, hwn, path_ne (path_of hwk) hgt.ne, gv9.sameT S10.t, SqL.of (S810 _ _ ek8), hK8.mono (P' := PDV K H10) (fun _ _ z => z.sameT S810.t), knd, by omega, fun H11 S11 => ?_⟩
   nofun
   have lx := hcv.length
   have lw : w.length ≤ 8 := by
    have := sub_len (w.map (·.1)) (ks.map (·.nm)) hwn fun n hn => path_names (path_of hwk) n hn
    rw [List.length_map, List.length_map] at this
    omega
   have h8l : H8 l = none := freshS S9 h_l
   refine ⟨.inl ⟨rfl, _, SqL.of (S11 _ _ e10)⟩, ?_⟩
   refine ⟨l, xs, _, rfl, rfl, S11 _ _ e10, by omega, ?_⟩
   generalize u12 : upd H11 l _ = H12
   nofun
   have e12 := putE u12
   nofun
   refine ⟨.inl ⟨rfl, _, SqL.of e12⟩, ?_⟩
   refine ⟨l, _, rfl, rfl, e12, ?_⟩
   generalize u13 : upd H12 l _ = H13
   nofun
   exact ⟨li, _, _, rfl, fun b u h => by rw [← u13, upd_ne (ne_of_none h h8l), ← u12, upd_ne (ne_of_none h h8l)]; exact S11 _ _ (S810 _ _ h)⟩
  ·rintro σ H9 ⟨hi, v7, v8, rfl, S9⟩
   nofun
   have hK9 := hK8.mono (P' := PDV K H9) fun _ _ z => z.sameT S9.t
   refine ⟨by show 1 ≤ sizeLine; omega, ?_⟩
   intro nb h_nb
   generalize q_nb : upd H9 nb _ = H10
   have S10 := newS h_nb q_nb
   have e10 := newE q_nb
   nofun
   have hK10 := hK9.mono (P' := PDV K H10) fun _ _ z => z.sameT S10.t
   have ek10 := S10 _ _ (S9 _ _ ek8)
   refine ⟨kl, rfl, .inl ⟨⟨ys, SqL.of ek10⟩, CompJ.list (xs := ys) (fun i ys' H' => H' = H10 ∧ ys' = ((ks.take i).map (·.nm)).map V.str) ⟨rfl, rfl⟩ (fun i ys' H' hi z => ⟨by rw [z.1]; exact SqL.of ek10, by rw [z.2, List.length_map, List.length_map, List.length_take]; omega⟩) ?_ ?_⟩⟩
   ·rintro i y ys' H' hy ⟨rfl, rfl⟩
    simp only [List.length_singleton, List.replicate, capsAt, List.map_cons, List.map_nil, Option.join_some, y80y, y4cy, y4dy, y4ey, y6fy, y2ay, y6ay, y7dy, y7ey, y44y, y2dy, y76y, y8cy, y2fy, y39y, y70y, y2ey, y85y, y23y, y28y, y77y, y72y, y29y, y78y, y74y, y58y, y8ey, y26y, y84y, y6ey, y67y, y49y, y66y, y7by, y32y, y47y, y6cy, y48y, y6dy, y46y, y6by, y87y, y62y, y5ey, y89y, y8by, y88y, y8ay, y25y, y65y, y24y, true_and, if_true, if_false, Bool.not_true, Bool.not_false, Bool.false_eq_true, yby, ydy, yay, ycy, yey, y15y, y17y, y14y, y16y, y18y, y6y, y8y, y5y, y7y, y9y, y1y, y3y, y0y, y2y, y4y, y10y, y12y, yfy, y11y, y13y, y1ay, y1cy, y19y, y1by, y1dy, y1fy, y21y, y1ey, y20y, y22y, y82y, y7ay, y71y, y30y, y31y, y52y, y60y, y61y, y4by, y83y, y86y, y8fy, y7cy, y27y, V.int.injEq, V.str.injEq, List.set_cons_zero, List.set_cons_succ, List.getElem?_cons_zero, List.getElem?_cons_succ, Option.some.injEq, exists_eq_left, exists_eq_left', V.bl.injEq, Int.reduceToNat, Int.reducePow, List.append_nil, List.nil_append, List.cons_append, y54y, y56y, y2by, y2cy, y68y, y5dy, y73y, y63y, y64y, y3ay, y3by, y3cy, y43y, y45y, y3ey, y79y, y40y, y3fy, y33y, y35y, y37y, y3dy, y41y, y4fy, y50y, y59y, y93y, y94y, y90y, y91y, y92y, reduceCtorEq, decide_false, decide_true]
    obtain ⟨p, hp, b, vz, vm, rfl, hb, _, _⟩ := hK10.at_ hy
    refine ixT (i := 0) hb rfl ?_
    rw [List.take_succ, hp]
    simp
   ·rintro ys' H' ⟨rfl, rfl⟩
    rw [List.take_of_length_le (by omega)]
    intro pn h_pn
    generalize q_pn : upd H' pn _ = H11
    have S11 := newS h_pn q_pn
    have e11 := newE q_pn
    nofun
    refine .inl ⟨nb, pn, _, _, rfl, rfl, S11 _ _ e10, e11, by simp; omega, ?_⟩
    intro c1 h_c1
    generalize q_c1 : upd H11 c1 _ = H12
    have S12 := newS h_c1 q_c1
    have e12 := newE q_c1
    nofun
    have S912 := S10.trans (S11.trans S12)
    have ed12 := S912 _ _ (S9 _ _ ed8)
    nofun
    have hB12 : kv.map (·.1) = (sp.map (·.f)).map Sum.inr := by rw [hB.1, List.map_map]; rfl
    refine ⟨sd, kv, sp.map (·.f), rfl, ed12, hB12, by rw [List.length_map]; omega, fun so out h_so ord => ?_⟩
    generalize u13 : upd H12 so _ = H13
    nofun
    have S13 := newS h_so u13
    have e13 := newE u13
    have lo : out.length = sp.length := by rw [ord.1.length_eq, List.length_map]
    refine .inl ⟨c1, so, _, _, rfl, rfl, S13 _ _ e12, e13, by simp; omega, ?_⟩
    intro c2 h_c2
    generalize q_c2 : upd H13 c2 _ = H14
    have S14 := newS h_c2 q_c2
    have e14 := newE q_c2
    nofun
    have S914 := S912.trans (S13.trans S14)
    have S814 := S9.trans S914
    nofun
    obtain ⟨zs, hzs, hzl⟩ : ∃ zs : List Str, H14 c2 = some (.lst (zs.map V.str)) ∧ ∀ z ∈ zs, z.length ≤ 8 := by
     refine ⟨[Str.ofString "nobody"] ++ ks.map (·.nm) ++ out, ?_, fun z hz => ?_⟩
     ·rw [e14]
      simp
     ·rcases List.mem_append.mp hz with hz | hz
      ·rcases List.mem_append.mp hz with hz | hz
       ·rw [List.mem_singleton.mp hz]
        decide
       ·obtain ⟨p, hp, e⟩ := List.mem_map.mp hz
        rw [← e]
        exact len8 (okk p hp).n1
      ·obtain ⟨s, hs, e⟩ := List.mem_map.mp (ord.1.mem_iff.mp hz)
       rw [← e]
       exact len8 (hG.fname (by omega) h16 hs)
    have nob : Str.ofString "nobody" ∉ us.map (·.nm) := fun z => by
     obtain ⟨g, hg, e⟩ := List.mem_map.mp z
     have h4 := (hok g (hsub g hg)).2.2
     have e : g.nm = Str.ofString "nobody" := e
     rw [e] at h4
     exact absurd h4 (by decide)
    have tk14 := tk8.same S814
    have e614 := S814 _ _ e68
    refine ⟨c2, rfl, ForA.byL (xs := zs.map V.str) (SqL.of hzs) (fun i σ H' => i ≤ (zs.map V.str).length ∧ ∃ (v9 : Option V), σ = [some (.ref a), some (.int (st : Int)), some (.ref kl), some (.ref sd), some (.ref ul), some (.ref x), some (.ref nl), v7, v8, v9] ∧ Same H14 H') ⟨Nat.zero_le _, none, rfl, Same.refl _⟩ (fun i σ H' q => by obtain ⟨_, _, _, q⟩ := q; exact SqL.of (q _ _ hzs)) ?_ ?_⟩
    ·rintro i y σ H15 hy ⟨hi, v9, rfl, S15⟩
     have li := (List.getElem?_eq_some_iff.mp hy).1
     obtain ⟨z, hz, rfl⟩ : ∃ z, z ∈ zs ∧ y = .str z := by
      rw [List.length_map] at li
      rw [List.getElem?_map, List.getElem?_eq_getElem li] at hy
      exact ⟨_, List.getElem_mem li, (Option.some.inj hy).symm⟩
     have zl := hzl z hz
     nofun
     refine ⟨nl, _, rfl, .inl (SqL.of (S15 _ _ e614)), rfl, flat_strs _, ?_⟩
     rw [inV_strs]
     by_cases cn : z ∈ us.map (·.nm)
     ·rw [decide_eq_true cn]
      nofun
      exact ⟨li, _, rfl, S15⟩
     ·rw [decide_eq_false cn]
      nofun
      refine ⟨by omega, _, .inl (SqL.of (S15 _ _ e614)), ?_⟩
      try simp only [y80y, y4cy, y4dy, y4ey, y6fy, y2ay, y6ay, y7dy, y7ey, y44y, y2dy, y76y, y8cy, y2fy, y39y, y70y, y2ey, y85y, y23y, y28y, y77y, y72y, y29y, y78y, y74y, y58y, y8ey, y26y, y84y, y6ey, y67y, y49y, y66y, y7by, y32y, y47y, y6cy, y48y, y6dy, y46y, y6by, y87y, y62y, y5ey, y89y, y8by, y88y, y8ay, y25y, y65y, y24y, true_and, if_true, if_false, Bool.not_true, Bool.not_false, Bool.false_eq_true, yby, ydy, yay, ycy, yey, y15y, y17y, y14y, y16y, y18y, y6y, y8y, y5y, y7y, y9y, y1y, y3y, y0y, y2y, y4y, y10y, y12y, yfy, y11y, y13y, y1ay, y1cy, y19y, y1by, y1dy, y1fy, y21y, y1ey, y20y, y22y, y82y, y7ay, y71y, y30y, y31y, y52y, y60y, y61y, y4by, y83y, y86y, y8fy, y7cy, y27y, V.int.injEq, V.str.injEq, List.set_cons_zero, List.set_cons_succ, List.getElem?_cons_zero, List.getElem?_cons_succ, Option.some.injEq, exists_eq_left, exists_eq_left', V.bl.injEq, Int.reduceToNat, Int.reducePow, List.append_nil, List.nil_append, List.cons_append, y54y, y56y, y2by, y2cy, y68y, y5dy, y73y, y63y, y64y, y3ay, y3by, y3cy, y43y, y45y, y3ey, y79y, y40y, y3fy, y33y, y35y, y37y, y3dy, y41y, y4fy, y50y, y59y, y93y, y94y, y90y, y91y, y92y, reduceCtorEq, decide_false, decide_true, List.length_map]
      refine ⟨mulOk (m := 16) (n := 16) (.lit (by omega) (by omega)) (.lit (by omega) (by omega)), ?_⟩
      repeat (refine And.intro (by first | exact divOkL (by decide) | exact powOkL (by decide) | exact mulOkL (by decide) | exact mulOkL' (by decide) | exact Int.one_ne_zero | decide) ?_)
      refine ⟨x, z, _, ks, us, rfl, tk14.same S15, cn, fun H16 S16 => ?_⟩
      nofun
      exact ⟨by rw [List.length_map] at li; exact li, _, rfl, S15.trans S16⟩
    ·rintro σ H15 ⟨hi, v9, rfl, S15⟩
     nofun
     refine ⟨x, _, _, ks, us, rfl, tk14.same S15, nob, fun H16 S16 => ?_⟩
     nofun
     refine ⟨x, _, _, ks, us, rfl, tk14.same (S15.trans S16), nob, fun H17 S17 => ?_⟩
     nofun
     refine ⟨x, _, _, ks, us, rfl, tk14.same (S15.trans (S16.trans S17)), nob, fun H18 S18 => ?_⟩
     nofun
     exact k _
end
theorem all_mk {l : PySem.W.OpenLaw} {w : World} {K : PySem.W.Frag} {h : Heap} {mg : Str → Option Value} {fa : Addr} {SlackError NoFace NoRow Twice NoName NoPart NoGap InRing Apart Part Gap Joints Thing : Addr} (X : K.In h) (G : h.Ns mainGlobals mg) (hfa : mg "law" = some (.ref fa))
  {f1 : Addr} {od1 an1 : Option Addr} {sl1 : Array (Option Value)} {oc1 kV1 dc1 pm1 cd1 ct1 : Value}
  {f2 : Addr} {od2 an2 : Option Addr} {sl2 : Array (Option Value)} {oc2 kV2 dc2 pm2 cd2 ct2 : Value}
  {f3 : Addr} {od3 an3 : Option Addr} {sl3 : Array (Option Value)} {oc3 kV3 dc3 pm3 cd3 ct3 : Value}
  {f4 : Addr} {od4 an4 : Option Addr} {sl4 : Array (Option Value)} {oc4 kV4 dc4 pm4 cd4 ct4 : Value}
  {f5 : Addr} {od5 an5 : Option Addr} {sl5 : Array (Option Value)} {oc5 kV5 dc5 pm5 cd5 ct5 : Value}
  {f6 : Addr} {od6 an6 : Option Addr} {sl6 : Array (Option Value)} {oc6 kV6 dc6 pm6 cd6 ct6 : Value}
  {f7 : Addr} {od7 an7 : Option Addr} {sl7 : Array (Option Value)} {oc7 kV7 dc7 pm7 cd7 ct7 : Value}
  {f8 : Addr} {od8 an8 : Option Addr} {sl8 : Array (Option Value)} {oc8 kV8 dc8 pm8 cd8 ct8 : Value}
  {f9 : Addr} {od9 an9 : Option Addr} {sl9 : Array (Option Value)} {oc9 kV9 dc9 pm9 cd9 ct9 : Value}
  {f10 : Addr} {od10 an10 : Option Addr} {sl10 : Array (Option Value)} {oc10 kV10 dc10 pm10 cd10 ct10 : Value}
  {f11 : Addr} {od11 an11 : Option Addr} {sl11 : Array (Option Value)} {oc11 kV11 dc11 pm11 cd11 ct11 : Value}
  {f12 : Addr} {od12 an12 : Option Addr} {sl12 : Array (Option Value)} {oc12 kV12 dc12 pm12 cd12 ct12 : Value}
  {f13 : Addr} {od13 an13 : Option Addr} {sl13 : Array (Option Value)} {oc13 kV13 dc13 pm13 cd13 ct13 : Value}
  {f14 : Addr} {od14 an14 : Option Addr} {sl14 : Array (Option Value)} {oc14 kV14 dc14 pm14 cd14 ct14 : Value}
  {f15 : Addr} {od15 an15 : Option Addr} {sl15 : Array (Option Value)} {oc15 kV15 dc15 pm15 cd15 ct15 : Value}
  {f16 : Addr} {od16 an16 : Option Addr} {sl16 : Array (Option Value)} {oc16 kV16 dc16 pm16 cd16 ct16 : Value}
  {f17 : Addr} {od17 an17 : Option Addr} {sl17 : Array (Option Value)} {oc17 kV17 dc17 pm17 cd17 ct17 : Value}
  {f18 : Addr} {od18 an18 : Option Addr} {sl18 : Array (Option Value)} {oc18 kV18 dc18 pm18 cd18 ct18 : Value}
  {f19 : Addr} {od19 an19 : Option Addr} {sl19 : Array (Option Value)} {oc19 kV19 dc19 pm19 cd19 ct19 : Value}
  {f20 : Addr} {od20 an20 : Option Addr} {sl20 : Array (Option Value)} {oc20 kV20 dc20 pm20 cd20 ct20 : Value}
  {f21 : Addr} {od21 an21 : Option Addr} {sl21 : Array (Option Value)} {oc21 kV21 dc21 pm21 cd21 ct21 : Value}
  {f22 : Addr} {od22 an22 : Option Addr} {sl22 : Array (Option Value)} {oc22 kV22 dc22 pm22 cd22 ct22 : Value}
  {f23 : Addr} {od23 an23 : Option Addr} {sl23 : Array (Option Value)} {oc23 kV23 dc23 pm23 cd23 ct23 : Value}
  {f24 : Addr} {od24 an24 : Option Addr} {sl24 : Array (Option Value)} {oc24 kV24 dc24 pm24 cd24 ct24 : Value}
  {f25 : Addr} {od25 an25 : Option Addr} {sl25 : Array (Option Value)} {oc25 kV25 dc25 pm25 cd25 ct25 : Value}
  {f26 : Addr} {od26 an26 : Option Addr} {sl26 : Array (Option Value)} {oc26 kV26 dc26 pm26 cd26 ct26 : Value}
  {f27 : Addr} {od27 an27 : Option Addr} {sl27 : Array (Option Value)} {oc27 kV27 dc27 pm27 cd27 ct27 : Value}
  {f28 : Addr} {od28 an28 : Option Addr} {sl28 : Array (Option Value)} {oc28 kV28 dc28 pm28 cd28 ct28 : Value}
  {f29 : Addr} {od29 an29 : Option Addr} {sl29 : Array (Option Value)} {oc29 kV29 dc29 pm29 cd29 ct29 : Value}
  {f30 : Addr} {od30 an30 : Option Addr} {sl30 : Array (Option Value)} {oc30 kV30 dc30 pm30 cd30 ct30 : Value}
  {f31 : Addr} {od31 an31 : Option Addr} {sl31 : Array (Option Value)} {oc31 kV31 dc31 pm31 cd31 ct31 : Value}
  {f32 : Addr} {od32 an32 : Option Addr} {sl32 : Array (Option Value)} {oc32 kV32 dc32 pm32 cd32 ct32 : Value}
  {f33 : Addr} {od33 an33 : Option Addr} {sl33 : Array (Option Value)} {oc33 kV33 dc33 pm33 cd33 ct33 : Value}
  {f34 : Addr} {od34 an34 : Option Addr} {sl34 : Array (Option Value)} {oc34 kV34 dc34 pm34 cd34 ct34 : Value}
  {f35 : Addr} {od35 an35 : Option Addr} {sl35 : Array (Option Value)} {oc35 kV35 dc35 pm35 cd35 ct35 : Value}
  {f36 : Addr} {od36 an36 : Option Addr} {sl36 : Array (Option Value)} {oc36 kV36 dc36 pm36 cd36 ct36 : Value}
  {ct_SMALL_LETTERS : Tok}
  {ct_LONGEST_NAME : Tok}
  {ZERO : Addr} {cd_ZERO : Option Addr} {cn_ZERO : Nat} {cs_ZERO : Array (Option Value)} {ct0_ZERO ct1_ZERO : Tok}
  (g_SlackError : PySem.W.nsIn K mainGlobals "SlackError" = some (some (.ref SlackError)))
  (g_NoFace : PySem.W.nsIn K mainGlobals "NoFace" = some (some (.ref NoFace)))
  (g_NoRow : PySem.W.nsIn K mainGlobals "NoRow" = some (some (.ref NoRow)))
  (g_Twice : PySem.W.nsIn K mainGlobals "Twice" = some (some (.ref Twice)))
  (g_NoName : PySem.W.nsIn K mainGlobals "NoName" = some (some (.ref NoName)))
  (g_NoPart : PySem.W.nsIn K mainGlobals "NoPart" = some (some (.ref NoPart)))
  (g_NoGap : PySem.W.nsIn K mainGlobals "NoGap" = some (some (.ref NoGap)))
  (g_InRing : PySem.W.nsIn K mainGlobals "InRing" = some (some (.ref InRing)))
  (g_Apart : PySem.W.nsIn K mainGlobals "Apart" = some (some (.ref Apart)))
  (g_Part : PySem.W.nsIn K mainGlobals "Part" = some (some (.ref Part)))
  (g_Gap : PySem.W.nsIn K mainGlobals "Gap" = some (some (.ref Gap)))
  (g_Joints : PySem.W.nsIn K mainGlobals "Joints" = some (some (.ref Joints)))
  (g_Thing : PySem.W.nsIn K mainGlobals "Thing" = some (some (.ref Thing)))
  (a1 : PySem.W.nsIn K mainGlobals "common_divisor" = some (some (.ref f1))) (l1 : K.lookup f1 = some ⟨oc1, od1, .func (PySem.W.fnOf "common_divisor" "common_divisor" (defArgs s_common_divisor) (defBody s_common_divisor) (defScope s_common_divisor) .none kV1 dc1 pm1 an1 cd1 ct1), sl1⟩) (c1 : PySem.W.codeIn K cd1 "common_divisor" = true) (k1 : PySem.W.keepIn K (.ref f1) = true)
  (a2 : PySem.W.nsIn K mainGlobals "plus" = some (some (.ref f2))) (l2 : K.lookup f2 = some ⟨oc2, od2, .func (PySem.W.fnOf "plus" "plus" (defArgs s_plus) (defBody s_plus) (defScope s_plus) .none kV2 dc2 pm2 an2 cd2 ct2), sl2⟩) (c2 : PySem.W.codeIn K cd2 "plus" = true) (k2 : PySem.W.keepIn K (.ref f2) = true)
  (a3 : PySem.W.nsIn K mainGlobals "minus" = some (some (.ref f3))) (l3 : K.lookup f3 = some ⟨oc3, od3, .func (PySem.W.fnOf "minus" "minus" (defArgs s_minus) (defBody s_minus) (defScope s_minus) .none kV3 dc3 pm3 an3 cd3 ct3), sl3⟩) (c3 : PySem.W.codeIn K cd3 "minus" = true) (k3 : PySem.W.keepIn K (.ref f3) = true)
  (a4 : PySem.W.nsIn K mainGlobals "under" = some (some (.ref f4))) (l4 : K.lookup f4 = some ⟨oc4, od4, .func (PySem.W.fnOf "under" "under" (defArgs s_under) (defBody s_under) (defScope s_under) .none kV4 dc4 pm4 an4 cd4 ct4), sl4⟩) (c4 : PySem.W.codeIn K cd4 "under" = true) (k4 : PySem.W.keepIn K (.ref f4) = true)
  (a5 : PySem.W.nsIn K mainGlobals "is_name" = some (some (.ref f5))) (l5 : K.lookup f5 = some ⟨oc5, od5, .func (PySem.W.fnOf "is_name" "is_name" (defArgs s_is_name) (defBody s_is_name) (defScope s_is_name) .none kV5 dc5 pm5 an5 cd5 ct5), sl5⟩) (c5 : PySem.W.codeIn K cd5 "is_name" = true) (k5 : PySem.W.keepIn K (.ref f5) = true)
  (a6 : PySem.W.nsIn K mainGlobals "is_whole" = some (some (.ref f6))) (l6 : K.lookup f6 = some ⟨oc6, od6, .func (PySem.W.fnOf "is_whole" "is_whole" (defArgs s_is_whole) (defBody s_is_whole) (defScope s_is_whole) .none kV6 dc6 pm6 an6 cd6 ct6), sl6⟩) (c6 : PySem.W.codeIn K cd6 "is_whole" = true) (k6 : PySem.W.keepIn K (.ref f6) = true)
  (a7 : PySem.W.nsIn K mainGlobals "is_fraction" = some (some (.ref f7))) (l7 : K.lookup f7 = some ⟨oc7, od7, .func (PySem.W.fnOf "is_fraction" "is_fraction" (defArgs s_is_fraction) (defBody s_is_fraction) (defScope s_is_fraction) .none kV7 dc7 pm7 an7 cd7 ct7), sl7⟩) (c7 : PySem.W.codeIn K cd7 "is_fraction" = true) (k7 : PySem.W.keepIn K (.ref f7) = true)
  (a8 : PySem.W.nsIn K mainGlobals "is_bound" = some (some (.ref f8))) (l8 : K.lookup f8 = some ⟨oc8, od8, .func (PySem.W.fnOf "is_bound" "is_bound" (defArgs s_is_bound) (defBody s_is_bound) (defScope s_is_bound) .none kV8 dc8 pm8 an8 cd8 ct8), sl8⟩) (c8 : PySem.W.codeIn K cd8 "is_bound" = true) (k8 : PySem.W.keepIn K (.ref f8) = true)
  (a9 : PySem.W.nsIn K mainGlobals "are_faces" = some (some (.ref f9))) (l9 : K.lookup f9 = some ⟨oc9, od9, .func (PySem.W.fnOf "are_faces" "are_faces" (defArgs s_are_faces) (defBody s_are_faces) (defScope s_are_faces) .none kV9 dc9 pm9 an9 cd9 ct9), sl9⟩) (c9 : PySem.W.codeIn K cd9 "are_faces" = true) (k9 : PySem.W.keepIn K (.ref f9) = true)
  (a10 : PySem.W.nsIn K mainGlobals "are_bounds" = some (some (.ref f10))) (l10 : K.lookup f10 = some ⟨oc10, od10, .func (PySem.W.fnOf "are_bounds" "are_bounds" (defArgs s_are_bounds) (defBody s_are_bounds) (defScope s_are_bounds) .none kV10 dc10 pm10 an10 cd10 ct10), sl10⟩) (c10 : PySem.W.codeIn K cd10 "are_bounds" = true) (k10 : PySem.W.keepIn K (.ref f10) = true)
  (a11 : PySem.W.nsIn K mainGlobals "is_tie" = some (some (.ref f11))) (l11 : K.lookup f11 = some ⟨oc11, od11, .func (PySem.W.fnOf "is_tie" "is_tie" (defArgs s_is_tie) (defBody s_is_tie) (defScope s_is_tie) .none kV11 dc11 pm11 an11 cd11 ct11), sl11⟩) (c11 : PySem.W.codeIn K cd11 "is_tie" = true) (k11 : PySem.W.keepIn K (.ref f11) = true)
  (a12 : PySem.W.findIn K (.ref Part) "__init__" = some (some (.ref f12))) (l12 : K.lookup f12 = some ⟨oc12, od12, .func (PySem.W.fnOf "__init__" "Part.__init__" (defArgs s_Partuu_inituu) (defBody s_Partuu_inituu) (defScope s_Partuu_inituu) .none kV12 dc12 pm12 an12 cd12 ct12), sl12⟩) (c12 : PySem.W.codeIn K cd12 "Part.__init__" = true) (k12 : PySem.W.keepIn K (.ref f12) = true)
  (a13 : PySem.W.findIn K (.ref Gap) "__init__" = some (some (.ref f13))) (l13 : K.lookup f13 = some ⟨oc13, od13, .func (PySem.W.fnOf "__init__" "Gap.__init__" (defArgs s_Gapuu_inituu) (defBody s_Gapuu_inituu) (defScope s_Gapuu_inituu) .none kV13 dc13 pm13 an13 cd13 ct13), sl13⟩) (c13 : PySem.W.codeIn K cd13 "Gap.__init__" = true) (k13 : PySem.W.keepIn K (.ref f13) = true)
  (a14 : PySem.W.nsIn K mainGlobals "is_part" = some (some (.ref f14))) (l14 : K.lookup f14 = some ⟨oc14, od14, .func (PySem.W.fnOf "is_part" "is_part" (defArgs s_is_part) (defBody s_is_part) (defScope s_is_part) .none kV14 dc14 pm14 an14 cd14 ct14), sl14⟩) (c14 : PySem.W.codeIn K cd14 "is_part" = true) (k14 : PySem.W.keepIn K (.ref f14) = true)
  (a15 : PySem.W.nsIn K mainGlobals "is_gap" = some (some (.ref f15))) (l15 : K.lookup f15 = some ⟨oc15, od15, .func (PySem.W.fnOf "is_gap" "is_gap" (defArgs s_is_gap) (defBody s_is_gap) (defScope s_is_gap) .none kV15 dc15 pm15 an15 cd15 ct15), sl15⟩) (c15 : PySem.W.codeIn K cd15 "is_gap" = true) (k15 : PySem.W.keepIn K (.ref f15) = true)
  (a16 : PySem.W.nsIn K mainGlobals "part_of" = some (some (.ref f16))) (l16 : K.lookup f16 = some ⟨oc16, od16, .func (PySem.W.fnOf "part_of" "part_of" (defArgs s_part_of) (defBody s_part_of) (defScope s_part_of) .none kV16 dc16 pm16 an16 cd16 ct16), sl16⟩) (c16 : PySem.W.codeIn K cd16 "part_of" = true) (k16 : PySem.W.keepIn K (.ref f16) = true)
  (a17 : PySem.W.nsIn K mainGlobals "gap_of" = some (some (.ref f17))) (l17 : K.lookup f17 = some ⟨oc17, od17, .func (PySem.W.fnOf "gap_of" "gap_of" (defArgs s_gap_of) (defBody s_gap_of) (defScope s_gap_of) .none kV17 dc17 pm17 an17 cd17 ct17), sl17⟩) (c17 : PySem.W.codeIn K cd17 "gap_of" = true) (k17 : PySem.W.keepIn K (.ref f17) = true)
  (a18 : PySem.W.findIn K (.ref Joints) "__init__" = some (some (.ref f18))) (l18 : K.lookup f18 = some ⟨oc18, od18, .func (PySem.W.fnOf "__init__" "Joints.__init__" (defArgs s_Jointsuu_inituu) (defBody s_Jointsuu_inituu) (defScope s_Jointsuu_inituu) .none kV18 dc18 pm18 an18 cd18 ct18), sl18⟩) (c18 : PySem.W.codeIn K cd18 "Joints.__init__" = true) (k18 : PySem.W.keepIn K (.ref f18) = true)
  (a19 : PySem.W.findIn K (.ref Joints) "link" = some (some (.ref f19))) (l19 : K.lookup f19 = some ⟨oc19, od19, .func (PySem.W.fnOf "link" "Joints.link" (defArgs s_Joints_link) (defBody s_Joints_link) (defScope s_Joints_link) .none kV19 dc19 pm19 an19 cd19 ct19), sl19⟩) (c19 : PySem.W.codeIn K cd19 "Joints.link" = true) (k19 : PySem.W.keepIn K (.ref f19) = true)
  (a20 : PySem.W.findIn K (.ref Joints) "way_between" = some (some (.ref f20))) (l20 : K.lookup f20 = some ⟨oc20, od20, .func (PySem.W.fnOf "way_between" "Joints.way_between" (defArgs s_Joints_way_between) (defBody s_Joints_way_between) (defScope s_Joints_way_between) .none kV20 dc20 pm20 an20 cd20 ct20), sl20⟩) (c20 : PySem.W.codeIn K cd20 "Joints.way_between" = true) (k20 : PySem.W.keepIn K (.ref f20) = true)
  (a21 : PySem.W.findIn K (.ref Thing) "__init__" = some (some (.ref f21))) (l21 : K.lookup f21 = some ⟨oc21, od21, .func (PySem.W.fnOf "__init__" "Thing.__init__" (defArgs s_Thinguu_inituu) (defBody s_Thinguu_inituu) (defScope s_Thinguu_inituu) .none kV21 dc21 pm21 an21 cd21 ct21), sl21⟩) (c21 : PySem.W.codeIn K cd21 "Thing.__init__" = true) (k21 : PySem.W.keepIn K (.ref f21) = true)
  (a22 : PySem.W.findIn K (.ref Thing) "way" = some (some (.ref f22))) (l22 : K.lookup f22 = some ⟨oc22, od22, .func (PySem.W.fnOf "way" "Thing.way" (defArgs s_Thing_way) (defBody s_Thing_way) (defScope s_Thing_way) .none kV22 dc22 pm22 an22 cd22 ct22), sl22⟩) (c22 : PySem.W.codeIn K cd22 "Thing.way" = true) (k22 : PySem.W.keepIn K (.ref f22) = true)
  (a23 : PySem.W.findIn K (.ref Thing) "middle" = some (some (.ref f23))) (l23 : K.lookup f23 = some ⟨oc23, od23, .func (PySem.W.fnOf "middle" "Thing.middle" (defArgs s_Thing_middle) (defBody s_Thing_middle) (defScope s_Thing_middle) .none kV23 dc23 pm23 an23 cd23 ct23), sl23⟩) (c23 : PySem.W.codeIn K cd23 "Thing.middle" = true) (k23 : PySem.W.keepIn K (.ref f23) = true)
  (a24 : PySem.W.findIn K (.ref Thing) "room" = some (some (.ref f24))) (l24 : K.lookup f24 = some ⟨oc24, od24, .func (PySem.W.fnOf "room" "Thing.room" (defArgs s_Thing_room) (defBody s_Thing_room) (defScope s_Thing_room) .none kV24 dc24 pm24 an24 cd24 ct24), sl24⟩) (c24 : PySem.W.codeIn K cd24 "Thing.room" = true) (k24 : PySem.W.keepIn K (.ref f24) = true)
  (a25 : PySem.W.nsIn K mainGlobals "_law_cell" = some (some (.ref f25))) (l25 : K.lookup f25 = some ⟨oc25, od25, .func (PySem.W.fnOf "_law_cell" "_law_cell" (defArgs s_law_cell) (defBody s_law_cell) (defScope s_law_cell) .none kV25 dc25 pm25 an25 cd25 ct25), sl25⟩) (c25 : PySem.W.codeIn K cd25 "_law_cell" = true) (k25 : PySem.W.keepIn K (.ref f25) = true)
  (a26 : PySem.W.nsIn K mainGlobals "_law_signed" = some (some (.ref f26))) (l26 : K.lookup f26 = some ⟨oc26, od26, .func (PySem.W.fnOf "_law_signed" "_law_signed" (defArgs s_law_signed) (defBody s_law_signed) (defScope s_law_signed) .none kV26 dc26 pm26 an26 cd26 ct26), sl26⟩) (c26 : PySem.W.codeIn K cd26 "_law_signed" = true) (k26 : PySem.W.keepIn K (.ref f26) = true)
  (a27 : PySem.W.nsIn K mainGlobals "_law_low" = some (some (.ref f27))) (l27 : K.lookup f27 = some ⟨oc27, od27, .func (PySem.W.fnOf "_law_low" "_law_low" (defArgs s_law_low) (defBody s_law_low) (defScope s_law_low) .none kV27 dc27 pm27 an27 cd27 ct27), sl27⟩) (c27 : PySem.W.codeIn K cd27 "_law_low" = true) (k27 : PySem.W.keepIn K (.ref f27) = true)
  (a28 : PySem.W.nsIn K mainGlobals "_law_plus" = some (some (.ref f28))) (l28 : K.lookup f28 = some ⟨oc28, od28, .func (PySem.W.fnOf "_law_plus" "_law_plus" (defArgs s_law_plus) (defBody s_law_plus) (defScope s_law_plus) .none kV28 dc28 pm28 an28 cd28 ct28), sl28⟩) (c28 : PySem.W.codeIn K cd28 "_law_plus" = true) (k28 : PySem.W.keepIn K (.ref f28) = true)
  (a29 : PySem.W.nsIn K mainGlobals "_law_name" = some (some (.ref f29))) (l29 : K.lookup f29 = some ⟨oc29, od29, .func (PySem.W.fnOf "_law_name" "_law_name" (defArgs s_law_name) (defBody s_law_name) (defScope s_law_name) .none kV29 dc29 pm29 an29 cd29 ct29), sl29⟩) (c29 : PySem.W.codeIn K cd29 "_law_name" = true) (k29 : PySem.W.keepIn K (.ref f29) = true)
  (a30 : PySem.W.nsIn K mainGlobals "_law_parts" = some (some (.ref f30))) (l30 : K.lookup f30 = some ⟨oc30, od30, .func (PySem.W.fnOf "_law_parts" "_law_parts" (defArgs s_law_parts) (defBody s_law_parts) (defScope s_law_parts) .none kV30 dc30 pm30 an30 cd30 ct30), sl30⟩) (c30 : PySem.W.codeIn K cd30 "_law_parts" = true) (k30 : PySem.W.keepIn K (.ref f30) = true)
  (a31 : PySem.W.nsIn K mainGlobals "_law_gaps" = some (some (.ref f31))) (l31 : K.lookup f31 = some ⟨oc31, od31, .func (PySem.W.fnOf "_law_gaps" "_law_gaps" (defArgs s_law_gaps) (defBody s_law_gaps) (defScope s_law_gaps) .none kV31 dc31 pm31 an31 cd31 ct31), sl31⟩) (c31 : PySem.W.codeIn K cd31 "_law_gaps" = true) (k31 : PySem.W.keepIn K (.ref f31) = true)
  (a32 : PySem.W.nsIn K mainGlobals "_law_listed" = some (some (.ref f32))) (l32 : K.lookup f32 = some ⟨oc32, od32, .func (PySem.W.fnOf "_law_listed" "_law_listed" (defArgs s_law_listed) (defBody s_law_listed) (defScope s_law_listed) .none kV32 dc32 pm32 an32 cd32 ct32), sl32⟩) (c32 : PySem.W.codeIn K cd32 "_law_listed" = true) (k32 : PySem.W.keepIn K (.ref f32) = true)
  (a33 : PySem.W.nsIn K mainGlobals "_law_unlike" = some (some (.ref f33))) (l33 : K.lookup f33 = some ⟨oc33, od33, .func (PySem.W.fnOf "_law_unlike" "_law_unlike" (defArgs s_law_unlike) (defBody s_law_unlike) (defScope s_law_unlike) .none kV33 dc33 pm33 an33 cd33 ct33), sl33⟩) (c33 : PySem.W.codeIn K cd33 "_law_unlike" = true) (k33 : PySem.W.keepIn K (.ref f33) = true)
  (a34 : PySem.W.nsIn K mainGlobals "_law_walked" = some (some (.ref f34))) (l34 : K.lookup f34 = some ⟨oc34, od34, .func (PySem.W.fnOf "_law_walked" "_law_walked" (defArgs s_law_walked) (defBody s_law_walked) (defScope s_law_walked) .none kV34 dc34 pm34 an34 cd34 ct34), sl34⟩) (c34 : PySem.W.codeIn K cd34 "_law_walked" = true) (k34 : PySem.W.keepIn K (.ref f34) = true)
  (a35 : PySem.W.nsIn K mainGlobals "_law_refused" = some (some (.ref f35))) (l35 : K.lookup f35 = some ⟨oc35, od35, .func (PySem.W.fnOf "_law_refused" "_law_refused" (defArgs s_law_refused) (defBody s_law_refused) (defScope s_law_refused) .none kV35 dc35 pm35 an35 cd35 ct35), sl35⟩) (c35 : PySem.W.codeIn K cd35 "_law_refused" = true) (k35 : PySem.W.keepIn K (.ref f35) = true)
  (a36 : PySem.W.nsIn K mainGlobals "law" = some (some (.ref f36))) (l36 : K.lookup f36 = some ⟨oc36, od36, .func (PySem.W.fnOf "law" "law" (defArgs s_law) (defBody s_law) (defScope s_law) .none kV36 dc36 pm36 an36 cd36 ct36), sl36⟩) (c36 : PySem.W.codeIn K cd36 "law" = true) (k36 : PySem.W.keepIn K (.ref f36) = true)
  (z_abs : PySem.W.nsIn K mainGlobals "abs" = some none)
  (z_isinstance : PySem.W.nsIn K mainGlobals "isinstance" = some none)
  (z_len : PySem.W.nsIn K mainGlobals "len" = some none)
  (z_int : PySem.W.nsIn K mainGlobals "int" = some none)
  (z_bool : PySem.W.nsIn K mainGlobals "bool" = some none)
  (z_tuple : PySem.W.nsIn K mainGlobals "tuple" = some none)
  (z_str : PySem.W.nsIn K mainGlobals "str" = some none)
  (z_range : PySem.W.nsIn K mainGlobals "range" = some none)
  (z_list : PySem.W.nsIn K mainGlobals "list" = some none)
  (z_min : PySem.W.nsIn K mainGlobals "min" = some none)
  (z_sorted : PySem.W.nsIn K mainGlobals "sorted" = some none)
  (z_all : PySem.W.nsIn K mainGlobals "all" = some none)
  (z_ValueError : PySem.W.nsIn K mainGlobals "ValueError" = some none)
  (g_SMALL_LETTERS : PySem.W.nsIn K mainGlobals "SMALL_LETTERS" = some (some (.str "abcdefghijklmnopqrstuvwxyz" ct_SMALL_LETTERS)))
  (g_LONGEST_NAME : PySem.W.nsIn K mainGlobals "LONGEST_NAME" = some (some (.int 8 ct_LONGEST_NAME)))
  (g_ZERO : PySem.W.nsIn K mainGlobals "ZERO" = some (some (.ref ZERO)))
  (h_ZERO : K.lookup ZERO = some ⟨.type "tuple", cd_ZERO, .seq #[.int 0 ct0_ZERO, .int 1 ct1_ZERO] cn_ZERO, cs_ZERO⟩)
  (x_Twice : PySem.W.excIn K Twice [.type "ValueError", .type "Exception", .type "BaseException", .type "object"] "ValueError.__new__" = true)
  (x_NoName : PySem.W.excIn K NoName [.type "ValueError", .type "Exception", .type "BaseException", .type "object"] "ValueError.__new__" = true)
  (x_NoPart : PySem.W.excIn K NoPart [.type "ValueError", .type "Exception", .type "BaseException", .type "object"] "ValueError.__new__" = true)
  (x_NoGap : PySem.W.excIn K NoGap [.type "ValueError", .type "Exception", .type "BaseException", .type "object"] "ValueError.__new__" = true)
  (x_InRing : PySem.W.excIn K InRing [.type "ValueError", .type "Exception", .type "BaseException", .type "object"] "ValueError.__new__" = true)
  (x_Apart : PySem.W.excIn K Apart [.type "ValueError", .type "Exception", .type "BaseException", .type "object"] "ValueError.__new__" = true)
  (mk_Part : PySem.W.makesIn K Part = true)
  (mi_Part : PySem.W.findIn K (.ref Part) "__init__" = some (some (.ref f12)))
  (mf_Part : PySem.W.isFn K (.ref f12) = true)
  (mp_Part : PySem.W.keepIn K (.ref Part) = true)
  (mk_Gap : PySem.W.makesIn K Gap = true)
  (mi_Gap : PySem.W.findIn K (.ref Gap) "__init__" = some (some (.ref f13)))
  (mf_Gap : PySem.W.isFn K (.ref f13) = true)
  (mp_Gap : PySem.W.keepIn K (.ref Gap) = true)
  (mk_Joints : PySem.W.makesIn K Joints = true)
  (mi_Joints : PySem.W.findIn K (.ref Joints) "__init__" = some (some (.ref f18)))
  (mf_Joints : PySem.W.isFn K (.ref f18) = true)
  (mp_Joints : PySem.W.keepIn K (.ref Joints) = true)
  (mk_Thing : PySem.W.makesIn K Thing = true)
  (mi_Thing : PySem.W.findIn K (.ref Thing) "__init__" = some (some (.ref f21)))
  (mf_Thing : PySem.W.isFn K (.ref f21) = true)
  (mp_Thing : PySem.W.keepIn K (.ref Thing) = true)
  (me_link_Joints : PySem.W.findIn K (.ref Joints) "link" = some (some (.ref f19)))
  (mm_link_Joints : PySem.W.isFn K (.ref f19) = true)
  (me_way_between_Joints : PySem.W.findIn K (.ref Joints) "way_between" = some (some (.ref f20)))
  (mm_way_between_Joints : PySem.W.isFn K (.ref f20) = true)
  (me_way_Thing : PySem.W.findIn K (.ref Thing) "way" = some (some (.ref f22)))
  (mm_way_Thing : PySem.W.isFn K (.ref f22) = true)
  (me_middle_Thing : PySem.W.findIn K (.ref Thing) "middle" = some (some (.ref f23)))
  (mm_middle_Thing : PySem.W.isFn K (.ref f23) = true)
  (me_room_Thing : PySem.W.findIn K (.ref Thing) "room" = some (some (.ref f24)))
  (mm_room_Thing : PySem.W.isFn K (.ref f24) = true)
  (cl1_Part : PySem.W.plainGet K Part Str.empty = true)
  (cl2_Part : PySem.W.hasDictIn K Part = true)
  (cl3_Part : PySem.W.plainOver K Part = true)
  (cl4_Part : PySem.W.findIn K (.ref Part) "__setattr__" = some (some (.builtin "object.__setattr__")))
  (na1_Part : PySem.W.findIn K (.ref Part) "name" = some none)
  (na2_Part : PySem.W.findIn K (.ref Part) "start" = some none)
  (na3_Part : PySem.W.findIn K (.ref Part) "end" = some none)
  (na4_Part : PySem.W.findIn K (.ref Part) "size" = some none)
  (na5_Part : PySem.W.findIn K (.ref Part) "most" = some none)
  (na6_Part : PySem.W.findIn K (.ref Part) "weight" = some none)
  (cl1_Gap : PySem.W.plainGet K Gap Str.empty = true)
  (cl2_Gap : PySem.W.hasDictIn K Gap = true)
  (cl3_Gap : PySem.W.plainOver K Gap = true)
  (cl4_Gap : PySem.W.findIn K (.ref Gap) "__setattr__" = some (some (.builtin "object.__setattr__")))
  (na1_Gap : PySem.W.findIn K (.ref Gap) "name" = some none)
  (na2_Gap : PySem.W.findIn K (.ref Gap) "one" = some none)
  (na3_Gap : PySem.W.findIn K (.ref Gap) "other" = some none)
  (na4_Gap : PySem.W.findIn K (.ref Gap) "low" = some none)
  (na5_Gap : PySem.W.findIn K (.ref Gap) "high" = some none)
  (cl1_Joints : PySem.W.plainGet K Joints Str.empty = true)
  (cl2_Joints : PySem.W.hasDictIn K Joints = true)
  (cl3_Joints : PySem.W.plainOver K Joints = true)
  (cl4_Joints : PySem.W.findIn K (.ref Joints) "__setattr__" = some (some (.builtin "object.__setattr__")))
  (na1_Joints : PySem.W.findIn K (.ref Joints) "leads" = some none)
  (cl1_Thing : PySem.W.plainGet K Thing Str.empty = true)
  (cl2_Thing : PySem.W.hasDictIn K Thing = true)
  (cl3_Thing : PySem.W.plainOver K Thing = true)
  (cl4_Thing : PySem.W.findIn K (.ref Thing) "__setattr__" = some (some (.builtin "object.__setattr__")))
  (na1_Thing : PySem.W.findIn K (.ref Thing) "parts_by_name" = some none)
  (na2_Thing : PySem.W.findIn K (.ref Thing) "gaps_by_name" = some none)
  (na3_Thing : PySem.W.findIn K (.ref Thing) "ways" = some none)
  (y1 : PySem.W.hasDictIn K SlackError = true)
  (y2 : PySem.W.typeIn K (.ref SlackError) = some (.type "type"))
  (y3 : PySem.W.mroIn K SlackError (.type "BaseException") = some true)
  (y4 : PySem.W.mroIn K NoName (.ref SlackError) = some true)
  (xc1 : PySem.W.hasDictIn K NoName = true)
  (xc2 : PySem.W.findIn K (.ref NoName) "__getattribute__" = some (some (.builtin "BaseException.__getattribute__")))
  (xc3 : PySem.W.findIn K (.ref NoName) "__getattr__" = some none)
  (xc4 : PySem.W.findIn K (.ref NoName) "__class__" = some (some (.builtin "object.__class__")))
  (xc5 : PySem.W.specialIn K (.builtin "object.__class__") "__get__" = some (some (.builtin "getset_descriptor.__get__")))
  (xc6 : PySem.W.takesIn K (.builtin "object.__class__") = some true)
  (xc7 : PySem.W.mroIn K NoName (.type "object") = some true)
  (xc8 : PySem.W.mroIn K NoName (.type "BaseException") = some true)
  (kB : PySem.W.kitOne K (.ref NoName) (.ref NoName) = some true)
  (kV : PySem.W.kitOne K (.ref NoName) (.type "ValueError") = some true)
  (k_NoGap : PySem.W.kitOne K (.ref NoName) (.ref NoGap) = some false)
  (k_NoPart : PySem.W.kitOne K (.ref NoName) (.ref NoPart) = some false)
  (k_Twice : PySem.W.kitOne K (.ref NoName) (.ref Twice) = some false)
  (k_NoFace : PySem.W.kitOne K (.ref NoName) (.ref NoFace) = some false)
  (k_NoRow : PySem.W.kitOne K (.ref NoName) (.ref NoRow) = some false)
  : ∃ fd : FuncData, (∀ (s : Shared) (v : Value), BindsTo s fd ⟨[v], []⟩ [("_law_script", v)]) ∧ ∀ base : Heap, K.In base → base.Ns mainGlobals mg → FnOk l.prog w K mg base (CX1 l.prog w) 11 fa fd ["_law_script"] (sp_law K) := by
 have e := hfa.symm.trans (PySem.W.mg_of X G a36)
 cases e
 have T : Txt K mg ⟨SlackError, NoFace, NoRow, Twice, NoName, NoPart, NoGap, InRing, Apart, Part, Gap, Joints, Thing, (.str "abcdefghijklmnopqrstuvwxyz" ct_SMALL_LETTERS), (.int 8 ct_LONGEST_NAME), ZERO⟩ := ⟨PySem.W.mg_none_of X G z_abs, PySem.W.mg_none_of X G z_isinstance, PySem.W.mg_none_of X G z_len, PySem.W.mg_none_of X G z_int, PySem.W.mg_none_of X G z_bool, PySem.W.mg_none_of X G z_tuple, PySem.W.mg_none_of X G z_str, PySem.W.mg_none_of X G z_range, PySem.W.mg_none_of X G z_list, PySem.W.mg_none_of X G z_min, PySem.W.mg_none_of X G z_sorted, PySem.W.mg_none_of X G z_all, PySem.W.mg_none_of X G z_ValueError, PySem.W.mg_of X G g_SlackError, PySem.W.mg_of X G g_NoFace, PySem.W.mg_of X G g_NoRow, PySem.W.mg_of X G g_Twice, PySem.W.mg_of X G g_NoName, PySem.W.mg_of X G g_NoPart, PySem.W.mg_of X G g_NoGap, PySem.W.mg_of X G g_InRing, PySem.W.mg_of X G g_Apart, PySem.W.mg_of X G g_Part, PySem.W.mg_of X G g_Gap, PySem.W.mg_of X G g_Joints, PySem.W.mg_of X G g_Thing, PySem.W.mg_of X G g_SMALL_LETTERS, ⟨_, rfl⟩, PySem.W.mg_of X G g_LONGEST_NAME, ⟨_, rfl⟩, PySem.W.mg_of X G g_ZERO, rfl, fun H => .inr ⟨_, _, _, h_ZERO, rfl, rfl, by show 2 ≤ sizeLine; decide, .cons ⟨_, rfl⟩ (.cons ⟨_, rfl⟩ (.nil))⟩, x_Twice, x_NoName, x_NoPart, x_NoGap, x_InRing, x_Apart, cl1_Part, cl2_Part, cl3_Part, cl4_Part, na1_Part, na2_Part, na3_Part, na4_Part, na5_Part, na6_Part, cl1_Gap, cl2_Gap, cl3_Gap, cl4_Gap, na1_Gap, na2_Gap, na3_Gap, na4_Gap, na5_Gap, cl1_Joints, cl2_Joints, cl3_Joints, cl4_Joints, na1_Joints, cl1_Thing, cl2_Thing, cl3_Thing, cl4_Thing, na1_Thing, na2_Thing, na3_Thing, y1, y2, y3, y4, xc1, xc2, xc3, xc4, xc5, xc6, xc7, xc8, kB, kV, k_NoGap, k_NoPart, k_Twice, k_NoFace, k_NoRow, (fun C hC => by cases hC; exact ⟨⟨cl1_Part, cl2_Part, cl3_Part, cl4_Part⟩, na1_Part, na2_Part, na3_Part, na4_Part, na5_Part, na6_Part⟩), (fun C hC => by cases hC; exact ⟨⟨cl1_Gap, cl2_Gap, cl3_Gap, cl4_Gap⟩, na1_Gap, na2_Gap, na3_Gap, na4_Gap, na5_Gap⟩), (fun C hC => by cases hC; exact ⟨⟨cl1_Joints, cl2_Joints, cl3_Joints, cl4_Joints⟩, na1_Joints⟩), (fun C hC => by cases hC; exact ⟨⟨cl1_Thing, cl2_Thing, cl3_Thing, cl4_Thing⟩, na1_Thing, na2_Thing, na3_Thing⟩)⟩
 have F1 := funD_mk (st := s_common_divisor) l1 c1 k1
 have b1 := F1.binds (ps := ["one", "other"]) fun _ _ _ _ _ _ us hl => match us, hl with | [_, _], _ => rfl
 have F2 := funD_mk (st := s_plus) l2 c2 k2
 have b2 := F2.binds (ps := ["one", "other"]) fun _ _ _ _ _ _ us hl => match us, hl with | [_, _], _ => rfl
 have F3 := funD_mk (st := s_minus) l3 c3 k3
 have b3 := F3.binds (ps := ["one", "other"]) fun _ _ _ _ _ _ us hl => match us, hl with | [_, _], _ => rfl
 have F4 := funD_mk (st := s_under) l4 c4 k4
 have b4 := F4.binds (ps := ["one", "other"]) fun _ _ _ _ _ _ us hl => match us, hl with | [_, _], _ => rfl
 have F5 := funD_mk (st := s_is_name) l5 c5 k5
 have b5 := F5.binds (ps := ["thing"]) fun _ _ _ _ _ _ us hl => match us, hl with | [_], _ => rfl
 have F6 := funD_mk (st := s_is_whole) l6 c6 k6
 have b6 := F6.binds (ps := ["thing"]) fun _ _ _ _ _ _ us hl => match us, hl with | [_], _ => rfl
 have F7 := funD_mk (st := s_is_fraction) l7 c7 k7
 have b7 := F7.binds (ps := ["thing"]) fun _ _ _ _ _ _ us hl => match us, hl with | [_], _ => rfl
 have F8 := funD_mk (st := s_is_bound) l8 c8 k8
 have b8 := F8.binds (ps := ["thing"]) fun _ _ _ _ _ _ us hl => match us, hl with | [_], _ => rfl
 have F9 := funD_mk (st := s_are_faces) l9 c9 k9
 have b9 := F9.binds (ps := ["one", "other"]) fun _ _ _ _ _ _ us hl => match us, hl with | [_, _], _ => rfl
 have F10 := funD_mk (st := s_are_bounds) l10 c10 k10
 have b10 := F10.binds (ps := ["least", "greatest"]) fun _ _ _ _ _ _ us hl => match us, hl with | [_, _], _ => rfl
 have F11 := funD_mk (st := s_is_tie) l11 c11 k11
 have b11 := F11.binds (ps := ["thing"]) fun _ _ _ _ _ _ us hl => match us, hl with | [_], _ => rfl
 have F12 := funD_mk (st := s_Partuu_inituu) l12 c12 k12
 have b12 := F12.binds (ps := ["self", "row"]) fun _ _ _ _ _ _ us hl => match us, hl with | [_, _], _ => rfl
 have F13 := funD_mk (st := s_Gapuu_inituu) l13 c13 k13
 have b13 := F13.binds (ps := ["self", "row"]) fun _ _ _ _ _ _ us hl => match us, hl with | [_, _], _ => rfl
 have F14 := funD_mk (st := s_is_part) l14 c14 k14
 have b14 := F14.binds (ps := ["thing"]) fun _ _ _ _ _ _ us hl => match us, hl with | [_], _ => rfl
 have F15 := funD_mk (st := s_is_gap) l15 c15 k15
 have b15 := F15.binds (ps := ["thing"]) fun _ _ _ _ _ _ us hl => match us, hl with | [_], _ => rfl
 have F16 := funD_mk (st := s_part_of) l16 c16 k16
 have b16 := F16.binds (ps := ["thing"]) fun _ _ _ _ _ _ us hl => match us, hl with | [_], _ => rfl
 have F17 := funD_mk (st := s_gap_of) l17 c17 k17
 have b17 := F17.binds (ps := ["thing"]) fun _ _ _ _ _ _ us hl => match us, hl with | [_], _ => rfl
 have F18 := funD_mk (st := s_Jointsuu_inituu) l18 c18 k18
 have b18 := F18.binds (ps := ["self"]) fun _ _ _ _ _ _ us hl => match us, hl with | [_], _ => rfl
 have F19 := funD_mk (st := s_Joints_link) l19 c19 k19
 have b19 := F19.binds (ps := ["self", "part"]) fun _ _ _ _ _ _ us hl => match us, hl with | [_, _], _ => rfl
 have F20 := funD_mk (st := s_Joints_way_between) l20 c20 k20
 have b20 := F20.binds (ps := ["self", "one", "other"]) fun _ _ _ _ _ _ us hl => match us, hl with | [_, _, _], _ => rfl
 have F21 := funD_mk (st := s_Thinguu_inituu) l21 c21 k21
 have b21 := F21.binds (ps := ["self", "parts", "gaps"]) fun _ _ _ _ _ _ us hl => match us, hl with | [_, _, _], _ => rfl
 have F22 := funD_mk (st := s_Thing_way) l22 c22 k22
 have b22 := F22.binds (ps := ["self", "name"]) fun _ _ _ _ _ _ us hl => match us, hl with | [_, _], _ => rfl
 have F23 := funD_mk (st := s_Thing_middle) l23 c23 k23
 have b23 := F23.binds (ps := ["self", "name"]) fun _ _ _ _ _ _ us hl => match us, hl with | [_, _], _ => rfl
 have F24 := funD_mk (st := s_Thing_room) l24 c24 k24
 have b24 := F24.binds (ps := ["self", "name"]) fun _ _ _ _ _ _ us hl => match us, hl with | [_, _], _ => rfl
 have F25 := funD_mk (st := s_law_cell) l25 c25 k25
 have b25 := F25.binds (ps := ["_law_script", "_law_k"]) fun _ _ _ _ _ _ us hl => match us, hl with | [_, _], _ => rfl
 have F26 := funD_mk (st := s_law_signed) l26 c26 k26
 have b26 := F26.binds (ps := ["_law_cell_here", "_law_most"]) fun _ _ _ _ _ _ us hl => match us, hl with | [_, _], _ => rfl
 have F27 := funD_mk (st := s_law_low) l27 c27 k27
 have b27 := F27.binds (ps := ["_law_top", "_law_bottom"]) fun _ _ _ _ _ _ us hl => match us, hl with | [_, _], _ => rfl
 have F28 := funD_mk (st := s_law_plus) l28 c28 k28
 have b28 := F28.binds (ps := ["_law_one", "_law_other", "_law_sign"]) fun _ _ _ _ _ _ us hl => match us, hl with | [_, _, _], _ => rfl
 have F29 := funD_mk (st := s_law_name) l29 c29 k29
 have b29 := F29.binds (ps := ["_law_k", "_law_sign", "_law_style"]) fun _ _ _ _ _ _ us hl => match us, hl with | [_, _, _], _ => rfl
 have F30 := funD_mk (st := s_law_parts) l30 c30 k30
 have b30 := F30.binds (ps := ["_law_script", "_law_style"]) fun _ _ _ _ _ _ us hl => match us, hl with | [_, _], _ => rfl
 have F31 := funD_mk (st := s_law_gaps) l31 c31 k31
 have b31 := F31.binds (ps := ["_law_script", "_law_spots", "_law_style"]) fun _ _ _ _ _ _ us hl => match us, hl with | [_, _, _], _ => rfl
 have F32 := funD_mk (st := s_law_listed) l32 c32 k32
 have b32 := F32.binds (ps := ["_law_script", "_law_parts_here"]) fun _ _ _ _ _ _ us hl => match us, hl with | [_, _], _ => rfl
 have F33 := funD_mk (st := s_law_unlike) l33 c33 k33
 have b33 := F33.binds (ps := ["_law_gaps_here"]) fun _ _ _ _ _ _ us hl => match us, hl with | [_], _ => rfl
 have F34 := funD_mk (st := s_law_walked) l34 c34 k34
 have b34 := F34.binds (ps := ["_law_found", "_law_gap", "_law_parts_here"]) fun _ _ _ _ _ _ us hl => match us, hl with | [_, _, _], _ => rfl
 have F35 := funD_mk (st := s_law_refused) l35 c35 k35
 have b35 := F35.binds (ps := ["_law_thing", "_law_name_here", "_law_way"]) fun _ _ _ _ _ _ us hl => match us, hl with | [_, _, _], _ => rfl
 have F36 := funD_mk (st := s_law) l36 c36 k36
 have b36 := F36.binds (ps := ["_law_script"]) fun _ _ _ _ _ _ us hl => match us, hl with | [_], _ => rfl
 refine ⟨PySem.W.fnOf "law" "law" (defArgs s_law) (defBody s_law) (defScope s_law) .none kV36 dc36 pm36 an36 cd36 ct36, fun s v => .of_eq rfl, fun base _ _ => ?_⟩
 have K1 := ok_common_divisor (P := l.prog) (w := w) (base := base) F1 T
 have c_common_divisor : Cal l.prog w K mg base 1 "common_divisor" ["one", "other"] [] (sp_common_divisor) := ⟨f1, _, [], K1, PySem.W.mg_of X G a1, k1, b1, .nil⟩
 have K2 := ok_plus (P := l.prog) (w := w) (base := base) F2 T c_common_divisor
 have c_plus : Cal l.prog w K mg base 2 "plus" ["one", "other"] [] (sp_plus K) := ⟨f2, _, [], K2, PySem.W.mg_of X G a2, k2, b2, .nil⟩
 have K3 := ok_minus (P := l.prog) (w := w) (base := base) F3 T c_plus
 have c_minus : Cal l.prog w K mg base 3 "minus" ["one", "other"] [] (sp_minus K) := ⟨f3, _, [], K3, PySem.W.mg_of X G a3, k3, b3, .nil⟩
 have K4 := ok_under (P := l.prog) (w := w) (base := base) F4 T
 have c_under : Cal l.prog w K mg base 1 "under" ["one", "other"] [] (sp_under K) := ⟨f4, _, [], K4, PySem.W.mg_of X G a4, k4, b4, .nil⟩
 have K5 := ok_is_name (P := l.prog) (w := w) (base := base) F5 T
 have c_is_name : Cal l.prog w K mg base 1 "is_name" ["thing"] [] (sp_is_name K) := ⟨f5, _, [], K5, PySem.W.mg_of X G a5, k5, b5, .nil⟩
 have K6 := ok_is_whole (P := l.prog) (w := w) (base := base) F6 T
 have c_is_whole : Cal l.prog w K mg base 1 "is_whole" ["thing"] [] (sp_is_whole K) := ⟨f6, _, [], K6, PySem.W.mg_of X G a6, k6, b6, .nil⟩
 have K7 := ok_is_fraction (P := l.prog) (w := w) (base := base) F7 T c_is_whole c_common_divisor
 have c_is_fraction : Cal l.prog w K mg base 2 "is_fraction" ["thing"] [] (sp_is_fraction K) := ⟨f7, _, [], K7, PySem.W.mg_of X G a7, k7, b7, .nil⟩
 have K8 := ok_is_bound (P := l.prog) (w := w) (base := base) F8 T c_is_fraction
 have c_is_bound : Cal l.prog w K mg base 3 "is_bound" ["thing"] [] (sp_is_bound K) := ⟨f8, _, [], K8, PySem.W.mg_of X G a8, k8, b8, .nil⟩
 have K9 := ok_are_faces (P := l.prog) (w := w) (base := base) F9 T c_is_name
 have c_are_faces : Cal l.prog w K mg base 2 "are_faces" ["one", "other"] [] (sp_are_faces K) := ⟨f9, _, [], K9, PySem.W.mg_of X G a9, k9, b9, .nil⟩
 have K10 := ok_are_bounds (P := l.prog) (w := w) (base := base) F10 T c_is_bound c_under
 have c_are_bounds : Cal l.prog w K mg base 4 "are_bounds" ["least", "greatest"] [] (sp_are_bounds K) := ⟨f10, _, [], K10, PySem.W.mg_of X G a10, k10, b10, .nil⟩
 have K11 := ok_is_tie (P := l.prog) (w := w) (base := base) F11 T c_is_name c_are_faces c_are_bounds
 have c_is_tie : Cal l.prog w K mg base 5 "is_tie" ["thing"] [] (sp_is_tie K) := ⟨f11, _, [], K11, PySem.W.mg_of X G a11, k11, b11, .nil⟩
 have K12 := ok_Partuu_inituu (P := l.prog) (w := w) (base := base) F12 T
 have k_Part : KCal l.prog w K mg base 1 "Part" Part ["self", "row"] (sp_Partuu_inituu K) := ⟨f12, _, K12, PySem.W.mg_of X G g_Part, ⟨mk_Part, mi_Part, mf_Part, mp_Part⟩, b12⟩
 have K13 := ok_Gapuu_inituu (P := l.prog) (w := w) (base := base) F13 T
 have k_Gap : KCal l.prog w K mg base 1 "Gap" Gap ["self", "row"] (sp_Gapuu_inituu K) := ⟨f13, _, K13, PySem.W.mg_of X G g_Gap, ⟨mk_Gap, mi_Gap, mf_Gap, mp_Gap⟩, b13⟩
 have K14 := ok_is_part (P := l.prog) (w := w) (base := base) F14 T c_is_name c_are_faces c_is_fraction c_is_whole c_under
 have c_is_part : Cal l.prog w K mg base 5 "is_part" ["thing"] [] (sp_is_part K) := ⟨f14, _, [], K14, PySem.W.mg_of X G a14, k14, b14, .nil⟩
 have K15 := ok_is_gap (P := l.prog) (w := w) (base := base) F15 T c_is_tie
 have c_is_gap : Cal l.prog w K mg base 6 "is_gap" ["thing"] [] (sp_is_gap K) := ⟨f15, _, [], K15, PySem.W.mg_of X G a15, k15, b15, .nil⟩
 have K16 := ok_part_of (P := l.prog) (w := w) (base := base) F16 T c_is_part k_Part
 have c_part_of : Cal l.prog w K mg base 6 "part_of" ["thing"] [] (sp_part_of K ⟨SlackError, NoFace, NoRow, Twice, NoName, NoPart, NoGap, InRing, Apart, Part, Gap, Joints, Thing, (.str "abcdefghijklmnopqrstuvwxyz" ct_SMALL_LETTERS), (.int 8 ct_LONGEST_NAME), ZERO⟩) := ⟨f16, _, [], K16, PySem.W.mg_of X G a16, k16, b16, .nil⟩
 have K17 := ok_gap_of (P := l.prog) (w := w) (base := base) F17 T c_is_gap k_Gap
 have c_gap_of : Cal l.prog w K mg base 7 "gap_of" ["thing"] [] (sp_gap_of K ⟨SlackError, NoFace, NoRow, Twice, NoName, NoPart, NoGap, InRing, Apart, Part, Gap, Joints, Thing, (.str "abcdefghijklmnopqrstuvwxyz" ct_SMALL_LETTERS), (.int 8 ct_LONGEST_NAME), ZERO⟩) := ⟨f17, _, [], K17, PySem.W.mg_of X G a17, k17, b17, .nil⟩
 have K18 := ok_Jointsuu_inituu (P := l.prog) (w := w) (base := base) F18 T
 have k_Joints : KCal l.prog w K mg base 1 "Joints" Joints ["self"] (sp_Jointsuu_inituu K ⟨SlackError, NoFace, NoRow, Twice, NoName, NoPart, NoGap, InRing, Apart, Part, Gap, Joints, Thing, (.str "abcdefghijklmnopqrstuvwxyz" ct_SMALL_LETTERS), (.int 8 ct_LONGEST_NAME), ZERO⟩) := ⟨f18, _, K18, PySem.W.mg_of X G g_Joints, ⟨mk_Joints, mi_Joints, mf_Joints, mp_Joints⟩, b18⟩
 have K19 := ok_Joints_link (P := l.prog) (w := w) (base := base) F19 T
 have m_link : MCal l.prog w K mg base 1 "link" (IsJoints ⟨SlackError, NoFace, NoRow, Twice, NoName, NoPart, NoGap, InRing, Apart, Part, Gap, Joints, Thing, (.str "abcdefghijklmnopqrstuvwxyz" ct_SMALL_LETTERS), (.int 8 ct_LONGEST_NAME), ZERO⟩) ["self", "part"] (sp_Joints_link K ⟨SlackError, NoFace, NoRow, Twice, NoName, NoPart, NoGap, InRing, Apart, Part, Gap, Joints, Thing, (.str "abcdefghijklmnopqrstuvwxyz" ct_SMALL_LETTERS), (.int 8 ct_LONGEST_NAME), ZERO⟩) := ⟨f19, _, K19, fun C hC => ⟨(T.c_Joints C hC).cls, (by cases hC; exact ⟨me_link_Joints, mm_link_Joints, k19⟩)⟩, k19, b19⟩
 have K20 := ok_Joints_way_between (P := l.prog) (w := w) (base := base) F20 T
 have m_way_between : MCal l.prog w K mg base 1 "way_between" (IsJoints ⟨SlackError, NoFace, NoRow, Twice, NoName, NoPart, NoGap, InRing, Apart, Part, Gap, Joints, Thing, (.str "abcdefghijklmnopqrstuvwxyz" ct_SMALL_LETTERS), (.int 8 ct_LONGEST_NAME), ZERO⟩) ["self", "one", "other"] (sp_Joints_way_between K ⟨SlackError, NoFace, NoRow, Twice, NoName, NoPart, NoGap, InRing, Apart, Part, Gap, Joints, Thing, (.str "abcdefghijklmnopqrstuvwxyz" ct_SMALL_LETTERS), (.int 8 ct_LONGEST_NAME), ZERO⟩) := ⟨f20, _, K20, fun C hC => ⟨(T.c_Joints C hC).cls, (by cases hC; exact ⟨me_way_between_Joints, mm_way_between_Joints, k20⟩)⟩, k20, b20⟩
 have K21 := ok_Thinguu_inituu (P := l.prog) (w := w) (base := base) F21 T k_Joints c_part_of c_gap_of m_way_between m_link
 have k_Thing : KCal l.prog w K mg base 9 "Thing" Thing ["self", "parts", "gaps"] (sp_Thinguu_inituu K ⟨SlackError, NoFace, NoRow, Twice, NoName, NoPart, NoGap, InRing, Apart, Part, Gap, Joints, Thing, (.str "abcdefghijklmnopqrstuvwxyz" ct_SMALL_LETTERS), (.int 8 ct_LONGEST_NAME), ZERO⟩) := ⟨f21, _, K21, PySem.W.mg_of X G g_Thing, ⟨mk_Thing, mi_Thing, mf_Thing, mp_Thing⟩, b21⟩
 have K22 := ok_Thing_way (P := l.prog) (w := w) (base := base) F22 T
 have m_way : MCal l.prog w K mg base 1 "way" (IsThing ⟨SlackError, NoFace, NoRow, Twice, NoName, NoPart, NoGap, InRing, Apart, Part, Gap, Joints, Thing, (.str "abcdefghijklmnopqrstuvwxyz" ct_SMALL_LETTERS), (.int 8 ct_LONGEST_NAME), ZERO⟩) ["self", "name"] (sp_Thing_way K ⟨SlackError, NoFace, NoRow, Twice, NoName, NoPart, NoGap, InRing, Apart, Part, Gap, Joints, Thing, (.str "abcdefghijklmnopqrstuvwxyz" ct_SMALL_LETTERS), (.int 8 ct_LONGEST_NAME), ZERO⟩) := ⟨f22, _, K22, fun C hC => ⟨(T.c_Thing C hC).cls, (by cases hC; exact ⟨me_way_Thing, mm_way_Thing, k22⟩)⟩, k22, b22⟩
 have K23 := ok_Thing_middle (P := l.prog) (w := w) (base := base) F23 T m_way c_plus c_minus
 have m_middle : MCal l.prog w K mg base 4 "middle" (IsThing ⟨SlackError, NoFace, NoRow, Twice, NoName, NoPart, NoGap, InRing, Apart, Part, Gap, Joints, Thing, (.str "abcdefghijklmnopqrstuvwxyz" ct_SMALL_LETTERS), (.int 8 ct_LONGEST_NAME), ZERO⟩) ["self", "name"] (sp_Thing_middle K ⟨SlackError, NoFace, NoRow, Twice, NoName, NoPart, NoGap, InRing, Apart, Part, Gap, Joints, Thing, (.str "abcdefghijklmnopqrstuvwxyz" ct_SMALL_LETTERS), (.int 8 ct_LONGEST_NAME), ZERO⟩) := ⟨f23, _, K23, fun C hC => ⟨(T.c_Thing C hC).cls, (by cases hC; exact ⟨me_middle_Thing, mm_middle_Thing, k23⟩)⟩, k23, b23⟩
 have K24 := ok_Thing_room (P := l.prog) (w := w) (base := base) F24 T m_middle c_minus c_under
 have m_room : MCal l.prog w K mg base 5 "room" (IsThing ⟨SlackError, NoFace, NoRow, Twice, NoName, NoPart, NoGap, InRing, Apart, Part, Gap, Joints, Thing, (.str "abcdefghijklmnopqrstuvwxyz" ct_SMALL_LETTERS), (.int 8 ct_LONGEST_NAME), ZERO⟩) ["self", "name"] (sp_Thing_room K ⟨SlackError, NoFace, NoRow, Twice, NoName, NoPart, NoGap, InRing, Apart, Part, Gap, Joints, Thing, (.str "abcdefghijklmnopqrstuvwxyz" ct_SMALL_LETTERS), (.int 8 ct_LONGEST_NAME), ZERO⟩) := ⟨f24, _, K24, fun C hC => ⟨(T.c_Thing C hC).cls, (by cases hC; exact ⟨me_room_Thing, mm_room_Thing, k24⟩)⟩, k24, b24⟩
 have K25 := ok_law_cell (P := l.prog) (w := w) (base := base) F25 T
 have c_law_cell : Cal l.prog w K mg base 1 "_law_cell" ["_law_script", "_law_k"] [] (sp_law_cell K) := ⟨f25, _, [], K25, PySem.W.mg_of X G a25, k25, b25, .nil⟩
 have K26 := ok_law_signed (P := l.prog) (w := w) (base := base) F26 T
 have c_law_signed : Cal l.prog w K mg base 1 "_law_signed" ["_law_cell_here", "_law_most"] [] (sp_law_signed) := ⟨f26, _, [], K26, PySem.W.mg_of X G a26, k26, b26, .nil⟩
 have K27 := ok_law_low (P := l.prog) (w := w) (base := base) F27 T
 have c_law_low : Cal l.prog w K mg base 1 "_law_low" ["_law_top", "_law_bottom"] [] (sp_law_low) := ⟨f27, _, [], K27, PySem.W.mg_of X G a27, k27, b27, .nil⟩
 have K28 := ok_law_plus (P := l.prog) (w := w) (base := base) F28 T c_law_low
 have c_law_plus : Cal l.prog w K mg base 2 "_law_plus" ["_law_one", "_law_other", "_law_sign"] [] (sp_law_plus K) := ⟨f28, _, [], K28, PySem.W.mg_of X G a28, k28, b28, .nil⟩
 have K29 := ok_law_name (P := l.prog) (w := w) (base := base) F29 T
 have c_law_name : Cal l.prog w K mg base 1 "_law_name" ["_law_k", "_law_sign", "_law_style"] [] (sp_law_name) := ⟨f29, _, [], K29, PySem.W.mg_of X G a29, k29, b29, .nil⟩
 have K30 := ok_law_parts (P := l.prog) (w := w) (base := base) F30 T c_law_cell c_law_name c_law_low c_law_signed c_law_plus
 have c_law_parts : Cal l.prog w K mg base 3 "_law_parts" ["_law_script", "_law_style"] [] (sp_law_parts K) := ⟨f30, _, [], K30, PySem.W.mg_of X G a30, k30, b30, .nil⟩
 have K31 := ok_law_gaps (P := l.prog) (w := w) (base := base) F31 T c_law_cell c_law_name c_law_low c_law_plus
 have c_law_gaps : Cal l.prog w K mg base 3 "_law_gaps" ["_law_script", "_law_spots", "_law_style"] [] (sp_law_gaps K) := ⟨f31, _, [], K31, PySem.W.mg_of X G a31, k31, b31, .nil⟩
 have K32 := ok_law_listed (P := l.prog) (w := w) (base := base) F32 T c_law_cell
 have c_law_listed : Cal l.prog w K mg base 2 "_law_listed" ["_law_script", "_law_parts_here"] [] (sp_law_listed K) := ⟨f32, _, [], K32, PySem.W.mg_of X G a32, k32, b32, .nil⟩
 have K33 := ok_law_unlike (P := l.prog) (w := w) (base := base) F33 T
 have c_law_unlike : Cal l.prog w K mg base 1 "_law_unlike" ["_law_gaps_here"] [] (sp_law_unlike K) := ⟨f33, _, [], K33, PySem.W.mg_of X G a33, k33, b33, .nil⟩
 have K34 := ok_law_walked (P := l.prog) (w := w) (base := base) F34 T
 have c_law_walked : Cal l.prog w K mg base 1 "_law_walked" ["_law_found", "_law_gap", "_law_parts_here"] [] (sp_law_walked K) := ⟨f34, _, [], K34, PySem.W.mg_of X G a34, k34, b34, .nil⟩
 have K35 := ok_law_refused (P := l.prog) (w := w) (base := base) F35 T m_way m_middle m_room
 have c_law_refused : Cal l.prog w K mg base 6 "_law_refused" ["_law_thing", "_law_name_here", "_law_way"] [] (sp_law_refused K ⟨SlackError, NoFace, NoRow, Twice, NoName, NoPart, NoGap, InRing, Apart, Part, Gap, Joints, Thing, (.str "abcdefghijklmnopqrstuvwxyz" ct_SMALL_LETTERS), (.int 8 ct_LONGEST_NAME), ZERO⟩) := ⟨f35, _, [], K35, PySem.W.mg_of X G a35, k35, b35, .nil⟩
 exact ok_law F36 T c_law_cell c_law_parts c_law_listed c_law_gaps c_law_unlike k_Thing m_way c_law_walked c_law_refused
theorem walk {l : PySem.W.OpenLaw} {q : Program} {loose : List Str} {XP : (Str → Option Value) → Heap → Prop} {YP : World → Heap → Prop} {d : DefRec} {K : Params → PySem.W.Frag} (hn : l.most = some 63) (hdf : d.params.defaults = [])
  (hY : ∀ (w : World) (h : Heap), YP w h → (K w.params).In h)
  (F : ∀ (w : World) (mg : Str → Option Value) (fa : Addr) (h : Heap), (K w.params).In h → h.Ns mainGlobals mg → mg d.name = some (.ref fa) →
   ∃ fd : FuncData, (∀ (s : Shared) (u : Value), BindsTo s fd ⟨[u], []⟩ [("_law_script", u)]) ∧ ∀ base : Heap, (K w.params).In base → base.Ns mainGlobals mg → FnOk l.prog w (K w.params) mg base (CX1 l.prog w) 11 fa fd ["_law_script"] (sp_law (K w.params))) :
  PySem.W.WalkO q loose XP YP l.row.toRowW d [] (fun f vs => PySem.call f vs) :=
 L2.walk_of (n := 63) (k := 11) (x := "_law_script") (CX := fun w => CX1 l.prog w) (sp := fun w => sp_law (K w.params)) hn (by decide) hdf ⟨rfl, by decide, by decide⟩ hY F (fun _ _ a ns hl _ hS => ⟨a, ns, rfl, hS, hl, fun _ => rfl⟩) fun _ _ _ _ _ z => by
  obtain ⟨_, _, _, _, _, _, _, _, _, _, _, z⟩ := z
  exact z
end Prg
open PySem PySem.W PyProof.Rows
def PySem.W.Fast.tw3279030538790517976 : Nat := 0
def PySem.W.Fast.tw5201494236406285660 : Nat := 0
def PySem.W.Fast.tw7550402302265460860 : Nat := 0
def PySem.W.Fast.tw4900542321146548391 : Nat := 0
def PySem.W.Fast.tw12526048028996037454 : Nat := 0
def PySem.W.Fast.tw16209147885853280782 : Nat := 0
def PySem.W.Fast.tw2841687748522003449 : Nat := 0
def PySem.W.Fast.tw6029200402229590256 : Nat := 0
def PySem.W.Fast.tw15592242949660546221 : Nat := 0
def PySem.W.Fast.tw8301625746139663284 : Nat := 0
def PySem.W.Fast.tw16195545935074942303 : Nat := 0
def PySem.W.Fast.tw16706069267604806182 : Nat := 0
def PySem.W.Fast.tw13332654653896715814 : Nat := 0
def PySem.W.Fast.tw18009012616804114513 : Nat := 0
def PySem.W.Fast.tw9227890205712560625 : Nat := 0
def PySem.W.Fast.tw3737833855534583944 : Nat := 0
def PySem.W.Fast.tw2711971566765856392 : Nat := 0
def PySem.W.Fast.tw11502938747374130330 : Nat := 0
def PySem.W.Fast.tw12558613787218891610 : Nat := 0
def PySem.W.Fast.tw16681562641693530795 : Nat := 0
def PySem.W.Fast.tw13374568631011954516 : Nat := 0
set_option maxRecDepth 100000 in
set_option maxHeartbeats 0 in
theorem PySem.Challenge.cw_slackchain_k42_ways_of_gaps_holds : PySem.Challenge.rw_slackchain_k42_ways_of_gaps.Holds := by
 w_on; o_law; k_head; (case hw => w_witness2)
 k_fill
 refine Prg.walk (l := PySem.Challenge.rw_slackchain_k42_ways_of_gaps) rfl rfl (fun w h Y => PySem.W.kIn_of Y) ?F
 case F =>
  intro w mg fa h KX G hmg
  refine' Prg.all_mk KX G hmg ?g_SlackError ?g_NoFace ?g_NoRow ?g_Twice ?g_NoName ?g_NoPart ?g_NoGap ?g_InRing ?g_Apart ?g_Part ?g_Gap ?g_Joints ?g_Thing ?a1 ?l1 ?c1 ?k1 ?a2 ?l2 ?c2 ?k2 ?a3 ?l3 ?c3 ?k3 ?a4 ?l4 ?c4 ?k4 ?a5 ?l5 ?c5 ?k5 ?a6 ?l6 ?c6 ?k6 ?a7 ?l7 ?c7 ?k7 ?a8 ?l8 ?c8 ?k8 ?a9 ?l9 ?c9 ?k9 ?a10 ?l10 ?c10 ?k10 ?a11 ?l11 ?c11 ?k11 ?a12 ?l12 ?c12 ?k12 ?a13 ?l13 ?c13 ?k13 ?a14 ?l14 ?c14 ?k14 ?a15 ?l15 ?c15 ?k15 ?a16 ?l16 ?c16 ?k16 ?a17 ?l17 ?c17 ?k17 ?a18 ?l18 ?c18 ?k18 ?a19 ?l19 ?c19 ?k19 ?a20 ?l20 ?c20 ?k20 ?a21 ?l21 ?c21 ?k21 ?a22 ?l22 ?c22 ?k22 ?a23 ?l23 ?c23 ?k23 ?a24 ?l24 ?c24 ?k24 ?a25 ?l25 ?c25 ?k25 ?a26 ?l26 ?c26 ?k26 ?a27 ?l27 ?c27 ?k27 ?a28 ?l28 ?c28 ?k28 ?a29 ?l29 ?c29 ?k29 ?a30 ?l30 ?c30 ?k30 ?a31 ?l31 ?c31 ?k31 ?a32 ?l32 ?c32 ?k32 ?a33 ?l33 ?c33 ?k33 ?a34 ?l34 ?c34 ?k34 ?a35 ?l35 ?c35 ?k35 ?a36 ?l36 ?c36 ?k36 ?z_abs ?z_isinstance ?z_len ?z_int ?z_bool ?z_tuple ?z_str ?z_range ?z_list ?z_min ?z_sorted ?z_all ?z_ValueError ?g_SMALL_LETTERS ?g_LONGEST_NAME ?g_ZERO ?h_ZERO ?x_Twice ?x_NoName ?x_NoPart ?x_NoGap ?x_InRing ?x_Apart ?mk_Part ?mi_Part ?mf_Part ?mp_Part ?mk_Gap ?mi_Gap ?mf_Gap ?mp_Gap ?mk_Joints ?mi_Joints ?mf_Joints ?mp_Joints ?mk_Thing ?mi_Thing ?mf_Thing ?mp_Thing ?me_link_Joints ?mm_link_Joints ?me_way_between_Joints ?mm_way_between_Joints ?me_way_Thing ?mm_way_Thing ?me_middle_Thing ?mm_middle_Thing ?me_room_Thing ?mm_room_Thing ?cl1_Part ?cl2_Part ?cl3_Part ?cl4_Part ?na1_Part ?na2_Part ?na3_Part ?na4_Part ?na5_Part ?na6_Part ?cl1_Gap ?cl2_Gap ?cl3_Gap ?cl4_Gap ?na1_Gap ?na2_Gap ?na3_Gap ?na4_Gap ?na5_Gap ?cl1_Joints ?cl2_Joints ?cl3_Joints ?cl4_Joints ?na1_Joints ?cl1_Thing ?cl2_Thing ?cl3_Thing ?cl4_Thing ?na1_Thing ?na2_Thing ?na3_Thing ?y1 ?y2 ?y3 ?y4 ?xc1 ?xc2 ?xc3 ?xc4 ?xc5 ?xc6 ?xc7 ?xc8 ?kB ?kV ?k_NoGap ?k_NoPart ?k_Twice ?k_NoFace ?k_NoRow
  (case g_SlackError => k_is)
  (case g_NoFace => k_is)
  (case g_NoRow => k_is)
  (case g_Twice => k_is)
  (case g_NoName => k_is)
  (case g_NoPart => k_is)
  (case g_NoGap => k_is)
  (case g_InRing => k_is)
  (case g_Apart => k_is)
  (case g_Part => k_is)
  (case g_Gap => k_is)
  (case g_Joints => k_is)
  (case g_Thing => k_is)
  (case a1 => k_is)
  (case l1 => k_is)
  (case c1 => k_is)
  (case k1 => k_is)
  (case a2 => k_is)
  (case l2 => k_is)
  (case c2 => k_is)
  (case k2 => k_is)
  (case a3 => k_is)
  (case l3 => k_is)
  (case c3 => k_is)
  (case k3 => k_is)
  (case a4 => k_is)
  (case l4 => k_is)
  (case c4 => k_is)
  (case k4 => k_is)
  (case a5 => k_is)
  (case l5 => k_is)
  (case c5 => k_is)
  (case k5 => k_is)
  (case a6 => k_is)
  (case l6 => k_is)
  (case c6 => k_is)
  (case k6 => k_is)
  (case a7 => k_is)
  (case l7 => k_is)
  (case c7 => k_is)
  (case k7 => k_is)
  (case a8 => k_is)
  (case l8 => k_is)
  (case c8 => k_is)
  (case k8 => k_is)
  (case a9 => k_is)
  (case l9 => k_is)
  (case c9 => k_is)
  (case k9 => k_is)
  (case a10 => k_is)
  (case l10 => k_is)
  (case c10 => k_is)
  (case k10 => k_is)
  (case a11 => k_is)
  (case l11 => k_is)
  (case c11 => k_is)
  (case k11 => k_is)
  (case a12 => k_is)
  (case l12 => k_is)
  (case c12 => k_is)
  (case k12 => k_is)
  (case a13 => k_is)
  (case l13 => k_is)
  (case c13 => k_is)
  (case k13 => k_is)
  (case a14 => k_is)
  (case l14 => k_is)
  (case c14 => k_is)
  (case k14 => k_is)
  (case a15 => k_is)
  (case l15 => k_is)
  (case c15 => k_is)
  (case k15 => k_is)
  (case a16 => k_is)
  (case l16 => k_is)
  (case c16 => k_is)
  (case k16 => k_is)
  (case a17 => k_is)
  (case l17 => k_is)
  (case c17 => k_is)
  (case k17 => k_is)
  (case a18 => k_is)
  (case l18 => k_is)
  (case c18 => k_is)
  (case k18 => k_is)
  (case a19 => k_is)
  (case l19 => k_is)
  (case c19 => k_is)
  (case k19 => k_is)
  (case a20 => k_is)
  (case l20 => k_is)
  (case c20 => k_is)
  (case k20 => k_is)
  (case a21 => k_is)
  (case l21 => k_is)
  (case c21 => k_is)
  (case k21 => k_is)
  (case a22 => k_is)
  (case l22 => k_is)
  (case c22 => k_is)
  (case k22 => k_is)
  (case a23 => k_is)
  (case l23 => k_is)
  (case c23 => k_is)
  (case k23 => k_is)
  (case a24 => k_is)
  (case l24 => k_is)
  (case c24 => k_is)
  (case k24 => k_is)
  (case a25 => k_is)
  (case l25 => k_is)
  (case c25 => k_is)
  (case k25 => k_is)
  (case a26 => k_is)
  (case l26 => k_is)
  (case c26 => k_is)
  (case k26 => k_is)
  (case a27 => k_is)
  (case l27 => k_is)
  (case c27 => k_is)
  (case k27 => k_is)
  (case a28 => k_is)
  (case l28 => k_is)
  (case c28 => k_is)
  (case k28 => k_is)
  (case a29 => k_is)
  (case l29 => k_is)
  (case c29 => k_is)
  (case k29 => k_is)
  (case a30 => k_is)
  (case l30 => k_is)
  (case c30 => k_is)
  (case k30 => k_is)
  (case a31 => k_is)
  (case l31 => k_is)
  (case c31 => k_is)
  (case k31 => k_is)
  (case a32 => k_is)
  (case l32 => k_is)
  (case c32 => k_is)
  (case k32 => k_is)
  (case a33 => k_is)
  (case l33 => k_is)
  (case c33 => k_is)
  (case k33 => k_is)
  (case a34 => k_is)
  (case l34 => k_is)
  (case c34 => k_is)
  (case k34 => k_is)
  (case a35 => k_is)
  (case l35 => k_is)
  (case c35 => k_is)
  (case k35 => k_is)
  (case a36 => k_is)
  (case l36 => k_is)
  (case c36 => k_is)
  (case k36 => k_is)
  (case z_abs => k_is)
  (case z_isinstance => k_is)
  (case z_len => k_is)
  (case z_int => k_is)
  (case z_bool => k_is)
  (case z_tuple => k_is)
  (case z_str => k_is)
  (case z_range => k_is)
  (case z_list => k_is)
  (case z_min => k_is)
  (case z_sorted => k_is)
  (case z_all => k_is)
  (case z_ValueError => k_is)
  (case g_SMALL_LETTERS => k_is)
  (case g_LONGEST_NAME => k_is)
  (case g_ZERO => k_is)
  (case h_ZERO => k_is)
  (case x_Twice => k_exc)
  (case x_NoName => k_exc)
  (case x_NoPart => k_exc)
  (case x_NoGap => k_exc)
  (case x_InRing => k_exc)
  (case x_Apart => k_exc)
  (case mk_Part => k_is)
  (case mi_Part => k_is)
  (case mf_Part => k_is)
  (case mp_Part => k_is)
  (case mk_Gap => k_is)
  (case mi_Gap => k_is)
  (case mf_Gap => k_is)
  (case mp_Gap => k_is)
  (case mk_Joints => k_is)
  (case mi_Joints => k_is)
  (case mf_Joints => k_is)
  (case mp_Joints => k_is)
  (case mk_Thing => k_is)
  (case mi_Thing => k_is)
  (case mf_Thing => k_is)
  (case mp_Thing => k_is)
  (case me_link_Joints => k_is)
  (case mm_link_Joints => k_is)
  (case me_way_between_Joints => k_is)
  (case mm_way_between_Joints => k_is)
  (case me_way_Thing => k_is)
  (case mm_way_Thing => k_is)
  (case me_middle_Thing => k_is)
  (case mm_middle_Thing => k_is)
  (case me_room_Thing => k_is)
  (case mm_room_Thing => k_is)
  (case cl1_Part => k_is)
  (case cl2_Part => k_is)
  (case cl3_Part => k_is)
  (case cl4_Part => k_is)
  (case na1_Part => k_is)
  (case na2_Part => k_is)
  (case na3_Part => k_is)
  (case na4_Part => k_is)
  (case na5_Part => k_is)
  (case na6_Part => k_is)
  (case cl1_Gap => k_is)
  (case cl2_Gap => k_is)
  (case cl3_Gap => k_is)
  (case cl4_Gap => k_is)
  (case na1_Gap => k_is)
  (case na2_Gap => k_is)
  (case na3_Gap => k_is)
  (case na4_Gap => k_is)
  (case na5_Gap => k_is)
  (case cl1_Joints => k_is)
  (case cl2_Joints => k_is)
  (case cl3_Joints => k_is)
  (case cl4_Joints => k_is)
  (case na1_Joints => k_is)
  (case cl1_Thing => k_is)
  (case cl2_Thing => k_is)
  (case cl3_Thing => k_is)
  (case cl4_Thing => k_is)
  (case na1_Thing => k_is)
  (case na2_Thing => k_is)
  (case na3_Thing => k_is)
  (case y1 => k_is)
  (case y2 => k_is)
  (case y3 => k_is)
  (case y4 => k_is)
  (case xc1 => k_is)
  (case xc2 => k_is)
  (case xc3 => k_is)
  (case xc4 => k_is)
  (case xc5 => k_is)
  (case xc6 => k_is)
  (case xc7 => k_is)
  (case xc8 => k_is)
  (case kB => kit_is)
  (case kV => kit_is)
  (case k_NoGap => kit_is)
  (case k_NoPart => kit_is)
  (case k_Twice => kit_is)
  (case k_NoFace => kit_is)
  (case k_NoRow => kit_is)
