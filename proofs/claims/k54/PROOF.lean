import PyProof.Rows.All
import Wide.All
import OpenK.AllK
import Wide.FinOn
import Lean
import PyProof.EqAt
import PyProof.EqKinds
import PyProof.TupleCall
import PyProof.ZipIter
import PyProof.Rows.SetFrom
import PyProof.Rows.SortStr
import KE.KDictList
import PyProof.AttrMissHeap
import KE.KDictOf
import KE.KDictLaws
import KE.KRevIter
import PyProof.CollectIter
import PyProof.FactsAll.range_2
import PyProof.FactsAll.range_iterator_1
import PyProof.WalksEnum
import PyProof.EnumMake
import PyProof.Rows.Range3
import PySem.Challenge.RW_slackchain_k54_shares_keep_every_gap
set_option Elab.async false
set_option linter.all false
set_option maxRecDepth 100000
open List (mem_filter mem_cons_self mem_cons_of_mem mem_cons mem_append mem_append_right length_cons map_cons length_map append_nil nodup_cons length_take length_append size_toArray any_cons length_singleton map_nil cons_append length_nil not_mem_nil mem_singleton mem_map take_zero take_succ take_of_length_le map_append mem_flatMap nodup_append nil_append filter_append map_map length_filter_le)
local macro_rules|`(tactic|ac_nf)=>`(tactic|first|lia|omega)
local macro_rules|`(⋯)=>`(by decide)
local macro_rules|`(∅)=>`(by ac_nf)
local macro_rules|`(tactic|subst_eqs)=>`(tactic|(intro _ _ _ _ h;(repeat obtain ⟨_,h⟩:=h);subst_vars;rfl))
namespace L2
open PySem PySem.Spec PyProof.Rows
abbrev Key:=Sum Bool Str
def isBoolOf:Bool->Value->Bool
 | b, .bool c=>b == c
 | _,_=>false
theorem Jev {b:Bool} {v:Value} (h:isBoolOf b v=true):v=.bool b:=by
 cases v <;> simp_all [isBoolOf]
def keyIs:Key->Value->Bool
 | .inl k,v=>isBoolOf k v
 | .inr x,v=>Value.isStrOf x v
def keyH (w:World):Key->Int
 | .inl k=>hashInt (if k then 1 else 0)
 | .inr x=>hashStr w x
theorem JaN:∀ {k:Key} {v:Value},keyIs k v=true->(∃ i,k=Sum.inl i/\v=Value.bool i)\/(∃ x t,k=Sum.inr x/\v=Value.str x t)
 | .inl i,v,h=>.inl ⟨i,rfl,Jev h⟩
 | .inr x,v,h=>by
  obtain ⟨t,e⟩:=Value.isStrOf_shape (x:=x) (v:=v) h;exact .inr ⟨x,t,rfl,e⟩
theorem Jhn (i:Bool):keyIs (.inl i) (.bool i)=true:=by simp [keyIs,isBoolOf]
theorem Jh6 (x:Str) (t:Tok):keyIs (.inr x) (.str x t)=true:=by simp [keyIs,Value.isStrOf]
theorem Jlj (a b:Bool):decide ((Sum.inl a:Key)=Sum.inl b)=(a == b):=by cases a <;> cases b <;> rfl
theorem Jlm (a b:Str):decide ((Sum.inr a:Key)=Sum.inr b)=decide (a=b):=by
 by_cases e:a=b
 ·subst e; simp
 ·have h:¬ (Sum.inr a:Key)=Sum.inr b:=fun q=>e (Sum.inr.inj q);rw [decide_eq_false h,decide_eq_false e]
theorem Jlk (a:Bool) (b:Str):decide ((Sum.inl a:Key)=Sum.inr b)=false:=decide_eq_false (fun q=>nomatch q)
theorem Jll (a:Str) (b:Bool):decide ((Sum.inr a:Key)=Sum.inl b)=false:=decide_eq_false (fun q=>nomatch q)
theorem JgB {prog:Program} {w:World} {A:Around} {E:Value->Shared->Prop} {s:Shared} {b:Bool} {Q:Int->Shared->Prop} (h:Q (hashInt (if b then 1 else 0)) { s with toks:=s.toks+1 }) :
  wpAny (model prog w) A (pyHash (.bool b)) Q E s:=by
 have c:=rawHash_range (if b then 1 else 0);have a:s.TypeIs (.bool b) "bool":=rfl;unfold pyHash;have d:[Value.bool b].any Value.onHeap=false:=rfl;refine wpAny_bind ?_;rw [cRoomFor,if_neg (by rw [d]; exact Bool.false_ne_true)]; refine wpAny_pure ?_;refine wpAny_bind (wpAny_specialOf a F.slot_bool_hash.lookup ?_);show wpAny _ _ (if (some (Value.builtin "int.__hash__") == some Value.none)=true then _ else _) Q E s;rw [if_neg (by rw [beq_builtin_none]; exact Bool.false_ne_true)];refine wpAny_bind (wpAny_specialOf a F.slot_bool_hash.lookup ?_);show wpAny _ _ (callSpecialIfBoundUnlessNone? (.bool b) "__hash__" _ >>= _) Q E s;refine wpAny_bind (wpAny_callSpecialIfBoundUnlessNone?_slot a F.slot_bool_hash
  (wpAny_call_entry F.slot_bool_hash a entry_int_hash
   (show wpAny _ _ (do ret (<- mkInt (rawHash (if b then 1 else 0)))) _ _ s from wpAny_ret_mkInt ?_) (args_int_hash _)))
 show wpAny _ _ (if (decide (-(2:Int) ^ 63<=rawHash (if b then 1 else 0))&&decide (rawHash (if b then 1 else 0)<2 ^ 63))=true then _ else _) Q E _;rw [if_pos (by rw [decide_eq_true c.1,decide_eq_true c.2]; rfl)];exact wpAny_pure h
def Jaw (prog:Program) (w:World):PySem.KeyKind prog w Key where
 is:=keyIs
 hash:=keyH w
 inj:=fun v a b ha hb=>by
  rcases JaN ha with ⟨i,rfl,rfl⟩ | ⟨x,t,rfl,rfl⟩
  ·rcases JaN hb with ⟨j,rfl,e⟩ | ⟨y,u,rfl,e⟩
   ·injection e with e1; rw [e1]
   ·exact nomatch e
  ·rcases JaN hb with ⟨j,rfl,e⟩ | ⟨y,u,rfl,e⟩
   ·exact nomatch e
   ·injection e with e1 _; rw [e1]
 byValue:=fun k v h=>by
  rcases JaN h with ⟨i,rfl,rfl⟩ | ⟨x,t,rfl,rfl⟩ <;> rfl
 pyHash:=fun hv h=>by
  rcases JaN hv with ⟨i,rfl,rfl⟩ | ⟨x,t,rfl,rfl⟩
  ·exact JgB h
  ·exact wpAny_pyHash_str h
 eqBool:=fun hu hv h=>by
  rcases JaN hu with ⟨i,rfl,rfl⟩ | ⟨x,t,rfl,rfl⟩
  ·rcases JaN hv with ⟨j,rfl,rfl⟩ | ⟨y,u,rfl,rfl⟩
   ·rw [Jlj] at h; exact SeqAt.EqAt.bool_bool i j _ _ _ _ h
   ·rw [Jlk] at h; exact SeqAt.EqAt.bool_str i y u _ _ _ _ h
  ·rcases JaN hv with ⟨j,rfl,rfl⟩ | ⟨y,u,rfl,rfl⟩
   ·rw [Jll] at h; exact SeqAt.EqAt.str_bool x t j _ _ _ _ h
   ·rw [Jlm] at h; exact wpAny_eqBool_str h
 «strs»:=fun k x t v h=>by
  rcases JaN h with ⟨i,rfl,e⟩ | ⟨y,u,rfl,e⟩
  ·exact nomatch e
  ·injection e with e1 _
   subst e1;cases v <;> rfl
theorem JfL (prog:Program) (w:World) (i:Bool):(Jaw prog w).is (.inl i) (.bool i)=true:=Jhn i
theorem Jgn (prog:Program) (w:World) (x:Str) (t:Tok):(Jaw prog w).is (.inr x) (.str x t)=true:=Jh6 x t
inductive V where
 | non | bl (b:Bool) | int (i:Int) | str (x:Str) | byt (b:Array UInt8) | flt (b:UInt64) | ref (a:Addr) | ty (n:String)
 deriving DecidableEq
def RelV:V->Value->Prop
 | .non,u=>u=Value.none
 | .bl b,u=>u=Value.bool b
 | .int i,u=>∃ t,u=Value.int i t
 | .str x,u=>∃ t,u=Value.str x t
 | .byt b,u=>∃ t,u=Value.bytes b t
 | .flt b,u=>∃ t,u=Value.float b t
 | .ref a,u=>u=Value.ref a
 | .ty n,u=>u=Value.type n
abbrev Vals:List V->List Value->Prop:=Paired RelV
theorem Vals.length {xs:List V} {us:List Value} (r:Vals xs us):xs.length=us.length:=Paired.length r
theorem Vals.get:∀ {xs:List V} {us:List Value} {i:Nat} {x:V},Vals xs us->xs[i]?=some x->∃ u,us[i]?=some u/\RelV x u
 | _,_,_,_, .nil,e=>by simp at e
 | _,_,0,_, .cons r _,e=>by simp at e; subst e; exact ⟨_,rfl,r⟩
 | _,_,i+1,x, .cons _ t,e=>by
  obtain ⟨u,h1,h2⟩:=Vals.get (i:=i) (x:=x) t (by simpa using e);exact ⟨u,by simpa using h1,h2⟩
theorem Vals.append:∀ {xs ys:List V} {us ws:List Value},Vals xs us->Vals ys ws->Vals (xs++ys) (us++ws)
 | _,_,_,_, .nil,s=>s
 | _,_,_,_, .cons r t,s=>.cons r (Vals.append t s)
theorem Vals.take:∀ {xs:List V} {us:List Value} (n:Nat),Vals xs us->Vals (xs.take n) (us.take n)
 | _,_,0,_=>.nil
 | _,_,_+1, .nil=>.nil
 | _,_,n+1, .cons r t=>.cons r (Vals.take n t)
theorem Vals.drop:∀ {xs:List V} {us:List Value} (n:Nat),Vals xs us->Vals (xs.drop n) (us.drop n)
 | _,_,0,r=>r
 | _,_,_+1, .nil=>.nil
 | _,_,n+1, .cons _ t=>Vals.drop n t
def RelO:Option V->Option Value->Prop
 | some v,some u=>RelV v u
 | none,none=>True
 | _,_=>False
def KV {κ : Type}:List (κ × V)->List (κ × Value)->Prop:=Paired fun (p : κ × V) (q : κ × Value)=>p.1=q.1/\RelV p.2 q.2
def kV:Key->V
 | .inl i=>.bl i
 | .inr x=>.str x
inductive HO where
 | lst (xs:List V)
 | tup (xs:List V)
 | dK (kvs:List (Key × V)) | dT (kvs:List (List Key × V))
 | set (S:Int->Bool) (n:Nat)
 | ins (C dx:Addr) (fs:List (Str × V))
 | own (x:Addr)
 | xd (fs:List (Str × V))
 | met (f x:Addr)
 | rng (lo hi:Int)
 | frz (o:Obj) (u:HO)
 | tbl (ps:Array Value)
 | ext (φ : Heap->Prop)
abbrev Hp:=Addr->Option HO
def upd (H:Hp) (a:Addr) (o:HO):Hp:=fun b=>if b=a then some o else H b
theorem Jak {H:Hp} {a:Addr} {o:HO}:upd H a o a=some o:=by unfold upd; rw [if_pos rfl]
theorem Jag {H:Hp} {a b:Addr} {o:HO} (h:b≠a):upd H a o b=H b:=by unfold upd; rw [if_neg h]
theorem ne_of {H:Hp} {a b:Addr} {o u:HO} (h:H a=some o) (h':H b=some u) (d:o≠u):a≠b:=by
 intro e; subst e; rw [h] at h'; exact d (Option.some.inj h')
theorem Jai {H:Hp} {a b:Addr} {o:HO} (h:H a=some o) (h':H b=none):a≠b:=by
 intro e; subst e; rw [h] at h'; cases h'
section
variable (P:Program) (w:World)
def ObjOk (H:Hp) (h:Heap) (a:Addr):HO->Prop
 | .lst xs=>xs.length<=sizeLine/\∃ (its:List Value) (n:Nat),Vals xs its/\h.get? a=some { cls:=.type "list",data:=.seq its.toArray n }
 | .tup xs=>xs.length<=sizeLine/\∃ its:List Value,Vals xs its/\IsTup h a its.toArray
 | .dK kvs=>kvs.length<=sizeLine/\(a == sysModules)=false/\∃ vs,KV kvs vs/\h.DictOf (Jaw P w) a vs
 | .dT kvs=>kvs.length<=sizeLine/\(a == sysModules)=false/\∃ xs:List (List Key × Addr × Value),
   Paired (fun (p:List Key × V) (q:List Key × Addr × Value)=>p.1=q.1/\H q.2.1=some (.tup (p.1.map kV))/\RelV p.2 q.2.2) kvs xs /\
   ∃ o es ep,h.get? a=some o/\o.ExactDict/\o.data=.dict es ep/\es.toList=xs.map (entryOfKey (tupleKind (Jaw P w)))/\(xs.map (·.1)).Nodup
 | .set S n=>h.SetOf (intKind P w) a S n
 | .ins C dx fs=>H dx=some (.own a)/\fs.length<=1000/\dx≠a/\h.get? a=some (W.instObj C dx) /\
   ∃ mA,h.Ns1 dx mA/\(∀ f,RelO (fs.lookup f) (mA f))/\PySem.Within mA (fs.map (·.1))
 | .own _=>∃ o,h.get? a=some o
 | .xd fs=>∃ mA,h.Ns1 a mA/\∀ f,RelO (fs.lookup f) (mA f)
 | .rng lo hi=>∃ t u v,h.get? a=some { cls:=.type "range",data:=.fields #[.int lo t, .int hi u, .int 1 v] }
 | .frz o u=>h.get? a=some o/\ObjOk H h a u
 | .tbl ps=>h.get? a=some { cls:=.none,data:=.fields ps }
 | .met f x=>h.get? a=some (W.methodObj (.ref f) (.ref x))
 | .ext φ=>φ h/\(∃ o,h.get? a=some o)/\∀ h1 h2:Heap,φ h1->(∀ o,h1.get? a=some o->h2.get? a=some o)->φ h2
def HOk (H:Hp) (h:Heap):Prop:=∀ a o,H a=some o->ObjOk P w H h a o
end
section
variable {P:Program} {w:World} {H H':Hp} {h h':Heap} {a:Addr} {o:HO}
theorem ObjOk.lt (x:ObjOk P w H h a o):a<h.objs.size:=by
 cases o with
 | lst xs=>obtain ⟨_,_,_,_,e⟩:=x; exact Heap.lt_size e
 | tup xs=>obtain ⟨_,_,_,p⟩:=x; exact p.lt
 | dK kvs=>obtain ⟨_,_,_,_,o,_,_,e,_⟩:=x; exact Heap.lt_size e
 | dT kvs=>obtain ⟨_,_,_,_,o,_,_,e,_⟩:=x; exact Heap.lt_size e
 | set S n=>obtain ⟨o,_,_,_,e,_⟩:=x; exact Heap.lt_size e
 | ins C dx fs=>obtain ⟨_,_,_,e,_⟩:=x; exact Heap.lt_size e
 | own y=>obtain ⟨_,e⟩:=x; exact Heap.lt_size e
 | xd fs=>obtain ⟨_,⟨_,_,_,e,_⟩,_⟩:=x; exact Heap.lt_size e
 | rng lo hi=>obtain ⟨_,_,_,e⟩:=x; exact Heap.lt_size e
 | frz ob u=>obtain ⟨e,_⟩:=x; exact Heap.lt_size e
 | tbl ps=>exact Heap.lt_size (show h.get? a=some _ from x)
 | met f y=>exact Heap.lt_size (show h.get? a=some _ from x)
 | ext φ=>obtain ⟨_,⟨_,e⟩,_⟩:=x; exact Heap.lt_size e
theorem Paired.mapP {α β : Type} {F G : α->β->Prop}:∀ {l₁ : List α} {l₂ : List β},Paired F l₁ l₂->(∀ a b,F a b->G a b)->Paired G l₁ l₂
 | _,_, .nil,_=>.nil
 | _,_, .cons r t,f=>.cons (f _ _ r) (Paired.mapP t f)
theorem ObjOk.stay (x:ObjOk P w H h a o) (k:∀ b u,(b=a\/H b=some (.own a))->h.get? b=some u->h'.get? b=some u)
  (ho:∀ b,H b=some (.own a)->H' b=some (.own a)) (ht:∀ b xs,H b=some (.tup xs)->H' b=some (.tup xs)):ObjOk P w H' h' a o:=by
 induction o with
 | lst xs=>obtain ⟨z,l,n,r,e⟩:=x; exact ⟨z,l,n,r,k _ _ (.inl rfl) e⟩
 | tup xs=>obtain ⟨z,l,r,g,e,c⟩:=x; exact ⟨z,l,r,g,k _ _ (.inl rfl) e,c⟩
 | dK kvs=>obtain ⟨z,y,B,r,g,i,j,e,c⟩:=x; exact ⟨z,y,B,r,g,i,j,k _ _ (.inl rfl) e,c⟩
 | dT kvs=>
  obtain ⟨z,y,xs,r,g,i,j,e,c⟩:=x;exact ⟨z,y,xs,Paired.mapP r fun p q z=>⟨z.1,ht _ _ z.2.1,z.2.2⟩,g,i,j,k _ _ (.inl rfl) e,c⟩
 | set S n=>obtain ⟨g,i,j,t,e,c⟩:=x; exact ⟨g,i,j,t,k _ _ (.inl rfl) e,c⟩
 | ins C dx fs=>
  obtain ⟨d,z,D,e,m,⟨s,i,j,E,c⟩,r⟩:=x;exact ⟨ho _ d,z,D,k _ _ (.inl rfl) e,m,⟨s,i,j,k _ _ (.inr d) E,c⟩,r⟩
 | own y=>obtain ⟨g,e⟩:=x; exact ⟨g,k _ _ (.inl rfl) e⟩
 | xd fs=>obtain ⟨m,⟨s,i,j,e,c⟩,r⟩:=x; exact ⟨m,⟨s,i,j,k _ _ (.inl rfl) e,c⟩,r⟩
 | rng lo hi=>obtain ⟨t,u,v,e⟩:=x; exact ⟨t,u,v,k _ _ (.inl rfl) e⟩
 | frz g u ih=>obtain ⟨e,q⟩:=x; exact ⟨k _ _ (.inl rfl) e,ih q⟩
 | tbl ps=>
  have e:h.get? a=some { cls:=.none,data:=.fields ps }:=x;show h'.get? a=some { cls:=.none,data:=.fields ps };exact k a _ (.inl rfl) e
 | met f y=>
  have e:h.get? a=some (W.methodObj (.ref f) (.ref y)):=x;show h'.get? a=some (W.methodObj (.ref f) (.ref y));exact k a _ (.inl rfl) e
 | ext φ=>obtain ⟨p,⟨o,e⟩,A⟩:=x; exact ⟨A _ _ p fun o q=>k _ _ (.inl rfl) q,⟨o,k _ _ (.inl rfl) e⟩,A⟩
theorem HOk.lt (x:HOk P w H h) (e:H a=some o):a<h.objs.size:=(x a o e).lt
theorem HOk.fresh (x:HOk P w H h) (e:h.objs.size<=a):H a=none:=by
 cases q:H a with
 | none=>rfl
 | some u=>exact absurd (Nat.lt_of_lt_of_le (x.lt q) e) (Nat.lt_irrefl _)
theorem HOk.kept (x:HOk P w H h) (k:∀ b u,h.get? b=some u->h'.get? b=some u):HOk P w H h':=fun a o e=>
 (x a o e).stay (fun b u _ q=>k b u q) (fun _ q=>q) fun _ _ q=>q
theorem HOk.laid (x:HOk P w H h) (k:∀ b u,h.get? b=some u->h'.get? b=some u) (hp:h.objs.size<=a) (new:ObjOk P w (upd H a o) h' a o):HOk P w (upd H a o) h':=fun b u e=>by
 have f:=x.fresh hp;by_cases d:b=a
 ·subst d; rw [Jak] at e; cases e; exact new
 ·rw [Jag d] at e;exact (x b u e).stay (fun c v _ q=>k c v q) (fun c q=>by rw [Jag (Jai q f)]; exact q) fun c g q=>by rw [Jag (Jai q f)]; exact q
end
def Rd (H:Hp) (a:Addr) (u:HO):Prop:=H a=some u\/∃ o,H a=some (.frz o u)
theorem Rd.ok {P:Program} {w:World} {H:Hp} {h:Heap} {a:Addr} {u:HO} (r:Rd H a u) (x:HOk P w H h):ObjOk P w H h a u:=by
 rcases r with r | ⟨o,r⟩
 ·exact x a u r
 ·obtain ⟨_,q⟩:=x a _ r;exact q
def Mut:Option HO->Prop
 | some (.lst _)=>True
 | some (.dK _)=>True
 | some (.dT _)=>True
 | some (.set _ _)=>True
 | some (.ins _ _ _)=>True
 | some (.ext _)=>True
 | _=>False
section
variable {P:Program} {w:World} {H:Hp} {h h':Heap} {x e:Addr} {o':HO}
theorem HOk.write (ok:HOk P w H h) (mu:Mut (H x)) (he:e=x\/H e=some (.own x)) (k:∀ b u,b≠e->h.get? b=some u->h'.get? b=some u) (heo:∃ u,h'.get? e=some u)
  (new:ObjOk P w (upd H x o') h' x o'):HOk P w (upd H x o') h':=fun b u q=>by
 have d:∀ c y,H c=some (.own y)->c≠x:=fun c y r z=>by subst z; rw [r] at mu; exact mu
 have f:∀ c g,H c=some (.tup g)->c≠x:=fun c g r z=>by subst z; rw [r] at mu; exact mu
 by_cases i:b=x
 ·subst i; rw [Jak] at q; cases q; exact new
 ·rw [Jag i] at q;by_cases a:b=e
  ·have l:H b=some (.own x):=by
    rcases he with z | z
    ·exact absurd (a.trans z) i
    ·rw [a]; exact z
   rw [q] at l; cases l;obtain ⟨v,m⟩:=heo;exact ⟨v,by rw [a]; exact m⟩
  ·refine (ok b u q).stay (fun c v j r=>k c v ?_ r) (fun c r=>by rw [Jag (d c b r)]; exact r) fun c g r=>by rw [Jag (f c g r)]; exact r
   rcases j with rfl | j
   ·exact a
   ·rintro rfl;rcases he with z | z
    ·exact d c b j z
    ·rw [j] at z; cases z; exact i rfl
end
structure Un (fs ex:List Addr) (H H':Hp) (h h':Heap):Prop where
 keep:∀ b o,h.get? b=some o->H b=none->b∉fs->b∉ex->h'.get? b=some o
 slot:∀ b o,h.get? b=some o->H b=none->b∈fs->b∉ex->∃ sl,h'.get? b=some { o with slots:=sl }
 free:∀ b o,h.get? b=some o->H b=none->b∉ex->H' b=none
 there:∀ b o,h.get? b=some o->b∉ex->∃ o',h'.get? b=some o'
 tups:∀ b xs,H b=some (.tup xs)->H' b=some (.tup xs)
 frzs:∀ b o u,H b=some (.frz o u)->H' b=some (.frz o u)
 tbls:∀ b ps,H b=some (.tbl ps)->∃ more,H' b=some (.tbl (ps++more))
section
variable {fs fs' ex ex':List Addr} {H H1 H2:Hp} {h h1 h2 h':Heap} {a x e:Addr} {o:HO}
theorem Un.any (u:Un fs ex H H1 h h1) {b:Addr} {ob:Obj} (q:h.get? b=some ob) (n:H b=none) (hx:b∉ex):∃ sl,h1.get? b=some { ob with slots:=sl }:=by
 by_cases a:b∈fs
 ·exact u.slot b ob q n a hx
 ·exact ⟨ob.slots,u.keep b ob q n a hx⟩
theorem Un.trans (a:Un fs ex H H1 h h1) (b:Un fs ex H1 H2 h1 h2):Un fs ex H H2 h h2 where
 keep:=fun c e q n i d=>b.keep c e (a.keep c e q n i d) (a.free c e q n d) i d
 slot:=fun c e q n i d=>by
  obtain ⟨r,f⟩:=a.slot c e q n i d;obtain ⟨j,k⟩:=b.slot c _ f (a.free c e q n d) i d;exact ⟨j,k⟩
 free:=fun c e q n d=>by
  obtain ⟨l,f⟩:=a.there c e q d;exact b.free c l f (a.free c e q n d) d
 there:=fun c e q d=>by
  obtain ⟨l,f⟩:=a.there c e q d;exact b.there c l f d
 tups:=fun c g q=>b.tups c g (a.tups c g q)
 frzs:=fun c e g q=>b.frzs c e g (a.frzs c e g q)
 tbls:=fun c m q=>by
  obtain ⟨p,f⟩:=a.tbls c m q;obtain ⟨o,k⟩:=b.tbls c _ f;exact ⟨p++o,by rw [k,Array.append_assoc]⟩
theorem Un.kept (k:∀ b u,h.get? b=some u->h'.get? b=some u):Un fs ex H H h h' :=
 ⟨fun b a q _ _ _=>k b a q,fun b a q _ _ _=>⟨a.slots,k b a q⟩,fun _ _ _ n _=>n,fun b a q _=>⟨a,k b a q⟩,fun _ _ q=>q,fun _ _ _ q=>q,fun _ c q=>⟨#[],by rw [q]; simp⟩⟩
theorem Un.refl:Un fs ex H H h h:=Un.kept fun _ _ q=>q
theorem Un.laid (k:∀ b u,h.get? b=some u->h'.get? b=some u) (hp:h.objs.size<=a) (hn:H a=none):Un fs ex H (upd H a o) h h' where
 keep:=fun b u q _ _ _=>k b u q
 slot:=fun b u q _ _ _=>⟨u.slots,k b u q⟩
 free:=fun b u q n _=>by rw [Jag (Nat.ne_of_lt (Nat.lt_of_lt_of_le (Heap.lt_size q) hp))]; exact n
 there:=fun b u q _=>⟨u,k b u q⟩
 tups:=fun b c q=>by rw [Jag (Jai q hn)]; exact q
 frzs:=fun b u c q=>by rw [Jag (Jai q hn)]; exact q
 tbls:=fun b d q=>⟨#[],by rw [Jag (Jai q hn),q]; simp⟩
theorem Un.write (mu:Mut (H x)) (he:e=x\/H e=some (.own x)) (k:∀ b u,b≠e->h.get? b=some u->h'.get? b=some u) (heo:∃ u,h'.get? e=some u):Un fs ex H (upd H x o) h h':=by
 have d:∀ b,H b=none->b≠x:=fun b n z=>by subst z; rw [n] at mu; exact mu
 have f:∀ b,H b=none->b≠e:=fun b n z=>by
  subst z;rcases he with r | r
  ·exact d b n r
  ·rw [n] at r; cases r
 have c:∀ b u,H b=some u->¬ Mut (some u)->b≠x:=fun b u q i z=>by subst z; rw [q] at mu; exact i mu
 refine ⟨fun b u q n _ _=>k b u (f b n) q,fun b u q n _ _=>⟨u.slots,k b u (f b n) q⟩,fun b u q n _=>by rw [Jag (d b n)]; exact n,fun b u q _=>?_,
  fun b g q=>by rw [Jag (c b _ q fun z=>z)]; exact q,fun b u g q=>by rw [Jag (c b _ q fun z=>z)]; exact q,fun b j q=>⟨#[],by rw [Jag (c b _ q fun z=>z),q]; simp⟩⟩
 by_cases a:b=e
 ·subst a; exact heo
 ·exact ⟨u,k b u a q⟩
end
def trk (h:Heap) (H:Hp):List Addr:=(List.range h.objs.size).filter fun a=>(H a).isSome
def hidT (h:Heap) (H:Hp):Heap:=W.hideAll h (trk h H)
theorem Jh4 (h:Heap) (H:Hp):(hidT h H).objs.size=h.objs.size:=W.hideAll_size _ _
theorem Ji8 {h:Heap} {H:Hp} {b:Addr} {o:Obj} (e:h.get? b=some o) (n:H b=none):(hidT h H).get? b=some o :=
 W.hideAll_get _ e fun a=>by
  have q:(H b).isSome=true:=(mem_filter.mp a).2;rw [n] at q; simp at q
theorem JkA {h:Heap} {H:Hp} {b:Addr} {o:Obj} (e:(hidT h H).get? b=some o):h.get? b=some o/\H b=none:=by
 have a:h.get? b=some o:=W.of_hideAll (trk h H) e;refine ⟨a,?_⟩;cases q:H b with
 | none=>rfl
 | some x=>
  have c:b∈trk h H:=mem_filter.mpr ⟨List.mem_range.mpr (Heap.lt_size a),by simp [q]⟩;have z:(hidT h H).get? b=none:=W.hideAll_none (trk h H) c;rw [z] at e; cases e
def Jj7 (g h:Heap) (L:Addr):List (Addr × Obj):=(List.range h.objs.size).filterMap fun a=>if a=L\/(g.get? a).isSome=true then none else (h.get? a).map fun o=>(a,o)
def rest (g h:Heap) (L d:Addr):List (Addr × Obj):=(Jj7 g h L).filter fun p=>decide (p.1≠d)
structure Mod (K:W.Frag) (mg:Str->Option Value) (base:Heap):Prop where
 kin:K.In base
 glob:base.Ns mainGlobals mg
 blt:∃ mb,base.Ns builtinsNs mb/\∀ x:Str,x≠"__name__"->mb x=bootBuiltins x
 nolimit:base.NoLimit
structure Cx where
 prog:Program
 w:World
 K:W.Frag
 mg:Str->Option Value
 base:Heap
 A:Around
 N:List Str
 s₀ : Shared
 H₀ : Hp
 env:Env
 outer:List Env
 stack:List Env
 ex:List Addr
 fn:Str->Bool
 calm:Bool
 pn:List (Addr × Obj)
 xe:Value->Shared->Prop
def frs (l:List Env):List Addr:=l.filterMap (·.frame)
abbrev Cx.fs (X:Cx):List Addr:=frs X.outer
def Vis (sc:Scope) (x:Str):Prop:=sc.names.lookup x=some .local\/sc.names.lookup x=some .cell\/sc.names.lookup x=some .free
def Loc (sc:Scope) (x:Str):Prop:=sc.names.lookup x=some .local\/sc.names.lookup x=some .cell
def Look (env:Env) (h:Heap) (m:Str->Option Value) (x:Str) (u:Value):Prop :=
 (env.kindOf x=some .local/\m x=some u)\/((env.kindOf x=some .cell\/env.kindOf x=some .free)/\∃ c,env.cells.lookup x=some c/\h.IsCell c (some u))
structure Cx.Ok (X:Cx):Prop where
 mod:Mod X.K X.mg X.base
 kind:X.env.scope.kind=.function
 glob:X.env.globals=mainGlobals
 blt:X.env.builtins=builtinsNs
 above:X.s₀.heap.objs.size<=X.env.locals
 inj:∀ x y c,X.env.cells.lookup x=some c->X.env.cells.lookup y=some c->x=y
 has:∀ x,(X.env.kindOf x=some .cell\/X.env.kindOf x=some .free)->∃ c,X.env.cells.lookup x=some c
 cab:∀ x c,X.fn x=true->X.env.cells.lookup x=some c->X.s₀.heap.objs.size<=c
 hd:X.calm=true->X.A.handled=none
 frames:X.A.frames=some X.stack
 stk:X.stack=X.outer\/(X.stack=X.env::X.outer/\X.env.frame=some X.env.locals)
 exf:∀ b∈X.ex,b≠X.env.locals/\∀ x c,X.env.cells.lookup x=some c->c≠b
 bs:∀ b o,X.base.get? b=some o->X.s₀.heap.get? b=some o/\X.H₀ b=none
 bsz:X.base.objs.size<=X.s₀.heap.objs.size
 noex:∀ b o,X.base.get? b=some o->b∉X.ex
 exfs:∀ b∈X.ex,b∉X.fs
 funs:X.s₀.heap.FunFrames X.base X.outer
 frf:∀ b∈X.fs,X.H₀ b=none
structure Inv (X:Cx) (pins:List (Addr × Obj)) (σ : List (Option V)) (H:Hp) (s:Shared):Prop where
 ok:X.Ok
 os:s.os=X.s₀.os
 bare:AllBare s.gens
 base:Un X.fs X.ex X.H₀ H X.s₀.heap s.heap
 loc:∃ m,s.heap.Ns X.env.locals m/\∀ (i:Nat) (x:Str) (v:V),X.N[i]?=some x->σ[i]?=some (some v)->Vis X.env.scope x->∃ u,RelV v u/\Look X.env s.heap m x u
 cell:∀ x c,X.env.cells.lookup x=some c->∃ v,s.heap.IsCell c v
 free:H X.env.locals=none
 freeC:∀ x c,X.env.cells.lookup x=some c->H c=none
 pin:∀ p∈X.pn++pins,s.heap.get? p.1=some p.2/\H p.1=none/\p.1≠X.env.locals/\p.1∉X.fs/\∀ v,p.2.data≠.cell v
 hok:HOk X.prog X.w H s.heap
 len : σ.length=X.N.length
section
variable {X:Cx} {pins:List (Addr × Obj)} {σ : List (Option V)} {H H':Hp} {s:Shared} {h':Heap}
theorem Cx.Ok.nofr (ok:X.Ok) {b:Addr} {o:Obj} (e:X.base.get? b=some o):b∉X.fs:=fun a=>by
 have:=(ok.funs.mem a).1;rw [e] at this; cases this
theorem Inv.bs (I:Inv X pins σ H s):∀ b o,X.base.get? b=some o->s.heap.get? b=some o/\H b=none:=fun b o e=>
 ⟨I.base.keep b o (I.ok.bs b o e).1 (I.ok.bs b o e).2 (I.ok.nofr e) (I.ok.noex b o e),I.base.free b o (I.ok.bs b o e).1 (I.ok.bs b o e).2 (I.ok.noex b o e)⟩
theorem Inv.bk (I:Inv X pins σ H s):∀ b o,X.base.get? b=some o->s.heap.get? b=some o:=fun b o e=>(I.bs b o e).1
theorem Inv.mod (I:Inv X pins σ H s):Mod X.K X.mg X.base:=I.ok.mod
theorem Inv.kIn (I:Inv X pins σ H s):X.K.In s.heap:=I.ok.mod.kin.keeps I.bk
theorem Inv.fr (I:Inv X pins σ H s):∃ m,Fr X.base X.env.locals s.heap m :=
 let ⟨m,hn,_⟩:=I.loc
 ⟨m,hn,I.bk,Nat.le_trans I.ok.bsz I.ok.above⟩
theorem Inv.lt (I:Inv X pins σ H s):X.env.locals<s.heap.objs.size:=let ⟨_,hn,_⟩:=I.loc; hn.lt
theorem Inv.sz (I:Inv X pins σ H s):X.s₀.heap.objs.size<=s.heap.objs.size:=Nat.le_trans I.ok.above (Nat.le_of_lt I.lt)
theorem Inv.nofs (I:Inv X pins σ H s) {a:Addr} (h:s.heap.objs.size<=a):a∉X.fs:=fun c=>by
 obtain ⟨_,o,b,_⟩:=I.ok.funs.mem c;exact absurd (Nat.lt_of_lt_of_le (Heap.lt_size b) (Nat.le_trans I.sz h)) (Nat.lt_irrefl _)
theorem Inv.cne (I:Inv X pins σ H s):∀ x c,X.env.cells.lookup x=some c->c≠X.env.locals:=fun x c e z=>by
 obtain ⟨v,o,f,d⟩:=I.cell x c e;obtain ⟨m,⟨h,i,g,b,a,_⟩,_⟩:=I.loc;rw [z,b] at f; cases f; rw [a] at d; cases d
theorem Inv.funs (I:Inv X pins σ H s):s.heap.FunFrames X.base X.outer:=by
 have all:∀ (l:List Env),(∀ b∈frs l,b∈X.fs)->X.s₀.heap.FunFrames X.base l->s.heap.FunFrames X.base l:=by
  intro l;induction l with
  | nil=>intro _ _; trivial
  | cons env r ih=>
   intro f i;obtain ⟨g,⟨L,o,a,j,m,k⟩,h⟩:=i;have d:L∈X.fs:=f L (by unfold frs; rw [List.filterMap_cons,a]; exact mem_cons_self);obtain ⟨n,e⟩:=I.base.slot L o m (I.ok.frf L d) d fun z=>I.ok.exfs L z d;exact ⟨g,⟨L,_,a,j,e,k⟩,ih (fun b c=>f b (by unfold frs; rw [List.filterMap_cons,a]; exact mem_cons_of_mem _ c)) h⟩
 exact all X.outer (fun _ c=>c) I.ok.funs
theorem Inv.stack (I:Inv X pins σ H s):s.heap.FunFrames X.base X.stack:=by
 rcases I.ok.stk with e | ⟨e,hf⟩
 ·rw [e]; exact I.funs
 ·rw [e];obtain ⟨m,a,_⟩:=I.loc;refine .cons (by rw [I.ok.kind]; decide) hf a ?_ I.funs;exact Heap.get?_none_of_le (Nat.le_trans I.ok.bsz I.ok.above)
theorem Inv.stkSub (I:Inv X pins σ H s):∀ b∈frs X.stack,b∈X.env.locals::X.fs:=fun b a=>by
 rcases I.ok.stk with e | ⟨e,hf⟩
 ·rw [e] at a; exact mem_cons_of_mem _ a
 ·rw [e] at a;unfold frs at a;rw [List.filterMap_cons,hf] at a;exact a
theorem Inv.stkFree (I:Inv X pins σ H s):∀ b∈frs X.stack,H b=none:=fun b a=>by
 rcases mem_cons.mp (I.stkSub b a) with e | a
 ·rw [e]; exact I.free
 ·obtain ⟨_,o,c,_⟩:=I.ok.funs.mem a;exact I.base.free b o c (I.ok.frf b a) fun z=>I.ok.exfs b z a
theorem Inv.step {g':Array GenState} {t':Nat} {d':Drawn} {ch:List Addr} (I:Inv X pins σ H s)
  (hch:∀ b∈ch,(b∈X.ex\/X.s₀.heap.objs.size<=b)/\b≠X.env.locals/\(∀ x c,X.env.cells.lookup x=some c->c≠b)/\∀ p∈X.pn++pins,p.1≠b)
  (keep:∀ b o,b≠X.env.locals->b∉X.fs->b∉ch->s.heap.get? b=some o->H b=none->h'.get? b=some o)
  (slot:∀ b o,b≠X.env.locals->b∈X.fs->b∉ch->s.heap.get? b=some o->H b=none->∃ sl,h'.get? b=some { o with slots:=sl }) (free:∀ b o,b∉ch->s.heap.get? b=some o->H b=none->H' b=none)
  (there:∀ b o,b∉ch->s.heap.get? b=some o->∃ o',h'.get? b=some o')
  (tups:∀ b xs,H b=some (.tup xs)->H' b=some (.tup xs)) (frzs:∀ b o u,H b=some (.frz o u)->H' b=some (.frz o u)) (tbls:∀ b ps,H b=some (.tbl ps)->∃ more,H' b=some (.tbl (ps++more)))
  (ns:∀ m,s.heap.Ns X.env.locals m->h'.Ns X.env.locals m) (hok:HOk X.prog X.w H' h') (hg:AllBare g') :
  Inv X pins σ H' { s with heap:=h',gens:=g',drawn:=d',toks:=t' }:=by
 have A:∀ b o,X.s₀.heap.get? b=some o->b≠X.env.locals:=fun b o e=>Nat.ne_of_lt (Nat.lt_of_lt_of_le (Heap.lt_size e) I.ok.above);have h:∀ b o,X.s₀.heap.get? b=some o->b∉X.ex->b∉ch:=fun b o e a t=>by
  rcases (hch b t).1 with z | z
  ·exact a z
  ·exact absurd (Nat.lt_of_lt_of_le (Heap.lt_size e) z) (Nat.lt_irrefl _)
 have f:∀ x c,X.env.cells.lookup x=some c->∀ v,s.heap.IsCell c v->h'.IsCell c v:=fun x c e v ⟨o,y,C⟩=>by
  have g:c∉ch:=fun z=>(hch c z).2.2.1 x c e rfl;by_cases J:c∈X.fs
  ·obtain ⟨sl,q⟩:=slot c o (I.cne x c e) J g y (I.freeC x c e);exact ⟨_,q,C⟩
  ·exact ⟨o,keep c o (I.cne x c e) J g y (I.freeC x c e),C⟩
 refine ⟨I.ok,I.os,hg,⟨fun b o e n t a=>?_,fun b o e n t a=>?_,fun b o e n a=>?_,fun b o e a=>?_,fun b xs e=>tups b xs (I.base.tups b xs e),fun b o xs e=>frzs b o xs (I.base.frzs b o xs e),fun b ps e=>?_⟩,?_,fun x c e=>?_,?_,fun x c e=>?_,fun p E=>?_,hok,I.len⟩
 ·exact keep b o (A b o e) t (h b o e a) (I.base.keep b o e n t a) (I.base.free b o e n a)
 ·obtain ⟨sl,j⟩:=I.base.slot b o e n t a;obtain ⟨D,B⟩:=slot b _ (A b o e) t (h b o e a) j (I.base.free b o e n a);exact ⟨D,B⟩
 ·obtain ⟨o',j⟩:=I.base.there b o e a;exact free b o' (h b o e a) j (I.base.free b o e n a)
 ·obtain ⟨o',j⟩:=I.base.there b o e a;exact there b o' (h b o e a) j
 ·obtain ⟨N,j⟩:=I.base.tbls b ps e;obtain ⟨M,B⟩:=tbls b _ j;exact ⟨N++M,by rw [B,Array.append_assoc]⟩
 ·obtain ⟨m,O,L⟩:=I.loc;refine ⟨m,ns m O,fun i x v j B K=>?_⟩;obtain ⟨u,r,l⟩:=L i x v j B K;refine ⟨u,r,?_⟩;rcases l with l | ⟨k,c,e,z⟩
  ·exact .inl l
  ·exact .inr ⟨k,c,e,f x c e _ z⟩
 ·obtain ⟨v,z⟩:=I.cell x c e;exact ⟨v,f x c e v z⟩
 ·obtain ⟨m,⟨o,_,_,y,_⟩,_⟩:=I.loc;exact free _ o (fun z=>(hch _ z).2.1 rfl) y I.free
 ·obtain ⟨v,o,y,C⟩:=I.cell x c e;exact free c o (fun z=>(hch c z).2.2.1 x c e rfl) y (I.freeC x c e)
 ·obtain ⟨e,n,F,G,d⟩:=I.pin p E;have g:p.1∉ch:=fun z=>(hch p.1 z).2.2.2 p E rfl;exact ⟨keep p.1 p.2 F G g e n,free p.1 p.2 g e n,F,G,d⟩
theorem Inv.un {t':Nat} (I:Inv X pins σ H s) (u:Un X.fs [] H H' s.heap h') (hok:HOk X.prog X.w H' h'):Inv X pins σ H' { s with heap:=h',toks:=t' }:=by
 obtain ⟨m,⟨o,p,q,g,r⟩,_⟩:=id I.loc;obtain ⟨l,i⟩:=u.any g I.free (by simp);exact I.step (g':=s.gens) (d':=s.drawn) (ch:=[]) (fun _ z=>nomatch z) (fun b o _ c _ e n=>u.keep b o e n c (by simp)) (fun b o _ c _ e n=>u.slot b o e n c (by simp)) (fun b o _ e n=>u.free b o e n (by simp)) (fun b o _ e=>u.there b o e (by simp)) u.tups u.frzs u.tbls (fun k h=>by
  obtain ⟨t,f,d,a,j⟩:=h;rw [g] at a; cases a;exact ⟨_,f,d,i,j⟩) hok I.bare
theorem Inv.call {g':Array GenState} {t':Nat} {d':Drawn} {ch:List Addr} (I:Inv X pins σ H s) (u:Un (frs X.stack) ch H H' s.heap h') (hok:HOk X.prog X.w H' h') (hg:AllBare g')
  (hch:∀ b∈ch,(b∈X.ex\/X.s₀.heap.objs.size<=b)/\b≠X.env.locals/\(∀ x c,X.env.cells.lookup x=some c->c≠b)/\∀ p∈X.pn++pins,p.1≠b) :
  Inv X pins σ H' { s with heap:=h',gens:=g',drawn:=d',toks:=t' }:=by
 obtain ⟨m,⟨o,v,y,i,r⟩,_⟩:=id I.loc;obtain ⟨t,f⟩:=u.any i I.free fun z=>(hch _ z).2.1 rfl;exact I.step (ch:=ch) hch (fun b o f k a e n=>u.keep b o e n (fun z=>(mem_cons.mp (I.stkSub b z)).elim f k) a) (fun b o _ _ a e n=>u.any e n a) (fun b o a e n=>u.free b o e n a) (fun b o a e=>u.there b o e a) u.tups u.frzs u.tbls (fun q j=>by
  obtain ⟨A,h,g,d,l⟩:=j;rw [i] at d; cases d;exact ⟨_,h,g,f,l⟩) hok hg
theorem Inv.turned {t':Nat} {it:Addr} (I:Inv X pins σ H s) (k:∀ b o,b≠it->s.heap.get? b=some o->h'.get? b=some o) (hn:H it=none) (hL:it≠X.env.locals)
  (h1:it∈X.ex\/X.s₀.heap.objs.size<=it) (h2:∀ x c,X.env.cells.lookup x=some c->c≠it) (h3:∀ p∈X.pn++pins,p.1≠it):Inv X pins σ H { s with heap:=h',toks:=t' }:=by
 have d:∀ b u,H b=some u->b≠it:=fun b u e z=>by rw [z,hn] at e; cases e
 refine I.step (g':=s.gens) (d':=s.drawn) (ch:=[it]) (fun b g=>?_) (fun b o _ _ a e _=>k b o (fun z=>a (by simp [z])) e) (fun b o _ _ a e _=>⟨o.slots,k b o (fun z=>a (by simp [z])) e⟩) (fun _ _ _ _ n=>n)
  (fun b o a e=>⟨o,k b o (fun z=>a (by simp [z])) e⟩) (fun _ _ e=>e) (fun _ _ _ e=>e) (fun b l e=>⟨#[],by rw [e]; simp⟩) (fun m f=>?_) (fun b u e=>?_) I.bare
 ·have e:b=it:=by simpa using g
  subst e;exact ⟨h1,hL,h2,h3⟩
 ·obtain ⟨o,h,i,j,r⟩:=f;exact ⟨o,h,i,k _ o (Ne.symm hL) j,r⟩
 ·refine (I.hok b u e).stay (fun c v a q=>k c v ?_ q) (fun _ q=>q) fun _ _ q=>q;rcases a with z | z
  ·rw [z]; exact d b u e
  ·exact d c _ z
theorem Inv.tok (I:Inv X pins σ H s) (t:Nat):Inv X pins σ H { s with toks:=t }:=I.un (h':=s.heap) (t':=t) Un.refl I.hok
theorem Inv.kept {t':Nat} (I:Inv X pins σ H s) (k:∀ b u,s.heap.get? b=some u->h'.get? b=some u):Inv X pins σ H { s with heap:=h',toks:=t' }:=I.un (Un.kept k) (I.hok.kept k)
theorem Inv.laid {a:Addr} {o:HO} {t':Nat} (I:Inv X pins σ H s) (k:∀ b u,s.heap.get? b=some u->h'.get? b=some u) (hp:s.heap.objs.size<=a) (new:ObjOk X.prog X.w (upd H a o) h' a o) :
  Inv X pins σ (upd H a o) { s with heap:=h',toks:=t' }:=I.un (Un.laid k hp (I.hok.fresh hp)) (I.hok.laid k hp new)
theorem Inv.write {x e:Addr} {o:HO} {t':Nat} (I:Inv X pins σ H s) (mu:Mut (H x)) (he:e=x\/H e=some (.own x)) (k:∀ b u,b≠e->s.heap.get? b=some u->h'.get? b=some u) (heo:∃ u,h'.get? e=some u)
  (new:ObjOk X.prog X.w (upd H x o) h' x o):Inv X pins σ (upd H x o) { s with heap:=h',toks:=t' }:=I.un (Un.write mu he k heo) (I.hok.write mu he k heo new)
theorem Inv.pins_of {pins':List (Addr × Obj)} (I:Inv X pins σ H s) (h:∀ p∈pins',s.heap.get? p.1=some p.2/\H p.1=none/\p.1≠X.env.locals/\p.1∉X.fs/\∀ v,p.2.data≠.cell v):Inv X pins' σ H s :=
 ⟨I.ok,I.os,I.bare,I.base,I.loc,I.cell,I.free,I.freeC,fun p a=>(mem_append.mp a).elim (fun z=>I.pin p (List.mem_append_left _ z)) (h p),I.hok,I.len⟩
theorem Jg1 {N:List Str} (hN:N.Nodup) {i j:Nat} {x:Str} (a:N[i]?=some x) (b:N[j]?=some x):i=j:=by
 obtain ⟨e,c⟩:=List.getElem?_eq_some_iff.mp a;obtain ⟨f,d⟩:=List.getElem?_eq_some_iff.mp b;exact (List.getElem_inj hN).mp (c.trans d.symm)
theorem Jf1 {M:Model} {A:Around} {E:Value->Shared->Prop} {i:Nat} {x:Str} {v:V} {u:Value} {Q:Unit->Shared->Prop} (I:Inv X pins σ H s) (hN:X.N.Nodup) (hi:X.N[i]?=some x) (hx:Loc X.env.scope x) (r:RelV v u)
  (h:∀ s',Inv X pins (σ.set i (some v)) H s'->(∃ a,Heap.SameBut a s.heap s'.heap/\(a=X.env.locals\/X.env.cells.lookup x=some a))->Q () s') (hf:X.fn x=true\/X.env.scope.names.lookup x=some .local:=by first | exact .inl rfl | exact .inr rfl | assumption):wpAny M A (storeName X.env x u) Q E s:=by
 obtain ⟨m,hn,hl⟩:=id I.loc;have S:(X.env.scope.kind == .class||(X.env.scope.kind == .module&&X.env.locals != X.env.globals))=false:=by rw [I.ok.kind]; rfl
 have hiσ : i<σ.length:=by rw [I.len]; exact (List.getElem?_eq_some_iff.mp hi).1
 have D:=I.cne;have l:∀ {a:Addr} {K:Heap},(∃ o,s.heap.get? a=some o/\H a=none)->Heap.SameBut a s.heap K->HOk X.prog X.w H K:=fun {a K} ha f b ob e=>by
  obtain ⟨_,_,B⟩:=ha;refine (I.hok b ob e).stay (fun c T t q=>(f.2 c ?_).trans q) (fun _ q=>q) fun _ _ q=>q;rintro rfl;rcases t with rfl | t
  ·rw [B] at e; cases e
  ·rw [B] at t; cases t
 rcases hx with hk | hk
 ·refine wpAny_storeName_local hk hn (fun K Z f=>?_) S;obtain ⟨oL,_,_,a0,_⟩:=id hn;refine h _ ⟨I.ok,I.os,I.bare,⟨fun b o e n G hx=>?_,fun b o e n G hx=>?_,I.base.free,fun b o e hx=>?_,I.base.tups,I.base.frzs,I.base.tbls⟩,⟨_,Z,fun j y v' g C Y=>?_⟩,fun y c e=>?_,I.free,I.freeC,fun p hp=>?_,l ⟨oL,a0,I.free⟩ f,by simpa using I.len⟩ ⟨_,f, .inl rfl⟩
  ·exact (f.2 b (Nat.ne_of_lt (Nat.lt_of_lt_of_le (Heap.lt_size e) I.ok.above))).trans (I.base.keep b o e n G hx)
  ·obtain ⟨sl,g⟩:=I.base.slot b o e n G hx;exact ⟨sl,(f.2 b (Nat.ne_of_lt (Nat.lt_of_lt_of_le (Heap.lt_size e) I.ok.above))).trans g⟩
  ·obtain ⟨o',g⟩:=I.base.there b o e hx;exact ⟨o',(f.2 b (Nat.ne_of_lt (Nat.lt_of_lt_of_le (Heap.lt_size e) I.ok.above))).trans g⟩
  ·by_cases F:j=i
   ·subst F;rw [hi] at g; cases g;rw [List.getElem?_set_self hiσ] at C;cases C;exact ⟨u,r, .inl ⟨hk,by simp⟩⟩
   ·rw [List.getElem?_set_ne (Ne.symm F)] at C;obtain ⟨u',r',q⟩:=hl j y v' g C Y;refine ⟨u',r',?_⟩;rcases q with ⟨k,e⟩ | ⟨k,c,e,z⟩
    ·refine .inl ⟨k,?_⟩;have : y≠x:=fun e=>F (Jg1 hN g (e ▸ hi));simp [this,e]
    ·exact .inr ⟨k,c,e,z.sameBut f (D y c e)⟩
  ·obtain ⟨T,z⟩:=I.cell y c e;exact ⟨T,z.sameBut f (D y c e)⟩
  ·obtain ⟨e,n,U,nf,d⟩:=I.pin p hp;exact ⟨(f.2 p.1 U).trans e,n,U,nf,d⟩
 ·have J:X.fn x=true:=by
   rcases hf with z | z
   ·exact z
   ·rw [z] at hk; cases hk
  obtain ⟨c,t⟩:=I.ok.has x (.inl hk);obtain ⟨T,z⟩:=I.cell x c t;refine wpAny_storeName_cell I.ok.kind hk t z (fun K L f=>?_);obtain ⟨oc,R,P⟩:=id z;refine h { s with heap:=K } ⟨I.ok,I.os,I.bare,⟨fun b o e n G hx=>?_,fun b o e n G hx=>?_,I.base.free,fun b o e hx=>?_,I.base.tups,I.base.frzs,I.base.tbls⟩,⟨m,hn.sameBut f (Ne.symm (D x c t)),fun j y v' g C Y=>?_⟩,fun y W e=>?_,I.free,I.freeC,fun p hp=>?_,l ⟨oc,R,I.freeC x c t⟩ f,by simpa using I.len⟩ ⟨c,f, .inr t⟩
  ·exact (f.2 b (Nat.ne_of_lt (Nat.lt_of_lt_of_le (Heap.lt_size e) (I.ok.cab x c J t)))).trans (I.base.keep b o e n G hx)
  ·obtain ⟨sl,g⟩:=I.base.slot b o e n G hx;exact ⟨sl,(f.2 b (Nat.ne_of_lt (Nat.lt_of_lt_of_le (Heap.lt_size e) (I.ok.cab x c J t)))).trans g⟩
  ·obtain ⟨o',g⟩:=I.base.there b o e hx;exact ⟨o',(f.2 b (Nat.ne_of_lt (Nat.lt_of_lt_of_le (Heap.lt_size e) (I.ok.cab x c J t)))).trans g⟩
  ·by_cases F:j=i
   ·subst F;rw [hi] at g; cases g;rw [List.getElem?_set_self hiσ] at C;cases C;exact ⟨u,r, .inr ⟨.inl hk,c,t,L⟩⟩
   ·rw [List.getElem?_set_ne (Ne.symm F)] at C;obtain ⟨u',r',q⟩:=hl j y v' g C Y;refine ⟨u',r',?_⟩;rcases q with q | ⟨k,W,e,z'⟩
    ·exact .inl q
    ·refine .inr ⟨k,W,e,z'.sameBut f ?_⟩;rintro rfl;exact F (Jg1 hN g (I.ok.inj _ _ _ e t ▸ hi))
  ·by_cases O:W=c
   ·subst O; exact ⟨_,L⟩
   ·obtain ⟨w2,z2⟩:=I.cell y W e;exact ⟨w2,z2.sameBut f O⟩
  ·obtain ⟨e,n,U,nf,d⟩:=I.pin p hp;refine ⟨(f.2 p.1 ?_).trans e,n,U,nf,d⟩;intro q;rw [q,R] at e;have q':oc=p.2:=Option.some.inj e;exact d T (by rw [<- q']; exact P)
theorem Jha {M:Model} {A:Around} {E:Value->Shared->Prop} {i:Nat} {x:Str} {v:V} {u:Value} {Q:Unit->Shared->Prop} (I:Inv X pins σ H s) (hN:X.N.Nodup) (hi:X.N[i]?=some x) (hx:Loc X.env.scope x) (r:RelV v u)
  (h:∀ s',Inv X pins (σ.set i (some v)) H s'->Q () s') (hf:X.fn x=true\/X.env.scope.names.lookup x=some .local:=by first | exact .inl rfl | exact .inr rfl | assumption):wpAny M A (storeName X.env x u) Q E s :=
 Jf1 I hN hi hx r (fun s' I' _=>h s' I') hf
theorem Inv.call' {s':Shared} {ch:List Addr} (I:Inv X pins σ H s) (ho:s'.os=s.os) (u:Un (frs X.stack) ch H H' s.heap s'.heap) (hok:HOk X.prog X.w H' s'.heap) (hg:AllBare s'.gens)
  (hch:∀ b∈ch,(b∈X.ex\/X.s₀.heap.objs.size<=b)/\b≠X.env.locals/\(∀ x c,X.env.cells.lookup x=some c->c≠b)/\∀ p∈X.pn++pins,p.1≠b):Inv X pins σ H' s':=by
 obtain ⟨d,g',d',t',a⟩:=s';have e:a=s.os:=ho;subst e;exact I.call (g':=g') (t':=t') (d':=d') u hok hg hch
end
abbrev XK:=Value->Option Addr->Hp->Prop
abbrev St:=List (Option V)
abbrev VK:=V->Hp->Prop
abbrev TE:=St->Hp->VK->Prop
abbrev TT:=St->Hp->(Bool->Hp->Prop)->Prop
abbrev TA:=St->Hp->(List V->Hp->Prop)->Prop
structure Ends where
 nx:St->Hp->Prop
 rt:VK
 bk:St->Hp->Prop:=fun _ _=>False
 ct:St->Hp->Prop:=fun _ _=>False
abbrev TS:=Ends->St->Hp->Prop
def EP (X:Cx) (pins:List (Addr × Obj)) (σ : St) (Q:VK) (u:Value) (s':Shared):Prop:=∃ v H',Inv X pins σ H' s'/\RelV v u/\Q v H'
def TP (X:Cx) (pins:List (Addr × Obj)) (σ : St) (Q:Bool->Hp->Prop) (b:Bool) (s':Shared):Prop:=∃ H',Inv X pins σ H' s'/\Q b H'
def AP (X:Cx) (pins:List (Addr × Obj)) (σ : St) (Q:List V->Hp->Prop) (us:List Value) (s':Shared):Prop:=∃ vs H',Inv X pins σ H' s'/\Vals vs us/\Q vs H'
def SP (X:Cx) (pins:List (Addr × Obj)) (D:Ends) (f:Flow) (s':Shared):Prop :=
 match f with
 | .next=>∃ σ' H',Inv X pins σ' H' s'/\D.nx σ' H'
 | .brk=>∃ σ' H',Inv X pins σ' H' s'/\D.bk σ' H'
 | .cont=>∃ σ' H',Inv X pins σ' H' s'/\D.ct σ' H'
 | .ret u=>∃ v σ' H',Inv X pins σ' H' s'/\RelV v u/\D.rt v H'
def PE (X:Cx) (e:Expr) (t:TE):Prop :=
 ∀ (pins:List (Addr × Obj)) (s:Shared) (σ : St) (H:Hp) (Q:VK),Inv X pins σ H s->t σ H Q->wpAny (model X.prog X.w) X.A (eval e X.env) (EP X pins σ Q) X.xe s
def PT (X:Cx) (e:Expr) (t:TT):Prop :=
 ∀ (pins:List (Addr × Obj)) (s:Shared) (σ : St) (H:Hp) (Q:Bool->Hp->Prop),Inv X pins σ H s->t σ H Q->wpAny (model X.prog X.w) X.A (isTrue e X.env (eval e X.env)) (TP X pins σ Q) X.xe s
def PW (X:Cx) (e:Expr) (t:TT):Prop :=
 ∀ (whole:Sem Value) (pins:List (Addr × Obj)) (s:Shared) (σ : St) (H:Hp) (Q:Bool->Hp->Prop),Inv X pins σ H s->t σ H Q->wpAny (model X.prog X.w) X.A (isTrue e X.env whole) (TP X pins σ Q) X.xe s
theorem PW.pt {X:Cx} {e:Expr} {t:TT} (h:PW X e t):PT X e t:=h _
def PA (X:Cx) (es:List Expr) (t:TA):Prop :=
 ∀ (pos:Pos) (pins:List (Addr × Obj)) (s:Shared) (σ : St) (H:Hp) (Q:List V->Hp->Prop),Inv X pins σ H s->t σ H Q->wpAny (model X.prog X.w) X.A (spliced (backTo pos (starEach es X.env))) (AP X pins σ Q) X.xe s
def PS (X:Cx) (st:Stmt) (t:TS):Prop :=
 ∀ (pins:List (Addr × Obj)) (s:Shared) (σ : St) (H:Hp) (D:Ends),Inv X pins σ H s->t D σ H->wpAny (model X.prog X.w) X.A (exec st X.env) (SP X pins D) X.xe s
def PSs (X:Cx) (st:List Stmt) (t:TS):Prop :=
 ∀ (pins:List (Addr × Obj)) (s:Shared) (σ : St) (H:Hp) (D:Ends),Inv X pins σ H s->t D σ H->wpAny (model X.prog X.w) X.A (execs st X.env) (SP X pins D) X.xe s
theorem thn {α : Type} {t:Sem α} {Q Q' : α->Shared->Prop} {M:Model} {A:Around} {E:Value->Shared->Prop} {s:Shared} (h:wpAny M A t Q E s) (hQ:∀ a s,Q a s->Q' a s):wpAny M A t Q' E s:=wpAny_mono h hQ fun _ _ x=>x
section
variable {X:Cx}
def tVar (i:Nat):TE:=fun σ H Q=>∃ v,σ[i]?=some (some v)/\Q v H
def tC (v:V):TE:=fun _ H Q=>Q v H
theorem JlA {i:Nat} {x:Str} {pos:Pos} (hN:X.N[i]?=some x) (hv:Vis X.env.scope x) (hd:(x == ("__debug__" : Str))=false:=by decide) (hcd:(x == ("__classdict__" : Str))=false:=by decide):PE X (.Name x pos) (tVar i):=by
 intro b s σ H Q I h;obtain ⟨v,e,h⟩:=h;obtain ⟨m,f,d⟩:=I.loc;obtain ⟨u,r,l⟩:=d i x v hN e hv;have a:EP X b σ Q u s:=⟨v,H,I,r,h⟩;rcases l with ⟨hk,hm⟩ | ⟨hk,c,hc,hcell⟩
 ·exact wpAny_Name (wpAny_loadName_local I.ok.kind hk f hm a) hd
 ·rcases hk with hk | hk
  ·exact wpAny_Name (wpAny_loadName_cell I.ok.kind hk hc hcell a) hd
  ·exact wpAny_Name (wpAny_loadName_free I.ok.kind hk hc hcell a hcd) hd
theorem Jac {i j pos}:PE X (.Constant (.int i) j pos) (tC (.int i)):=fun _ _ _ H _ I h=>wpAny_Constant_int ⟨.int i,H,I.tok _,⟨_,rfl⟩,h⟩
theorem pe_bl {b j pos}:PE X (.Constant (.bool b) j pos) (tC (.bl b)):=fun _ _ _ H _ I h=>Constant_bool ⟨.bl b,H,I,rfl,h⟩
theorem JcC {j pos}:PE X (.Constant .none j pos) (tC .non):=fun _ _ _ H _ I h=>Constant_none ⟨.non,H,I,rfl,h⟩
theorem JbQ {x j pos}:PE X (.Constant (.str x) j pos) (tC (.str x)):=fun _ _ _ H _ I h=>Calls.Constant_str ⟨.str x,H,I.tok _,⟨_,rfl⟩,h⟩
def Gl (X:Cx) (x:Str):Prop:=X.env.kindOf x=some .globalImplicit
theorem Jdt {E:Value->Shared->Prop} {pins:List (Addr × Obj)} {s:Shared} {σ : St} {H:Hp} {x:Str} {u:Value} {pos:Pos} {Q:Value->Shared->Prop} (I:Inv X pins σ H s) (hg:Gl X x) (hm:X.mg x=some u) (h:Q u s)
  (hd:(x == ("__debug__" : Str))=false:=by decide):wpAny (model X.prog X.w) X.A (eval (.Name x pos) X.env) Q E s :=
 Calls.Name_function_global I.ok.kind hg (Calls.loadGlobal_global (by rw [I.ok.glob]; exact I.mod.glob.keeps I.bk) hm h) hd
theorem JeM {E:Value->Shared->Prop} {pins:List (Addr × Obj)} {s:Shared} {σ : St} {H:Hp} {x:Str} {u:Value} {pos:Pos} {Q:Value->Shared->Prop} (I:Inv X pins σ H s) (hg:Gl X x) (hm:X.mg x=none) (hv:bootBuiltins x=some u) (h:Q u s)
  (hn:x≠"__name__":=by decide) (hd:(x == ("__debug__" : Str))=false:=by decide):wpAny (model X.prog X.w) X.A (eval (.Name x pos) X.env) Q E s:=by
 obtain ⟨c,a,b⟩:=I.mod.blt;exact Calls.Name_function_global I.ok.kind hg (Calls.loadGlobal_builtin (by rw [I.ok.glob]; exact I.mod.glob.keeps I.bk) hm (by rw [I.ok.blt]; exact a.keeps I.bk) ((b x hn).trans hv) h) hd
theorem JcW {x:Str} {v:V} {u:Value} {pos:Pos} (hg:Gl X x) (hm:X.mg x=some u) (r:RelV v u) (hd:(x == ("__debug__" : Str))=false:=by decide):PE X (.Name x pos) (tC v) :=
 fun _ _ _ H _ I h=>Jdt I hg hm ⟨v,H,I,r,h⟩ hd
theorem JbE {x:Str} {v:V} {u:Value} {pos:Pos} (hg:Gl X x) (hm:X.mg x=none) (hv:bootBuiltins x=some u) (r:RelV v u) (hn:x≠"__name__":=by decide) (hd:(x == ("__debug__" : Str))=false:=by decide):PE X (.Name x pos) (tC v) :=
 fun _ _ _ H _ I h=>JeM I hg hm hv ⟨v,H,I,r,h⟩ hn hd
variable {a b:Expr} {ta tb:TE} {pos:Pos}
def PC (X:Cx) (op:CmpOp) (a b:Expr) (t:TE):Prop :=
 ∀ (pins:List (Addr × Obj)) (s:Shared) (σ : St) (H:Hp) (Q:VK),Inv X pins σ H s->t σ H Q ->
  wpAny (model X.prog X.w) X.A (eval a X.env) (fun v s₁=>wpAny (model X.prog X.w) X.A (eval b X.env) (fun u s₂=>wpAny (model X.prog X.w) X.A (compareOp op v u) (EP X pins σ Q) X.xe s₂) X.xe s₁) X.xe s
theorem Jg0 (b:Expr) {op:CmpOp} (h:op≠.In) (h2:op≠.NotIn):behindInMarks op b=false:=by
 have a:(op == CmpOp.In)=false:=by cases op <;> first | rfl | exact absurd rfl h
 have c:(op == CmpOp.NotIn)=false:=by cases op <;> first | rfl | exact absurd rfl h2
 cases b <;> simp [behindInMarks,a,c]
def tB (t:TE):TT:=fun σ H Q=>t σ H fun x H1=>∃ c,x=.bl c/\Q c H1
theorem Jlz {op:CmpOp} {t:TE} (h:PC X op a b t) (h1:behindInMarks op b=false:=by first | exact Jg0 _ ⋯ ⋯ | rfl):PE X (.Compare a [op] [b] pos) t:=fun c s σ H Q I d=>wpAny_Compare1 (h c s σ H Q I d) h1
theorem Jel {op:CmpOp} {t:TE} (h:PC X op a b t) (h1:behindInMarks op b=false:=by first | exact Jg0 _ ⋯ ⋯ | rfl):PT X (.Compare a [op] [b] pos) (tB t):=by
 intro e s σ H Q I i;refine wpAny_isTrue_Compare1 (thn (h e s σ H _ I i) fun v n h1=>thn h1 fun u l g=>thn g fun c m ⟨x,j,I1,k,f⟩=>?_) h1;obtain ⟨d,rfl,q⟩:=f;cases k;exact wpAny_truthy_bool ⟨j,I1,q⟩
theorem Ja2 {e:Expr} {t:TE} (h:PE X e t) (he:∀ whole,isTrue e X.env whole=(do let v <- whole; standAt e.pos; holding [v] (truthy v)):=by intro _; rfl):PT X e (tB t):=by
 intro a s σ H Q I c;refine isTrue_plain (thn (h a s σ H _ I c) fun v i ⟨x,f,I1,g,b⟩=>?_) (he _);obtain ⟨d,rfl,q⟩:=b;cases g;exact wpAny_truthy_bool ⟨f,I1,q⟩
variable {tA tB':TT} {rest:List Expr}
def tAnd (t u:TT):TT:=fun σ H Q=>t σ H fun c H1=>if c=true then u σ H1 Q else Q false H1
def tOr (t u:TT):TT:=fun σ H Q=>t σ H fun c H1=>if c=true then Q true H1 else u σ H1 Q
def tNot (t:TT):TT:=fun σ H Q=>t σ H fun c H1=>Q (!c) H1
theorem JiA (ha:PT X a tA):PW X (.BoolOp .And [a] pos) tA:=by
 intro d b s σ H Q I h;refine isTrue_and (thn (ha b s σ H Q I h) fun c f e=>?_);cases c with
 | true=>exact isTrue_and_nil e
 | false=>exact e
theorem JbJ (ha:PT X a tA):PW X (.BoolOp .Or [a] pos) tA:=by
 intro d b s σ H Q I h;refine isTrue_or (thn (ha b s σ H Q I h) fun c f e=>?_);cases c with
 | false=>exact isTrue_or_nil e
 | true=>exact e
theorem JjS (ha:PT X a tA) (hb:PW X (.BoolOp .And (b::rest) pos) tB'):PW X (.BoolOp .And (a::b::rest) pos) (tAnd tA tB'):=by
 intro g d s σ H Q I h;refine isTrue_and (thn (ha d s σ H _ I h) fun c i ⟨f,I1,e⟩=>?_);cases c with
 | true=>exact hb g d i σ f Q I1 e
 | false=>exact ⟨f,I1,e⟩
theorem pw_or (ha:PT X a tA) (hb:PW X (.BoolOp .Or (b::rest) pos) tB'):PW X (.BoolOp .Or (a::b::rest) pos) (tOr tA tB'):=by
 intro g d s σ H Q I h;refine isTrue_or (thn (ha d s σ H _ I h) fun c i ⟨f,I1,e⟩=>?_);cases c with
 | true=>exact ⟨f,I1,e⟩
 | false=>exact hb g d i σ f Q I1 e
theorem Jbe (ha:PT X a tA):PT X (.UnaryOp .Not a pos) (tNot tA):=by
 intro b s σ H Q I h;exact isTrue_not (ha b s σ H (fun c d=>Q (!c) d) I h)
def tAndV (ta tb:TE):TE:=fun σ H Q=>ta σ H fun x H1=>∃ c,x=.bl c/\if c=true then tb σ H1 Q else Q (.bl false) H1
def tOrV (ta tb:TE):TE:=fun σ H Q=>ta σ H fun x H1=>∃ c,x=.bl c/\if c=true then Q (.bl true) H1 else tb σ H1 Q
def tNotV (ta:TE):TE:=fun σ H Q=>ta σ H fun x H1=>∃ c,x=.bl c/\Q (.bl (!c)) H1
theorem JcU {op} {t:TE} (h:PE X a t):PE X (.BoolOp op [a] pos) t:=fun b s σ H Q I c=>BoolOp_one (h b s σ H Q I c)
theorem Jb3 (ha:PE X a ta) (hb:PE X (.BoolOp .And (b::rest) pos) tb):PE X (.BoolOp .And (a::b::rest) pos) (tAndV ta tb):=by
 intro d s σ H Q I h;refine BoolOp_and (thn (ha d s σ H _ I h) fun v g ⟨x,f,I1,i,e⟩=>?_);obtain ⟨c,rfl,e⟩:=e;cases i;refine wpAny_truthy_bool ?_;cases c with
 | true=>exact hb d g σ f Q I1 e
 | false=>exact ⟨.bl false,f,I1,rfl,e⟩
theorem pe_or (ha:PE X a ta) (hb:PE X (.BoolOp .Or (b::rest) pos) tb):PE X (.BoolOp .Or (a::b::rest) pos) (tOrV ta tb):=by
 intro d s σ H Q I h;refine BoolOp_or (thn (ha d s σ H _ I h) fun v g ⟨x,f,I1,i,e⟩=>?_);obtain ⟨c,rfl,e⟩:=e;cases i;refine wpAny_truthy_bool ?_;cases c with
 | false=>exact hb d g σ f Q I1 e
 | true=>exact ⟨.bl true,f,I1,rfl,e⟩
theorem Jg6 (ha:PE X a ta):PE X (.UnaryOp .Not a pos) (tNotV ta):=by
 intro b s σ H Q I h;refine UnaryOp_ (thn (ha b s σ H _ I h) fun v g ⟨x,e,I1,f,d⟩=>?_);obtain ⟨c,rfl,d⟩:=d;cases f;exact not_of (wpAny_truthy_bool ⟨.bl (!c),e,I1,rfl,d⟩)
def tIf (t:TT) (ta tb:TE):TE:=fun σ H Q=>t σ H fun c H1=>if c=true then ta σ H1 Q else tb σ H1 Q
theorem Jg5 {c:Expr} (hc:PT X c tA) (ha:PE X a ta) (hb:PE X b tb):PE X (.IfExp c a b pos) (tIf tA ta tb):=by
 intro e s σ H Q I h;refine wpAny_IfExp (thn (hc e s σ H _ I h) fun d i ⟨g,I1,f⟩=>?_);cases d with
 | true=>exact ha e i σ g Q I1 f
 | false=>exact hb e i σ g Q I1 f
end
def SqL (K:W.Frag) (H:Hp) (a:Addr) (xs:List V):Prop :=
 Rd H a (.lst xs) \/
  ∃ (o:Obj) (its:Array Value) (n:Nat),K.lookup a=some o/\o.cls=.type "list"/\o.dict=none/\o.data=.seq its n/\its.size<=sizeLine/\Vals xs its.toList
def SqT (K:W.Frag) (H:Hp) (a:Addr) (xs:List V):Prop :=
 Rd H a (.tup xs) \/
  ∃ (o:Obj) (its:Array Value) (n:Nat),K.lookup a=some o/\o.cls=.type "tuple"/\o.data=.seq its n/\its.size<=sizeLine/\Vals xs its.toList
def absV:Value->Option V
 | .none=>some .non
 | .bool b=>some (.bl b)
 | .int i _=>some (.int i)
 | .str x _=>some (.str x)
 | .bytes b _=>some (.byt b)
 | .float b _=>some (.flt b)
 | .ref a=>some (.ref a)
 | .type n=>some (.ty n)
 | _=>none
theorem RelV.abs {x:V} {u:Value} (r:RelV x u):absV u=some x:=by
 cases x with
 | non=>cases r; rfl
 | bl _=>cases r; rfl
 | int _=>obtain ⟨t,rfl⟩:=r; rfl
 | str _=>obtain ⟨t,rfl⟩:=r; rfl
 | byt _=>obtain ⟨t,rfl⟩:=r; rfl
 | flt _=>obtain ⟨t,rfl⟩:=r; rfl
 | ref _=>cases r; rfl
 | ty _=>cases r; rfl
theorem RelV.inj {x y:V} {u:Value} (r:RelV x u) (q:RelV y u):x=y:=Option.some.inj (r.abs.symm.trans q.abs)
theorem Vals.inj:∀ {xs ys:List V} {us:List Value},Vals xs us->Vals ys us->xs=ys
 | _,_,_, .nil, .nil=>rfl
 | _,_,_, .cons r t, .cons r' t'=>by rw [r.inj r',Vals.inj t t']
section
variable {X:Cx} {pins:List (Addr × Obj)} {σ : St} {H:Hp} {s:Shared} {a:Addr} {xs ys:List V}
theorem SqL.of {K:W.Frag} (h:H a=some (.lst xs)):SqL K H a xs:=.inl (.inl h)
theorem SqT.of {K:W.Frag} (h:H a=some (.tup xs)):SqT K H a xs:=.inl (.inl h)
theorem Inv.list (I:Inv X pins σ H s) (h:SqL X.K H a xs):∃ its:List Value,Vals xs its/\PlainL s.heap a its.toArray/\xs.length<=sizeLine:=by
 rcases h with h | ⟨o,its,n,hk,hc,hd,hs,hz,r⟩
 ·obtain ⟨z,its,n,r,e⟩:=h.ok I.hok;exact ⟨its,r,⟨_,n,e,rfl,rfl,rfl⟩,z⟩
 ·refine ⟨its.toList,r,⟨o,n,I.kIn a o hk,hc,hd,by simpa using hs⟩,?_⟩;have e:=r.length;simp only [Array.length_toList] at e;ac_nf
theorem Inv.tuple (I:Inv X pins σ H s) (h:SqT X.K H a xs):∃ its:List Value,Vals xs its/\IsTup s.heap a its.toArray/\xs.length<=sizeLine:=by
 rcases h with h | ⟨o,its,n,hk,hc,hs,hz,r⟩
 ·obtain ⟨z,its,r,p⟩:=h.ok I.hok;exact ⟨its,r,p,z⟩
 ·refine ⟨its.toList,r,⟨o,I.kIn a o hk,hc,n,by simpa using hs⟩,?_⟩;have e:=r.length;simp only [Array.length_toList] at e;ac_nf
theorem Inv.list_inj (I:Inv X pins σ H s) (h:SqL X.K H a xs) (h':SqL X.K H a ys):xs=ys:=by
 obtain ⟨c,r,⟨o,n,e,_,_,d⟩,_⟩:=I.list h;obtain ⟨b,i,⟨k,j,f,_,_,g⟩,_⟩:=I.list h';rw [e] at f; cases f;rw [d] at g;injection g with d1 _
 have : c=b:=by simpa using congrArg Array.toList d1
 subst this;exact r.inj i
theorem Inv.tuple_inj (I:Inv X pins σ H s) (h:SqT X.K H a xs) (h':SqT X.K H a ys):xs=ys:=by
 obtain ⟨c,r,⟨o,e,_,n,d⟩,_⟩:=I.tuple h;obtain ⟨b,i,⟨k,f,_,j,g⟩,_⟩:=I.tuple h';rw [e] at f; cases f;rw [d] at g;injection g with d1 _
 have : c=b:=by simpa using congrArg Array.toList d1
 subst this;exact r.inj i
end
abbrev Cx.wish (X:Cx) (E:Value->Shared->Prop):Cx:={ X with xe:=E }
abbrev Cx.nox (X:Cx):Cx:=X.wish fun _ _=>False
theorem Cx.Ok.wish {X:Cx} (ok:X.Ok) (E:Value->Shared->Prop):(X.wish E).Ok :=
 ⟨ok.mod,ok.kind,ok.glob,ok.blt,ok.above,ok.inj,ok.has,ok.cab,ok.hd,ok.frames,ok.stk,ok.exf,ok.bs,ok.bsz,ok.noex,ok.exfs,ok.funs,ok.frf⟩
theorem Cx.Ok.unwish {X:Cx} {E:Value->Shared->Prop} (ok:(X.wish E).Ok):X.Ok :=
 ⟨ok.mod,ok.kind,ok.glob,ok.blt,ok.above,ok.inj,ok.has,ok.cab,ok.hd,ok.frames,ok.stk,ok.exf,ok.bs,ok.bsz,ok.noex,ok.exfs,ok.funs,ok.frf⟩
section
variable {X:Cx} {pins:List (Addr × Obj)} {σ : St} {H:Hp} {s:Shared} {E:Value->Shared->Prop}
theorem Inv.wish (I:Inv X pins σ H s) (E:Value->Shared->Prop):Inv (X.wish E) pins σ H s:=⟨I.ok.wish E,I.os,I.bare,I.base,I.loc,I.cell,I.free,I.freeC,I.pin,I.hok,I.len⟩
theorem Inv.unwish (I:Inv (X.wish E) pins σ H s):Inv X pins σ H s:=⟨I.ok.unwish,I.os,I.bare,I.base,I.loc,I.cell,I.free,I.freeC,I.pin,I.hok,I.len⟩
theorem SP.unwish {D:Ends} {f:Flow} {s':Shared} (h:SP (X.wish E) pins D f s'):SP X pins D f s':=by
 cases f with
 | next=>obtain ⟨σ',a,I,q⟩:=h; exact ⟨σ',a,I.unwish,q⟩
 | brk=>obtain ⟨σ',a,I,q⟩:=h; exact ⟨σ',a,I.unwish,q⟩
 | cont=>obtain ⟨σ',a,I,q⟩:=h; exact ⟨σ',a,I.unwish,q⟩
 | ret u=>obtain ⟨v,σ',a,I,r,q⟩:=h; exact ⟨v,σ',a,I.unwish,r,q⟩
theorem PSs.nox {st:List Stmt} {t:TS} (h:PSs X.nox st t):PSs X st t:=fun a s σ H D I b=>
 wpAny_mono (h a s σ H D (I.wish _) b) (fun _ _ q=>q.unwish) fun _ _ z=>False.elim z
end
section
variable {X:Cx} {st:Stmt} {rest:List Stmt} {t u:TS} {e:Expr} {te:TE} {pos:Pos}
def tNext:TS:=fun D σ H=>D.nx σ H
def tSeq (t u:TS):TS:=fun D σ H=>t { D with nx:=u D } σ H
theorem JaA:PSs X [] tNext:=fun _ _ σ H _ I h=>wpAny_execs_nil ⟨σ,H,I,h⟩
theorem Jab (h1:PS X st t) (h2:PSs X rest u):PSs X (st::rest) (tSeq t u):=by
 intro a s σ H D I h;refine wpAny_execs_cons (thn (h1 a s σ H { D with nx:=u D } I h) fun f c q=>?_);cases f with
 | next=>
  obtain ⟨σ',b,I',q⟩:=q;exact h2 a c σ' b D I' q
 | ret v=>exact q
 | brk=>exact q
 | cont=>exact q
theorem Jah (h1:PS X st t):PSs X [st] t:=by
 intro a s σ H D I h;refine wpAny_execs_cons (thn (h1 a s σ H D I h) fun f b q=>?_);cases f with
 | next=>exact wpAny_execs_nil q
 | ret v=>exact q
 | brk=>exact q
 | cont=>exact q
theorem Inv.quiet {pins:List (Addr × Obj)} {σ : St} {H:Hp} {s:Shared} (I:Inv X pins σ H s):interactive X.env=false:=by simp [interactive,I.ok.kind]
def tDrop (te:TE):TS:=fun D σ H=>te σ H fun _ H1=>D.nx σ H1
theorem Ja9 (he:PE X e te) (hs:swapsWith e none pos.line X.env=pure false:=by rfl):PS X (.Expr e pos) (tDrop te):=by
 intro a s σ H D I h;exact wpAny_Expr_any (thn (he a s σ H _ I h) fun v d ⟨x,c,I1,f,b⟩=>⟨σ,c,I1,b⟩) I.quiet hs
def tRet (te:TE):TS:=fun D σ H=>te σ H D.rt
theorem Jaq (he:PE X e te):PS X (.Return (some e) pos) (tRet te):=by
 intro a s σ H D I h;exact wpAny_Return_some (thn (he a s σ H _ I h) fun v f ⟨x,c,I1,d,b⟩=>⟨x,σ,c,I1,d,b⟩)
def tRetN:TS:=fun D _ H=>D.rt .non H
def tIfS (c:TT) (t u:TS):TS:=fun D σ H=>c σ H fun b H1=>if b=true then t D σ H1 else u D σ H1
theorem ps_if {c:Expr} {a b:List Stmt} {tc:TT} (hc:PT X c tc) (ha:PSs X a t) (hb:PSs X b u):PS X (.If c a b pos) (tIfS tc t u):=by
 intro e s σ H D I h;refine wpAny_If (thn (hc e s σ H _ I h) fun d i ⟨g,I1,f⟩=>?_);cases d with
 | true=>exact ha e i σ g D I1 f
 | false=>exact hb e i σ g D I1 f
end
abbrev TG:=V->St->Hp->(St->Hp->Prop)->Prop
abbrev TGs:=List V->St->Hp->(St->Hp->Prop)->Prop
def PG (X:Cx) (target:Expr) (t:TG):Prop :=
 ∀ (pins:List (Addr × Obj)) (s:Shared) (σ : St) (H:Hp) (v:V) (u:Value) (Q:St->Hp->Prop),Inv X pins σ H s->RelV v u->t v σ H Q ->
  wpAny (model X.prog X.w) X.A (assign target X.env u) (fun _ s'=>∃ σ' H',Inv X pins σ' H' s'/\Q σ' H') X.xe s
def PGs (X:Cx) (ts:List Expr) (t:TGs):Prop :=
 ∀ (pins:List (Addr × Obj)) (s:Shared) (σ : St) (H:Hp) (vs:List V) (us:List Value) (Q:St->Hp->Prop),Inv X pins σ H s->Vals vs us->t vs σ H Q ->
  wpAny (model X.prog X.w) X.A (assignInOrder ((assignEach ts X.env).map (·.2)) us) (fun _ s'=>∃ σ' H',Inv X pins σ' H' s'/\Q σ' H') X.xe s
section
variable {X:Cx} {pos:Pos}
def gName (i:Nat):TG:=fun v σ H Q=>Q (σ.set i (some v)) H
theorem Jar {i:Nat} {x:Str} (hN:X.N.Nodup) (hi:X.N[i]?=some x) (hx:Loc X.env.scope x) (hf:X.fn x=true\/X.env.scope.names.lookup x=some .local:=by first | exact .inl rfl | exact .inr rfl | assumption):PG X (.Name x pos) (gName i):=by
 intro a s σ H v u Q I r h;exact wpAny_assign_Name (Jha I hN hi hx r (fun b I'=>⟨_,H,I',h⟩) hf)
def gNil:TGs:=fun vs σ H Q=>vs=[]/\Q σ H
def gCons (t:TG) (u:TGs):TGs:=fun vs σ H Q=>∃ v r,vs=v::r/\t v σ H fun σ' H'=>u r σ' H' Q
theorem Jdz:PGs X [] gNil:=by
 intro a s σ H c b Q I r h;obtain ⟨e,h⟩:=h;subst e;cases r;exact assignInOrder_nil ⟨σ,H,I,h⟩
theorem Jbh {e:Expr} {es:List Expr} {t:TG} {u:TGs} (h1:PG X e t) (h2:PGs X es u)
  (hs:(assignEach (e::es) X.env).map (·.2)=assign e X.env::(assignEach es X.env).map (·.2):=by rfl):PGs X (e::es) (gCons t u):=by
 intro a s σ H j i Q I r h;obtain ⟨v,g,c,h⟩:=h;subst c;cases r with
 | cons r rr=>
  rw [hs];refine assignInOrder_cons (thn (h1 a s σ H _ _ _ I r h) fun _ f ⟨σ1,d,I1,b⟩=>?_);exact h2 a f σ1 d _ _ Q I1 rr b
def gTup (K:W.Frag) (n:Nat) (t:TGs):TG:=fun v σ H Q=>∃ a xs,v=.ref a/\SqT K H a xs/\xs.length=n/\t xs σ H Q
theorem JfV {es:List Expr} {k:Nat} {t:TGs} {n:Nat} (hc:X.calm=true) (h:PGs X es t)
  (hn:(assignEach es X.env).length=n:=by rfl) (hst:(assignEach es X.env).findIdx? (·.1)=none:=by rfl):PG X (.Tuple es k pos) (gTup X.K n t):=by
 intro c s σ H v u Q I r d;obtain ⟨a,q,p,w,g,d⟩:=d;subst p;cases r;obtain ⟨m,f,j,x⟩:=I.tuple w;refine assign_Tuple_tuple (I.ok.hd hc) j (by simp [hn, <- g,f.length]) hst fun i l=>?_;have I1:Inv X c σ H { s with heap:=i }:=I.kept (t':=s.toks) fun b o e=>l b o (Nat.ne_of_lt (Heap.lt_size e)) e;exact h c _ σ H q _ Q I1 (by simpa using f) d
def tAsg (te:TE) (g:TG):TS:=fun D σ H=>te σ H fun x H1=>g x σ H1 D.nx
theorem JjR {tg e:Expr} {te:TE} {g:TG} (he:PE X e te) (hg:PG X tg g) (hs:swapsWithSole [tg] e pos.line X.env=pure false:=by rfl) (hw:swappedStores [tg] e X.env=pure none:=by rfl)
  (h1:(assignEach [tg] X.env).map (·.2)=[assign tg X.env]:=by rfl):PS X (.Assign [tg] e pos) (tAsg te g):=by
 intro a s σ H D I h;refine wpAny_Assign_stores (thn (he a s σ H _ I h) fun v d ⟨x,c,I1,f,b⟩=>?_) hs hw;rw [h1];exact thn (hg a d σ c x v _ I1 f b) fun _ i q=>q
theorem Jaj {i:Nat} {x:Str} {e:Expr} {te:TE} {pos':Pos} (hN:X.N.Nodup) (hi:X.N[i]?=some x) (hx:Loc X.env.scope x) (he:PE X e te) (hs:swapsWith e (some (.Name x pos')) pos.line X.env=pure false:=by rfl) (hf:X.fn x=true\/X.env.scope.names.lookup x=some .local:=by first | exact .inl rfl | exact .inr rfl | assumption) :
  PS X (.Assign [.Name x pos'] e pos) (tAsg te (gName i)):=by
 intro a s σ H D I h;refine wpAny_Assign_Name (thn (he a s σ H _ I h) fun v g ⟨y,c,I1,d,b⟩=>?_) hs;exact Jha I1 hN hi hx d (fun f I2=>⟨_,c,I2,b⟩) hf
end
section
variable {X:Cx} {pos:Pos}
def JlP (c:TT) (tb:TS):TS:=fun D σ H=>∃ W:Nat->St->Hp->Prop,(∃ m,W m σ H)/\∀ m σ H,W m σ H ->
 c σ H fun b H1=>if b=true then ∃ N:St->Hp->Prop,(∀ σ' H',N σ' H'->∃ m',m'<m/\W m' σ' H')/\tb { D with nx:=N,ct:=N,bk:=D.nx } σ H1 else D.nx σ H1
theorem JdS {c:Expr} {body:List Stmt} {tc:TT} {tb:TS} (hp:PassesOwn (model X.prog X.w) X.A X.env X.xe) (hc:PT X c tc) (hb:PSs X body tb):PS X (.While c body [] pos) (JlP tc tb):=by
 intro a s σ H D I h;obtain ⟨W,⟨r,y⟩,e⟩:=h;refine wpAny_While (codeAny_whileLoop (fun n u=>∃ σ' H',Inv X a σ' H' u/\W n σ' H') ?_ r ⟨σ,H,I,y⟩);rintro n z ⟨σ1,q,I1,x⟩;refine wpAny_passesOwn hp (thn (hc a z σ1 q _ I1 (e n σ1 q x)) fun b t ⟨p,I2,i⟩=>?_);cases b with
 | true=>
  obtain ⟨N,o,i⟩:=i;rw [if_pos rfl];refine wpAny_passesOwn hp (thn (hb a t σ1 p _ I2 i) fun f B g=>?_);cases f with
  | next=>
   obtain ⟨σ3,d,I3,k⟩:=g;obtain ⟨l,j,m⟩:=o σ3 d k;exact ⟨l,j,σ3,d,I3,m⟩
  | cont=>
   obtain ⟨σ3,d,I3,k⟩:=g;obtain ⟨l,j,m⟩:=o σ3 d k;exact ⟨l,j,σ3,d,I3,m⟩
  | brk=>exact g
  | ret v=>exact g
 | false=>
  rw [if_neg Bool.false_ne_true];exact wpAny_execs_nil ⟨σ1,p,I2,i⟩
end
structure It where
 go:Nat->Hp->Prop
 yld:Nat->Hp->V->Hp->Prop
 stop:Nat->Hp->Prop
def FpOk (X:Cx) (pins:List (Addr × Obj)) (H:Hp) (b:Addr):Prop :=
 H b=none/\b≠X.env.locals/\b∉X.fs/\(b∈X.ex\/X.s₀.heap.objs.size<=b)/\(∀ x c,X.env.cells.lookup x=some c->c≠b)/\∀ p∈X.pn++pins,p.1≠b
theorem Inv.fpOk {X:Cx} {pins:List (Addr × Obj)} {σ : St} {H H':Hp} {s:Shared} {b:Addr} (I:Inv X pins σ H s) (hb:s.heap.objs.size<=b) (hn:H' b=none):FpOk X pins H' b:=by
 refine ⟨hn,Nat.ne_of_gt (Nat.lt_of_lt_of_le I.lt hb),I.nofs hb, .inr (Nat.le_trans I.sz hb),fun x c e z=>?_,fun p a z=>?_⟩
 ·obtain ⟨v,q⟩:=I.cell x c e;exact absurd (Nat.lt_of_lt_of_le q.lt (by rw [z]; exact hb)) (Nat.lt_irrefl _)
 ·exact absurd (Nat.lt_of_lt_of_le (Heap.lt_size (I.pin p a).1) (by rw [z]; exact hb)) (Nat.lt_irrefl _)
structure Turn (P:Program) (w:World) (K:W.Frag) (tg:Expr) (J:It) (fp:List Addr) (it:Addr) (tn:Nat->Heap->Prop):Prop where
 mem:it∈fp
 obj:∀ i h,tn i h->∀ b∈fp, ∃ o,h.get? b=some o/\∀ v,o.data≠.cell v
 keep:∀ i h h',tn i h->(∀ b∈fp, ∀ o,h.get? b=some o->h'.get? b=some o)->tn i h'
 item:∀ (X:Cx),X.prog=P->X.w=w->X.K=K->X.calm=true->∀ (i:Nat) (pins:List (Addr × Obj)) (s:Shared) (σ : St) (H:Hp) (E:Value->Shared->Prop),Inv X pins σ H s->(∀ b∈fp,FpOk X pins H b)->tn i s.heap->J.go i H ->
  wpAny (model P w) X.A (pyNext (.ref it)) (fun r s1=>∃ u,r=some u /\
   wpAny (model P w) X.A (letOwnedTupleGo tg (.ref it) u) (fun _ s2=>∃ x H',Inv X pins σ H' s2/\RelV x u/\J.yld i H x H'/\tn (i+1) s2.heap/\∀ b∈fp,H' b=none) E s1) E s
 done:∀ (X:Cx),X.prog=P->X.w=w->X.K=K->X.calm=true->∀ (i:Nat) (pins:List (Addr × Obj)) (s:Shared) (σ : St) (H:Hp) (E:Value->Shared->Prop),Inv X pins σ H s->(∀ b∈fp,FpOk X pins H b)->tn i s.heap->J.stop i H ->
  wpAny (model P w) X.A (pyNext (.ref it)) (fun r s1=>r=none/\Inv X pins σ H s1) E s
 self:∀ (A:Around) (i:Nat) (s:Shared) (Q:Value->Shared->Prop) (E:Value->Shared->Prop),tn i s.heap->Q (.ref it) s->wpAny (model P w) A (pyIter (.ref it)) Q E s
abbrev TI:=St->Hp->(It->Hp->Prop)->Prop
def PIE (X:Cx) (pins:List (Addr × Obj)) (σ : St) (tg:Expr) (R:It->Hp->Prop) (itv:Value) (s2:Shared):Prop :=
 ∃ (it:Addr) (fp:List Addr) (tn:Nat->Heap->Prop) (J:It) (H':Hp),itv=.ref it/\Inv X pins σ H' s2/\Turn X.prog X.w X.K tg J fp it tn/\tn 0 s2.heap/\(∀ b∈fp,FpOk X pins H' b)/\R J H'
def PI (X:Cx) (tg iter:Expr) (wi:TI):Prop :=
 ∀ (pins:List (Addr × Obj)) (s:Shared) (σ : St) (H:Hp) (R:It->Hp->Prop),Inv X pins σ H s->wi σ H R ->
  wpAny (model X.prog X.w) X.A (eval iter X.env) (fun v s1=>wpAny (model X.prog X.w) X.A (pyIter v) (PIE X pins σ tg R) X.xe s1) X.xe s
theorem go_of {M:Model} {A:Around} {E:Value->Shared->Prop} {s:Shared} {tg:Expr} {it:Addr} {u:Value} {o:Obj} {n:String} {vs:Array Value} {Q:Unit->Shared->Prop} (ho:s.heap.get? it=some o) (hc:o.cls=.type n) (hd:o.data=.fields vs)
    (hn:["enumerate","zip","dict_itemiterator","dict_reverseitemiterator","odict_iterator","itertools.zip_longest","itertools.pairwise"].contains n=false) (hQ:Q () s):wpAny M A (letOwnedTupleGo tg (.ref it) u) Q E s:=by
  unfold letOwnedTupleGo;cases tg <;> first
    | exact wpAny_pure hQ
    | (cases u <;> first
        | exact wpAny_pure hQ
        | (refine wpAny_bind (wpAny_load ho ?_)
           rw [hc,hd];show wpAny M A (if (["enumerate","zip","dict_itemiterator","dict_reverseitemiterator","odict_iterator","itertools.zip_longest","itertools.pairwise"].contains n&&vs[0]? == some (rawInt _))=true then _ else _) Q E s;rw [if_neg (by intro h; rw [hn,Bool.false_and] at h; cases h)];exact wpAny_pure hQ))
def Itl (K:W.Frag) (a:Addr):It :=
 ⟨fun i H=>∃ xs x,SqL K H a xs/\xs[i]?=some x,fun i H x H'=>H'=H/\∀ xs,SqL K H a xs->xs[i]?=some x,fun i H=>∃ xs,SqL K H a xs/\xs.length<=i⟩
def Itt (K:W.Frag) (a:Addr):It :=
 ⟨fun i H=>∃ xs x,SqT K H a xs/\xs[i]?=some x,fun i H x H'=>H'=H/\∀ xs,SqT K H a xs->xs[i]?=some x,fun i H=>∃ xs,SqT K H a xs/\xs.length<=i⟩
def Itr (lo:Int) (n:Nat):It:=⟨fun i _=>i<n,fun i H x H'=>H'=H/\x=.int (lo+i),fun i _=>n<=i⟩
theorem JiV {P:Program} {w:World} {K:W.Frag} {tg:Expr} (a it:Addr):Turn P w K tg (Itl K a) [it] it (fun i h=>h.IsListIter it a i) where
 mem:=by simp
 obj:=fun i h f b j=>by
  have e:b=it:=by simpa using j
  subst e;obtain ⟨o,e,c,d⟩:=f;exact ⟨o,e,fun v z=>by rw [d] at z; cases z⟩
 keep:=fun i h m f k=>f.at fun o e=>k it (by simp) o e
 item:=by
  intro X G F M N i g s σ H E I n f A;subst G F M;obtain ⟨V,x,q,D⟩:=A;obtain ⟨J,t,p,U⟩:=I.list q;obtain ⟨u,S,R⟩:=t.get D;obtain ⟨L,y,Y,r,C,B⟩:=n it (by simp);refine wpAny_pyNext_list_item f p.isList (x:=u) (by simpa using S) fun m l Q=>?_;have I1:Inv X g σ H { s with heap:=m }:=I.turned (t':=s.toks) (fun b o j e=>(Q.2 b j).trans e) L y r C B;obtain ⟨o,e,c,d⟩:=id l;exact ⟨u,rfl,go_of (s:={ s with heap:=m }) e c d ⋯ ⟨x,H,I1,R,⟨rfl,fun ys T=>by rw [I.list_inj T q]; exact D⟩,l,fun b j=>(n b j).1⟩⟩
 done:=by
  intro X G F M N i g s σ H E I n f A;subst G F M;obtain ⟨V,q,D⟩:=A;obtain ⟨J,t,p,U⟩:=I.list q;obtain ⟨L,y,Y,r,C,B⟩:=n it (by simp);have Z:=t.length;exact wpAny_pyNext_list_end (I.ok.hd N) f p.isList (by simp; ac_nf) fun m O=>⟨rfl,I.turned (t':=s.toks) (fun b o j e=>O b o j e) L y r C B⟩
 self:=fun _ _ _ _ _ f h=>wpAny_pyIter_listiter f h
theorem JhH {P:Program} {w:World} {K:W.Frag} {tg:Expr} (a it:Addr):Turn P w K tg (Itt K a) [it] it (fun i h=>h.IsTupleIter it a i) where
 mem:=by simp
 obj:=fun i h f b j=>by
  have e:b=it:=by simpa using j
  subst e;obtain ⟨o,e,c,d⟩:=f;exact ⟨o,e,fun v z=>by rw [d] at z; cases z⟩
 keep:=fun i h n f k=>f.at fun o e=>k it (by simp) o e
 item:=by
  intro X J G M N i g s σ H E I q f B;subst J G M;obtain ⟨V,x,r,F⟩:=B;obtain ⟨l,y,p,U⟩:=I.tuple r;obtain ⟨u,S,R⟩:=y.get F;obtain ⟨L,A,Y,t,D,C⟩:=q it (by simp);refine wpAny_pyNext_tuple_item f (show s.heap.IsTuple a l.toArray from p) (x:=u) (by simpa using S) fun n m Q=>?_;have I1:Inv X g σ H { s with heap:=n }:=I.turned (t':=s.toks) (fun b o j e=>(Q.2 b j).trans e) L A t D C;obtain ⟨o,e,c,d⟩:=id m;exact ⟨u,rfl,go_of (s:={ s with heap:=n }) e c d ⋯ ⟨x,H,I1,R,⟨rfl,fun ys T=>by rw [I.tuple_inj T r]; exact F⟩,m,fun b j=>(q b j).1⟩⟩
 done:=by
  intro X J G M N i g s σ H E I q f B;subst J G M;obtain ⟨V,r,F⟩:=B;obtain ⟨l,y,p,U⟩:=I.tuple r;obtain ⟨L,A,Y,t,D,C⟩:=q it (by simp);have Z:=y.length;exact wpAny_pyNext_tuple_end (I.ok.hd N) f (show s.heap.IsTuple a l.toArray from p) (by simp; ac_nf) fun n O=>⟨rfl,I.turned (t':=s.toks) (fun b o j e=>O b o j e) L A t D C⟩
 self:=fun _ _ _ _ _ f h=>wpAny_pyIter_tupleiter f h
theorem JhG {P:Program} {w:World} {K:W.Frag} {tg:Expr} (it:Addr) (lo:Int) (n:Nat):Turn P w K tg (Itr lo n) [it] it (fun i h=>IsRangeIter h it (lo+(i:Nat)*1) ((n:Int)-(i:Nat)) 1) where
 mem:=by simp
 obj:=fun i h a b d=>by
  have e:b=it:=by simpa using d
  subst e;exact ⟨_,a,fun v z=>by
   have G:Data.fields _=Data.cell v:=z;cases G⟩
 keep:=fun i h g a k=>k it (by simp) _ a
 item:=by
  intro X y x B u i c s σ H E I j a p;subst y x B;obtain ⟨A,m,L,l,r,q⟩:=j it (by simp);have W:=Walks.range (prog:=X.prog) (w:=X.w) (I.ok.hd u) it lo 1 n;refine W.item i s _ _ p a fun v g C F f J=>?_;obtain ⟨t,rfl⟩:=F;have I1:Inv X c σ H { s with heap:=g,toks:=C }:=I.turned (fun b o d e=>J b o (by simpa using d) e) A m l r q;refine ⟨_,rfl,go_of (s:={ s with heap:=g,toks:=C }) (n:="range_iterator") f rfl rfl ⋯ ⟨.int (lo+i),H,I1,⟨t,?_⟩,⟨rfl,rfl⟩,f,fun b d=>(j b d).1⟩⟩;rw [Int.mul_one]
 done:=by
  intro X y x B u i c s σ H E I j a p;subst y x B;obtain ⟨A,m,L,l,r,q⟩:=j it (by simp);exact wpAny_pyNext_range_end (I.ok.hd u) a (by have : n<=i:=p; ac_nf) fun g D=>⟨rfl,I.turned (t':=s.toks) (fun b o d e=>D b o d e) A m l r q⟩
 self:=fun _ _ _ _ _ a h=>wpAny_pyIter_rangeiter a h
section
variable {X:Cx} {tg:Expr}
theorem Jjt {pins:List (Addr × Obj)} {σ : St} {H:Hp} {s:Shared} {R:It->Hp->Prop} {E:Value->Shared->Prop} {lo hi:Int} {t u v:Tok} {tk:Nat} (I:Inv X pins σ H s) (h1 : -(2 ^ 62)<=lo) (h2:lo<2 ^ 62) (h3 : -(2 ^ 62)<=hi) (h4:hi<2 ^ 62)
  (q:R (Itr lo (hi-lo).toNat) H):wpAny (model X.prog X.w) X.A (pyIter (.ref s.heap.objs.size)) (PIE X pins σ tg R) E { s with heap:=s.heap.push { cls:=.type "range",data:=.fields #[.int lo t, .int hi u, .int 1 v] },toks:=tk }:=by
 refine wpAny_pyIter_range (IsRange.new ..) (small_one h1 h2 h3 h4) ?_;have I1:Inv X pins σ H { s with heap:=s.heap.push { cls:=.type "range",data:=.fields #[.int lo t, .int hi u, .int 1 v] },toks:=tk }:=I.kept fun b o e=>Heap.get?_push_of_some _ e;refine ⟨(s.heap.push { cls:=.type "range",data:=.fields #[.int lo t, .int hi u, .int 1 v] }).objs.size,[(s.heap.push { cls:=.type "range",data:=.fields #[.int lo t, .int hi u, .int 1 v] }).objs.size],_,_,H,rfl,
  I1.kept (t':=tk) fun b o e=>Heap.get?_push_of_some _ e,JhG _ lo (hi-lo).toNat,?_,fun b c=>?_,q⟩
 ·have a:lo+((0:Nat):Int)*1=lo:=by simp
  have d:(((hi-lo).toNat:Nat):Int)-((0:Nat):Int)=Builtin.Range.rangeSize lo hi 1:=by rw [rangeSize_one]; split <;> ac_nf
  show IsRangeIter _ _ (lo+((0:Nat):Int)*1) ((((hi-lo).toNat:Nat):Int)-((0:Nat):Int)) 1;rw [a,d];exact Heap.get?_push_size _ rfl
 ·have e:b=(s.heap.push { cls:=.type "range",data:=.fields #[.int lo t, .int hi u, .int 1 v] }).objs.size:=by simpa using c
  subst e;exact I1.fpOk (Nat.le_refl _) (I1.hok.fresh (Nat.le_refl _))
def iRng1 (ta:TA):TI:=fun σ H R=>ta σ H fun vs H1=>∃ j:Int,vs=[.int j]/\-(2 ^ 62)<=j/\j<2 ^ 62/\R (Itr 0 j.toNat) H1
def iRng2 (ta:TA):TI:=fun σ H R=>ta σ H fun vs H1=>∃ i j:Int,vs=[.int i, .int j]/\(-(2 ^ 62)<=i/\i<2 ^ 62/\-(2 ^ 62)<=j/\j<2 ^ 62)/\R (Itr i (j-i).toNat) H1
theorem Jdj {a:Expr} {ta:TA} {p pos:Pos} (hg:Gl X "range") (hm:X.mg "range"=none) (ha:PA X [a] ta) (hs:starEach [a] X.env=[(false,eval a X.env)]:=by rfl):PI X tg (.Call (.Name "range" p) [a] [] pos) (iRng1 ta):=by
 intro b s σ H R I h;refine Call_ (JeM I hg hm boot_range (PyProof.Rows.callWith_type1 (thn (ha pos b s σ H _ I h) fun g l ⟨k,i,I1,f,c⟩=>?_) hs rfl));obtain ⟨j,e,c,d,q⟩:=c;subst e;cases f with
 | cons r rr=>
  cases rr;obtain ⟨t,rfl⟩:=r;exact call_range_1 (Jjt I1 ∅ ∅ c d (by simpa using q))
def tFor (wi:TI) (g:TG) (tb:TS):TS:=fun D σ H=>wi σ H fun J H1=>∃ W:Nat->Nat->St->Hp->Prop,(∃ m,W 0 m σ H1)/\∀ i m σ H,W i m σ H ->
 (J.stop i H/\D.nx σ H)\/(J.go i H/\∃ N:St->Hp->Prop,(∀ σ' H',N σ' H'->∃ m',m'<m/\W (i+1) m' σ' H')/\∀ x H',J.yld i H x H'->g x σ H' fun σ2 H2=>tb { D with nx:=N,ct:=N,bk:=D.nx } σ2 H2)
def Jg7 (fp:List Addr) (h:Heap):List (Addr × Obj):=fp.filterMap fun b=>(h.get? b).map fun o=>(b,o)
theorem Jcd {fp:List Addr} {h:Heap} {b:Addr} {o:Obj} (hb:b∈fp) (e:h.get? b=some o):(b,o)∈Jg7 fp h:=List.mem_filterMap.mpr ⟨b,hb,by rw [e]; rfl⟩
theorem Jig {fp:List Addr} {h:Heap} {p:Addr × Obj} (hp:p∈Jg7 fp h):p.1∈fp/\h.get? p.1=some p.2:=by
 obtain ⟨b,a,e⟩:=List.mem_filterMap.mp hp;cases q:h.get? b with
 | none=>rw [q] at e; cases e
 | some o=>
  rw [q] at e;have c:(b,o)=p:=Option.some.inj e;subst c;exact ⟨a,q⟩
theorem Inv.pinned {pins:List (Addr × Obj)} {σ : St} {H:Hp} {s:Shared} {fp:List Addr} (I:Inv X pins σ H s) (hf:∀ b∈fp,FpOk X pins H b) (ho:∀ b∈fp, ∃ o,s.heap.get? b=some o/\∀ v,o.data≠.cell v):Inv X (pins++Jg7 fp s.heap) σ H s :=
 I.pins_of fun p f=>(mem_append.mp f).elim (fun z=>I.pin p (mem_append_right _ z)) fun z=>by
  obtain ⟨c,e⟩:=Jig z;obtain ⟨h,i,g,_⟩:=hf p.1 c;obtain ⟨o,a,d⟩:=ho p.1 c;rw [e] at a; cases a;exact ⟨e,h,i,g,d⟩
theorem Inv.unpinned {pins pl:List (Addr × Obj)} {σ : St} {H:Hp} {s:Shared} (I:Inv X (pins++pl) σ H s):Inv X pins σ H s:=I.pins_of fun p a=>I.pin p (mem_append_right _ (List.mem_append_left _ a))
theorem Ja1 {iter:Expr} {body:List Stmt} {wi:TI} {g:TG} {tb:TS} {pos:Pos} (hp:PassesOwn (model X.prog X.w) X.A X.env X.xe) (hc:X.calm=true) (hi:PI X tg iter wi) (hg:PG X tg g) (hb:PSs X body tb)
  (hs:∀ x,foldedSetIterable iter X.env x=pure x:=by intro _; rfl):PS X (.For tg iter body [] pos) (tFor wi g tb):=by
 intro a s σ H D I h;refine wpAny_For (thn (hi a s σ H _ I h) fun v s1 h1=>thn h1 fun a0 s2 U=>?_) hs;obtain ⟨it,y,L,J,H2,e,I2,T,G,R,W,⟨Y,w0⟩,z⟩:=U;subst e;have k:∀ {H':Hp},(∀ b∈y,H' b=none)->∀ b∈y,FpOk X a H' b:=fun hn b hb=>⟨hn b hb,(R b hb).2⟩;refine codeAny_forLoop_any (fun n M=>∃ i σ' H',Inv X a σ' H' M/\L i M.heap/\(∀ b∈y,H' b=none)/\W i n σ' H') ?_ Y ⟨0,σ,H2,I2,G,fun b hb=>(R b hb).1,w0⟩;rintro n P ⟨i,σ3,C,I3,t,q,w3⟩;rcases z i n σ3 C w3 with ⟨stop,qn⟩ | ⟨go,N,hN,step⟩
 ·refine wpAny_passesOwn hp (thn (T.done X rfl rfl rfl hc i a P σ3 C X.xe I3 (k q) t stop) fun r V ⟨E,I4⟩=>?_);subst E;exact wpAny_execs_nil ⟨σ3,C,I4,qn⟩
 ·refine wpAny_passesOwn hp (thn (T.item X rfl rfl rfl hc i a P σ3 C X.xe I3 (k q) t go) fun r V ⟨u,E,h4⟩=>?_);subst E;refine wpAny_passesOwn hp (thn h4 fun _ O ⟨x,Q,I5,r5,y5,p,K⟩=>?_);have I5':=I5.pinned (k K) (T.obj _ _ p);refine wpAny_passesOwn hp (thn (hg _ O σ3 Q x u _ I5' r5 (step x Q y5)) fun _ s6 ⟨σ6,Z,I6,q6⟩=>?_);refine wpAny_passesOwn hp (thn (hb _ s6 σ6 Z _ I6 q6) fun f F l=>?_);have j:∀ {σ7:St} {c:Hp},Inv X (a++Jg7 y O.heap) σ7 c F->N σ7 c->∃ m,m<n/\∃ i σ' H',Inv X a σ' H' F/\L i F.heap/\(∀ b∈y,H' b=none)/\W i m σ' H':=fun {σ7 c} I7 B=>by
   obtain ⟨m',S,w7⟩:=hN σ7 c B;refine ⟨m',S,i+1,σ7,c,I7.unpinned,T.keep _ _ _ p fun b hb o e=>(I7.pin (b,o) (mem_append_right _ (mem_append_right _ (Jcd hb e)))).1,fun b hb=>?_,w7⟩;obtain ⟨o,e,d⟩:=T.obj _ _ p b hb;exact (I7.pin (b,o) (mem_append_right _ (mem_append_right _ (Jcd hb e)))).2.1
  cases f with
  | next=>obtain ⟨σ7,c,I7,B⟩:=l; exact j I7 B
  | cont=>obtain ⟨σ7,c,I7,B⟩:=l; exact j I7 B
  | brk=>obtain ⟨σ7,c,I7,l⟩:=l; exact ⟨σ7,c,I7.unpinned,l⟩
  | ret v=>obtain ⟨x7,σ7,c,I7,r7,l⟩:=l; exact ⟨x7,σ7,c,I7.unpinned,r7,l⟩
end
theorem Ji6 {K:W.Frag} {a:Addr} {xs:List V} {g:TG} {tb:TS} {D:Ends} {σ : St} {H:Hp} (Pv:Nat->St->Hp->Prop) (h0:Pv 0 σ H) (hl:∀ i σ H,i<=xs.length->Pv i σ H->SqL K H a xs)
  (hs:∀ i x σ H,xs[i]?=some x->Pv i σ H->g x σ H fun σ2 H2=>tb { D with nx:=Pv (i+1),ct:=Pv (i+1),bk:=D.nx } σ2 H2) (hd:∀ σ H,Pv xs.length σ H->D.nx σ H) :
  ∃ W:Nat->Nat->St->Hp->Prop,(∃ m,W 0 m σ H)/\∀ i m σ H,W i m σ H ->
   ((Itl K a).stop i H/\D.nx σ H)\/((Itl K a).go i H/\∃ N:St->Hp->Prop,(∀ σ' H',N σ' H'->∃ m',m'<m/\W (i+1) m' σ' H')/\∀ x H',(Itl K a).yld i H x H'->g x σ H' fun σ2 H2=>tb { D with nx:=N,ct:=N,bk:=D.nx } σ2 H2):=by
 refine ⟨fun i m σ H=>m=xs.length-i/\i<=xs.length/\Pv i σ H,⟨xs.length,by simp,Nat.zero_le _,h0⟩,?_⟩;rintro i m σ H ⟨rfl,c,p⟩;have q:=hl i σ H c p;by_cases b:i<xs.length
 ·refine .inr ⟨⟨xs,xs[i],q,by simp [b]⟩,Pv (i+1),fun σ' H' d=>⟨xs.length-(i+1),by ac_nf,rfl,b,d⟩,fun x H' y=>?_⟩;obtain ⟨e,y⟩:=y;subst e;exact hs i x σ _ (y xs q) p
 ·have e:i=xs.length:=by ac_nf
  subst e;exact .inl ⟨⟨xs,q,Nat.le_refl _⟩,hd σ H p⟩
theorem Jkl {K:W.Frag} {a:Addr} {xs:List V} {g:TG} {tb:TS} {D:Ends} {σ : St} {H:Hp} (Pv:Nat->St->Hp->Prop) (h0:Pv 0 σ H) (hl:∀ i σ H,i<=xs.length->Pv i σ H->SqT K H a xs)
  (hs:∀ i x σ H,xs[i]?=some x->Pv i σ H->g x σ H fun σ2 H2=>tb { D with nx:=Pv (i+1),ct:=Pv (i+1),bk:=D.nx } σ2 H2) (hd:∀ σ H,Pv xs.length σ H->D.nx σ H) :
  ∃ W:Nat->Nat->St->Hp->Prop,(∃ m,W 0 m σ H)/\∀ i m σ H,W i m σ H ->
   ((Itt K a).stop i H/\D.nx σ H)\/((Itt K a).go i H/\∃ N:St->Hp->Prop,(∀ σ' H',N σ' H'->∃ m',m'<m/\W (i+1) m' σ' H')/\∀ x H',(Itt K a).yld i H x H'->g x σ H' fun σ2 H2=>tb { D with nx:=N,ct:=N,bk:=D.nx } σ2 H2):=by
 refine ⟨fun i m σ H=>m=xs.length-i/\i<=xs.length/\Pv i σ H,⟨xs.length,by simp,Nat.zero_le _,h0⟩,?_⟩;rintro i m σ H ⟨rfl,c,p⟩;have q:=hl i σ H c p;by_cases b:i<xs.length
 ·refine .inr ⟨⟨xs,xs[i],q,by simp [b]⟩,Pv (i+1),fun σ' H' d=>⟨xs.length-(i+1),by ac_nf,rfl,b,d⟩,fun x H' y=>?_⟩;obtain ⟨e,y⟩:=y;subst e;exact hs i x σ _ (y xs q) p
 ·have e:i=xs.length:=by ac_nf
  subst e;exact .inl ⟨⟨xs,q,Nat.le_refl _⟩,hd σ H p⟩
theorem JhX {lo:Int} {n:Nat} {g:TG} {tb:TS} {D:Ends} {σ : St} {H:Hp} (Pv:Nat->St->Hp->Prop) (h0:Pv 0 σ H)
  (hs:∀ i σ H,i<n->Pv i σ H->g (.int (lo+i)) σ H fun σ2 H2=>tb { D with nx:=Pv (i+1),ct:=Pv (i+1),bk:=D.nx } σ2 H2) (hd:∀ σ H,Pv n σ H->D.nx σ H) :
  ∃ W:Nat->Nat->St->Hp->Prop,(∃ m,W 0 m σ H)/\∀ i m σ H,W i m σ H ->
   ((Itr lo n).stop i H/\D.nx σ H)\/((Itr lo n).go i H/\∃ N:St->Hp->Prop,(∀ σ' H',N σ' H'->∃ m',m'<m/\W (i+1) m' σ' H')/\∀ x H',(Itr lo n).yld i H x H'->g x σ H' fun σ2 H2=>tb { D with nx:=N,ct:=N,bk:=D.nx } σ2 H2):=by
 refine ⟨fun i m σ H=>m=n-i/\i<=n/\Pv i σ H,⟨n,by simp,Nat.zero_le _,h0⟩,?_⟩;rintro i m σ H ⟨rfl,c,p⟩;by_cases a:i<n
 ·refine .inr ⟨a,Pv (i+1),fun σ' H' b=>⟨n-(i+1),by ac_nf,rfl,a,b⟩,fun x H' y=>?_⟩;obtain ⟨e,y⟩:=y;subst e y;exact hs i σ _ a p
 ·have e:i=n:=by ac_nf
  subst e;exact .inl ⟨Nat.le_refl _,hd σ H p⟩
abbrev R2:=V->V->Hp->VK->Prop
def OpR (X:Cx) (f:Value->Value->Sem Value) (r:R2):Prop :=
 ∀ (pins:List (Addr × Obj)) (s:Shared) (σ : St) (H:Hp) (x y:V) (v u:Value) (Q:VK),Inv X pins σ H s->RelV x v->RelV y u->r x y H Q ->
  wpAny (model X.prog X.w) X.A (f v u) (EP X pins σ Q) X.xe s
def UnR (X:Cx) (f:Value->Sem Value) (r:V->Hp->VK->Prop):Prop :=
 ∀ (pins:List (Addr × Obj)) (s:Shared) (σ : St) (H:Hp) (x:V) (v:Value) (Q:VK),Inv X pins σ H s->RelV x v->r x H Q ->
  wpAny (model X.prog X.w) X.A (f v) (EP X pins σ Q) X.xe s
def CallR (X:Cx) (f:Value) (r:List V->Hp->VK->Prop):Prop :=
 ∀ (pins:List (Addr × Obj)) (s:Shared) (σ : St) (H:Hp) (xs:List V) (us:List Value) (Q:VK),Inv X pins σ H s->Vals xs us->r xs H Q ->
  wpAny (model X.prog X.w) X.A (call f us) (EP X pins σ Q) X.xe s
def tOp (r:R2) (ta tb:TE):TE:=fun σ H Q=>ta σ H fun x H1=>tb σ H1 fun y H2=>r x y H2 Q
def tUn (r:V->Hp->VK->Prop) (ta:TE):TE:=fun σ H Q=>ta σ H fun x H1=>r x H1 Q
def rI (C:Int->Int->Prop) (g:Int->Int->V):R2:=fun x y H Q=>∃ i j,x=.int i/\y=.int j/\C i j/\Q (g i j) H
def rI0 (g:Int->Int->V):R2:=fun x y H Q=>∃ i j,x=.int i/\y=.int j/\Q (g i j) H
def rU (g:Int->V):V->Hp->VK->Prop:=fun x H Q=>∃ i,x=.int i/\Q (g i) H
section
variable {X:Cx} {a b c:Expr} {ta tb tc:TE} {pos:Pos}
theorem binT (ha:PE X a ta) (hb:PE X b tb) {pins:List (Addr × Obj)} {s:Shared} {σ : St} {H:Hp} {R:V->V->Hp->Prop} (I:Inv X pins σ H s)
  (h:ta σ H fun x H1=>tb σ H1 fun y H2=>R x y H2) {Q:Value->Shared->Prop} {f:Value->Value->Sem Value}
  (hf:∀ v u s2 x y H2,Inv X pins σ H2 s2->RelV x v->RelV y u->R x y H2->wpAny (model X.prog X.w) X.A (f v u) Q X.xe s2) :
  wpAny (model X.prog X.w) X.A (eval a X.env) (fun v s₁=>wpAny (model X.prog X.w) X.A (eval b X.env) (fun u s₂=>wpAny (model X.prog X.w) X.A (f v u) Q X.xe s₂) X.xe s₁) X.xe s:=by
 refine thn (ha pins s σ H _ I h) fun v g ⟨x,H1,I1,i,c⟩=>?_;refine thn (hb pins g σ H1 _ I1 c) fun u s2 ⟨y,H2,I2,e,d⟩=>?_;exact hf v u s2 x y H2 I2 i e d
theorem pe_op {op:Operator} {r:R2} (ho:OpR X (binaryOp op) r) (ha:PE X a ta) (hb:PE X b tb):PE X (.BinOp a op b pos) (tOp r ta tb):=by
 intro c s σ H Q I h;exact wpAny_BinOp (binT ha hb I h fun v u g x y f I2 d e q=>ho c g σ f x y v u Q I2 d e q)
theorem pe_un {op:UnaryOp} {r:V->Hp->VK->Prop} (ho:UnR X (unaryOp op) r) (ha:PE X a ta):PE X (.UnaryOp op a pos) (tUn r ta):=by
 intro b s σ H Q I h;exact UnaryOp_ (thn (ha b s σ H _ I h) fun v e ⟨x,d,I1,f,c⟩=>ho b e σ d x v Q I1 f c)
theorem opI {f:Value->Value->Sem Value} {C:Int->Int->Prop} {g:Int->Int->Int}
  (rule:∀ (i j:Int) (t u:Tok) (s:Shared) (Q:Value->Shared->Prop) (E:Value->Shared->Prop),C i j->Q (.int (g i j) s.toks) { s with toks:=s.toks+1 }->wpAny (model X.prog X.w) X.A (f (.int i t) (.int j u)) Q E s) :
  OpR X f (rI C fun i j=>.int (g i j)):=by
 intro a s σ H x y v u Q I b c h;obtain ⟨i,j,rfl,rfl,e,q⟩:=h;obtain ⟨t,rfl⟩:=b;obtain ⟨d,rfl⟩:=c;exact rule i j t d s _ _ e ⟨.int (g i j),H,I.tok _,⟨_,rfl⟩,q⟩
theorem opI0 {f:Value->Value->Sem Value} {g:Int->Int->Int}
  (rule:∀ (i j:Int) (t u:Tok) (s:Shared) (Q:Value->Shared->Prop) (E:Value->Shared->Prop),Q (.int (g i j) s.toks) { s with toks:=s.toks+1 }->wpAny (model X.prog X.w) X.A (f (.int i t) (.int j u)) Q E s) :
  OpR X f (rI0 fun i j=>.int (g i j)):=by
 intro a s σ H x y v u Q I b c h;obtain ⟨i,j,rfl,rfl,q⟩:=h;obtain ⟨t,rfl⟩:=b;obtain ⟨d,rfl⟩:=c;exact rule i j t d s _ _ ⟨.int (g i j),H,I.tok _,⟨_,rfl⟩,q⟩
theorem opB0 {f:Value->Value->Sem Value} {g:Int->Int->Bool}
  (rule:∀ (i j:Int) (t u:Tok) (s:Shared) (Q:Value->Shared->Prop) (E:Value->Shared->Prop),Q (.bool (g i j)) s->wpAny (model X.prog X.w) X.A (f (.int i t) (.int j u)) Q E s) :
  OpR X f (rI0 fun i j=>.bl (g i j)):=by
 intro a s σ H x y v u Q I b c h;obtain ⟨i,j,rfl,rfl,q⟩:=h;obtain ⟨t,rfl⟩:=b;obtain ⟨d,rfl⟩:=c;exact rule i j t d s _ _ ⟨.bl (g i j),H,I,rfl,q⟩
def CPow (i j:Int):Prop:=0<=j/\j<=1000000/\i.natAbs<2 ^ 64
theorem Jls:OpR X (binaryOp .Add) (rI0 fun i j=>.int (i+j)):=opI0 fun _ _ _ _ _ _ _ q=>add_int q
theorem Jio:OpR X (binaryOp .Sub) (rI0 fun i j=>.int (i-j)):=opI0 fun _ _ _ _ _ _ _ q=>sub_int q
theorem JkE:OpR X (binaryOp .Mod) (rI (fun _ j=>j≠0) fun i j=>.int (i.fmod j)):=opI fun _ _ _ _ _ _ _ a q=>mod_int' a q
theorem Jly:OpR X (binaryOp .Pow) (rI CPow fun i j=>.int (i ^ j.toNat)):=opI fun _ _ _ _ _ _ _ a q=>pow_int_small a.1 a.2.1 a.2.2 q
theorem unI {f:Value->Sem Value} {g:Int->Int}
  (rule:∀ (i:Int) (t:Tok) (s:Shared) (Q:Value->Shared->Prop) (E:Value->Shared->Prop),Q (.int (g i) s.toks) { s with toks:=s.toks+1 }->wpAny (model X.prog X.w) X.A (f (.int i t)) Q E s) :
  UnR X f (rU fun i=>.int (g i)):=by
 intro a s σ H x v Q I b h;obtain ⟨i,rfl,q⟩:=h;obtain ⟨t,rfl⟩:=b;exact rule i t s _ _ ⟨.int (g i),H,I.tok _,⟨_,rfl⟩,q⟩
theorem Jf5:UnR X (unaryOp .USub) (rU fun i=>.int (-i)):=unI fun _ _ _ _ _ q=>neg_int q
end
def scal:V->V->Bool
 | .non, .non=>true | .non, .int _=>true | .int _, .non=>true | .non, .bl _=>true | .bl _, .non=>true | .non, .str _=>true | .str _, .non=>true
 | .int _, .int _=>true | .bl _, .bl _=>true | .str _, .str _=>true | .byt _, .byt _=>true
 | .int _, .str _=>true | .str _, .int _=>true | .bl _, .str _=>true | .str _, .bl _=>true
 | _,_=>false
def rEq:R2:=fun x y H Q=>scal x y=true/\Q (.bl (decide (x=y))) H
def rNe:R2:=fun x y H Q=>scal x y=true/\Q (.bl (!decide (x=y))) H
theorem JhT {i j:Int}:decide (V.int i=V.int j)=(i == j):=by
 rw [Bool.eq_iff_iff];simp
theorem JjG {i j:Bool}:decide (V.bl i=V.bl j)=(i == j):=by
 rw [Bool.eq_iff_iff];simp
theorem JhU {i j:Str}:decide (V.str i=V.str j)=(i == j):=by
 rw [Bool.eq_iff_iff];simp
theorem JhS {i j:Array UInt8}:decide (V.byt i=V.byt j)=(i.toList == j.toList):=by
 rw [Bool.eq_iff_iff];cases i;cases j;simp
section
variable {X:Cx} {a b c:Expr} {ta tb tc:TE} {pos:Pos}
theorem JaQ {pins:List (Addr × Obj)} {σ : St} {H:Hp} {s:Shared} {Q:VK} {k k':Bool} (I:Inv X pins σ H s) (q:Q (.bl k) H) (e:k=k'):EP X pins σ Q (.bool k') s:=by
 subst e;exact ⟨.bl k,H,I,rfl,q⟩
theorem op_eq:OpR X (compareOp .Eq) rEq:=by
 intro e s σ H x y v u Q I d a h;obtain ⟨c,q⟩:=h;cases x with
 | non=>
  cases d;cases y with
  | non=>cases a; exact PySem.EqNone.eq_none_none (JaQ I q (by simp))
  | bl j=>cases a; exact PySem.EqNone.eq_none_bool (JaQ I q (by simp))
  | int j=>obtain ⟨b,rfl⟩:=a; exact PySem.EqNone.eq_none_int (JaQ I q (by simp))
  | str j=>obtain ⟨b,rfl⟩:=a; exact PySem.EqNone.eq_none_str (JaQ I q (by simp))
  | _=>exact absurd (show false=true from c) Bool.false_ne_true
 | bl i=>
  cases d;cases y with
  | non=>cases a; exact PySem.EqNone.eq_bool_none (JaQ I q (by simp))
  | bl j=>cases a; exact eq_bool (JaQ I q JjG)
  | str j=>obtain ⟨b,rfl⟩:=a; exact PySem.EqMixed.eq_bool_str (JaQ I q (by simp))
  | _=>exact absurd (show false=true from c) Bool.false_ne_true
 | int i=>
  obtain ⟨t,rfl⟩:=d;cases y with
  | non=>cases a; exact PySem.EqNone.eq_int_none (JaQ I q (by simp))
  | int j=>obtain ⟨b,rfl⟩:=a; exact eq_int (JaQ I q JhT)
  | str j=>obtain ⟨b,rfl⟩:=a; exact PySem.EqMixed.eq_int_str (JaQ I q (by simp))
  | _=>exact absurd (show false=true from c) Bool.false_ne_true
 | str i=>
  obtain ⟨t,rfl⟩:=d;cases y with
  | non=>cases a; exact PySem.EqNone.eq_str_none (JaQ I q (by simp))
  | bl j=>cases a; exact PySem.EqMixed.eq_str_bool (JaQ I q (by simp))
  | int j=>obtain ⟨b,rfl⟩:=a; exact PySem.EqMixed.eq_str_int (JaQ I q (by simp))
  | str j=>obtain ⟨b,rfl⟩:=a; exact eq_str (JaQ I q JhU)
  | _=>exact absurd (show false=true from c) Bool.false_ne_true
 | byt i=>
  obtain ⟨t,rfl⟩:=d;cases y with
  | byt j=>obtain ⟨b,rfl⟩:=a; exact W.eq_bytes (JaQ I q JhS)
  | _=>exact absurd (show false=true from c) Bool.false_ne_true
 | _=>cases y <;> exact absurd (show false=true from c) Bool.false_ne_true
theorem op_ne:OpR X (compareOp .NotEq) rNe:=by
 intro e s σ H x y v u Q I d a h;obtain ⟨c,q⟩:=h;cases x with
 | non=>
  cases d;cases y with
  | non=>cases a; exact PySem.EqNone.ne_none_none (JaQ I q (by simp))
  | bl j=>cases a; exact PySem.EqNone.ne_none_bool (JaQ I q (by simp))
  | int j=>obtain ⟨b,rfl⟩:=a; exact PySem.EqNone.ne_none_int (JaQ I q (by simp))
  | str j=>obtain ⟨b,rfl⟩:=a; exact PySem.EqNone.ne_none_str (JaQ I q (by simp))
  | _=>exact absurd (show false=true from c) Bool.false_ne_true
 | bl i=>
  cases d;cases y with
  | non=>cases a; exact PySem.EqNone.ne_bool_none (JaQ I q (by simp))
  | bl j=>cases a; exact ne_bool (JaQ I q (congrArg not JjG))
  | str j=>obtain ⟨b,rfl⟩:=a; exact PySem.EqMixed.ne_bool_str (JaQ I q (by simp))
  | _=>exact absurd (show false=true from c) Bool.false_ne_true
 | int i=>
  obtain ⟨t,rfl⟩:=d;cases y with
  | non=>cases a; exact PySem.EqNone.ne_int_none (JaQ I q (by simp))
  | int j=>obtain ⟨b,rfl⟩:=a; exact ne_int (JaQ I q (congrArg not JhT))
  | str j=>obtain ⟨b,rfl⟩:=a; exact PySem.EqMixed.ne_int_str (JaQ I q (by simp))
  | _=>exact absurd (show false=true from c) Bool.false_ne_true
 | str i=>
  obtain ⟨t,rfl⟩:=d;cases y with
  | non=>cases a; exact PySem.EqNone.ne_str_none (JaQ I q (by simp))
  | bl j=>cases a; exact PySem.EqMixed.ne_str_bool (JaQ I q (by simp))
  | int j=>obtain ⟨b,rfl⟩:=a; exact PySem.EqMixed.ne_str_int (JaQ I q (by simp))
  | str j=>obtain ⟨b,rfl⟩:=a; exact ne_str (JaQ I q (congrArg not JhU))
  | _=>exact absurd (show false=true from c) Bool.false_ne_true
 | byt i=>
  obtain ⟨t,rfl⟩:=d;cases y with
  | byt j=>obtain ⟨b,rfl⟩:=a; exact W.ne_bytes (JaQ I q (congrArg not JhS))
  | _=>exact absurd (show false=true from c) Bool.false_ne_true
 | _=>cases y <;> exact absurd (show false=true from c) Bool.false_ne_true
theorem op_lt:OpR X (compareOp .Lt) (rI0 fun i j=>.bl (decide (i<j))):=opB0 fun _ _ _ _ _ _ _ q=>lt_int q
theorem op_gt:OpR X (compareOp .Gt) (rI0 fun i j=>.bl (decide (j<i))):=opB0 fun _ _ _ _ _ _ _ q=>gt_int q
theorem op_ge:OpR X (compareOp .GtE) (rI0 fun i j=>.bl (decide (j<=i))):=opB0 fun _ _ _ _ _ _ _ q=>ge_int q
theorem Jil:OpR X (compareOp .In) (fun x y H Q=>∃ i j,x=.str i/\y=.str j/\Q (.bl (!(Builtin.Str.occurrences j i 0 j.length 1).isEmpty)) H):=by
 intro a s σ H x y v u Q I b c h;obtain ⟨i,j,rfl,rfl,q⟩:=h;obtain ⟨t,rfl⟩:=b;obtain ⟨d,rfl⟩:=c;exact in_str (JaQ I q rfl)
theorem Jlw:OpR X (compareOp .Is) (fun x y H Q=>y=.non/\Q (.bl (decide (x=.non))) H):=by
 intro b s σ H x y v u Q I a c h;obtain ⟨rfl,q⟩:=h;cases c;refine is_none_gen (JaQ I q ?_);cases x <;> first
  | (cases a; rfl)
  | (obtain ⟨t,rfl⟩:=a; rfl)
theorem JkH:OpR X (compareOp .IsNot) (fun x y H Q=>y=.non/\Q (.bl (!decide (x=.non))) H):=by
 intro b s σ H x y v u Q I a c h;obtain ⟨rfl,q⟩:=h;cases c;refine isnot_none_gen (JaQ I q ?_);cases x <;> first
  | (cases a; rfl)
  | (obtain ⟨t,rfl⟩:=a; rfl)
theorem Jaz (b:Expr) {op:CmpOp} (h:op≠.In:=by decide) (h2:op≠.NotIn:=by decide):behindInMarks op b=false:=by
 have a:(op == CmpOp.In)=false:=by cases op <;> first | rfl | exact absurd rfl h
 have c:(op == CmpOp.NotIn)=false:=by cases op <;> first | rfl | exact absurd rfl h2
 cases b <;> simp [behindInMarks,a,c]
theorem Jbf {op:CmpOp} {r:R2} (ho:OpR X (compareOp op) r) (ha:PE X a ta) (hb:PE X b tb) (hm:behindInMarks op b=false):PE X (.Compare a [op] [b] pos) (tOp r ta tb):=by
 intro c s σ H Q I h;exact wpAny_Compare1 (binT ha hb I h fun v u g x y f I2 d e q=>ho c g σ f x y v u Q I2 d e q) hm
def tTest (t:TE):TT:=fun σ H Q=>t σ H fun x H'=>∃ k,x=.bl k/\Q k H'
theorem Jax {op:CmpOp} {r:R2} (ho:OpR X (compareOp op) r) (ha:PE X a ta) (hb:PE X b tb) (hm:behindInMarks op b=false):PT X (.Compare a [op] [b] pos) (tTest (tOp r ta tb)):=by
 intro d s σ H Q I h;refine wpAny_isTrue_Compare1 (thn (ha d s σ H _ I h) fun v q ⟨x,p,I1,t,f⟩=>thn (hb d q σ p _ I1 f) fun u i ⟨y,m,I2,g,n⟩=>
  thn (ho d i σ m x y v u _ I2 t g n) fun c w ⟨z,o,I3,j,k,e,l⟩=>?_) hm
 subst e;cases j;exact wpAny_truthy_bool ⟨o,I3,l⟩
def JlM (r r':R2) (ta tb tc:TE):TE:=fun σ H Q=>ta σ H fun x H1=>tb σ H1 fun y H2=>r x y H2 fun z H3=>∃ k,z=.bl k /\
 (if k=true then tc σ H3 fun w' H4=>r' y w' H4 Q else Q (.bl false) H3)
theorem JeN:(sizeLine:Nat)<2 ^ 63:=by rw [sizeLine_eq]; decide
theorem Jhx:OpR X (binaryOp .Add) (fun x y H Q=>∃ i j,x=.str i/\y=.str j/\i.length+j.length<=sizeLine/\Q (.str (i++j)) H):=by
 intro a s σ H x y v u Q I c b h;obtain ⟨i,j,rfl,rfl,e,q⟩:=h;obtain ⟨t,rfl⟩:=c;obtain ⟨d,rfl⟩:=b;exact add_str (fun d f=>⟨.str (i++j),H,I.tok _,⟨_,rfl⟩,q⟩) e
theorem vals1 {x:V} {us:List Value} (r:Vals [x] us):∃ u,us=[u]/\RelV x u:=by
 cases r with
 | cons r1 r2=>cases r2; exact ⟨_,rfl,r1⟩
theorem vals2 {x y:V} {us:List Value} (r:Vals [x,y] us):∃ u w',us=[u,w']/\RelV x u/\RelV y w':=by
 cases r with
 | cons r1 r2=>
  cases r2 with
  | cons r3 r4=>cases r4; exact ⟨_,_,rfl,r1,r3⟩
theorem Ji3:CallR X (.builtin "abs") (fun xs H Q=>∃ i,xs=[.int i]/\Q (.int (if i<0 then -i else i)) H):=by
 intro a s σ H xs c Q I r h;obtain ⟨i,rfl,q⟩:=h;obtain ⟨u,rfl,t,rfl⟩:=vals1 r;exact call_abs_int fun u b=>⟨.int (if i<0 then -i else i),H,I.tok _,⟨_,rfl⟩,q⟩
theorem JhM (hc:X.calm=true):CallR X (.builtin "min") (fun xs H Q=>∃ i j,xs=[.int i, .int j]/\Q (.int (if j<i then j else i)) H):=by
 intro b s σ H xs g Q I r h;obtain ⟨i,j,rfl,q⟩:=h;obtain ⟨u,e,rfl,⟨t,rfl⟩,⟨f,rfl⟩⟩:=vals2 r;refine min_two_ints (I.ok.hd hc) fun c d k=>⟨_,H,I.kept k,?_,q⟩;by_cases a:j<i
 ·rw [if_pos a,if_pos a]; exact ⟨_,rfl⟩
 ·rw [if_neg a,if_neg a]; exact ⟨_,rfl⟩
theorem JfB:CallR X (.type "int") (fun xs H Q=>(∃ i,xs=[.int i]/\Q (.int i) H)\/∃ k,xs=[.bl k]/\Q (.int (if k then 1 else 0)) H):=by
 intro a s σ H xs c Q I r h;rcases h with ⟨i,rfl,q⟩ | ⟨k,rfl,q⟩
 ·obtain ⟨u,rfl,t,rfl⟩:=vals1 r;exact call_int_int ⟨.int i,H,I,⟨_,rfl⟩,q⟩
 ·obtain ⟨u,rfl,b⟩:=vals1 r;cases b;exact call_int_bool ⟨.int (if k then 1 else 0),H,I.tok _,⟨_,rfl⟩,q⟩
end
structure ObjM (h:Heap) (x dx C:Addr) (mA:Str->Option Value):Prop where
 obj:h.get? x=some (W.instObj C dx)
 ns:h.Ns1 dx mA
 ne:dx≠x
theorem JfK {h:Heap} {dx:Addr} {mA:Str->Option Value} (n:h.Ns1 dx mA):∃ od,h.get? dx=some od/\∀ name,W.lookIn name od=some (mA name):=by
 obtain ⟨o,c,l,g,j,d,_,f⟩:=n;refine ⟨o,g,fun name=>?_⟩;have e:=f name;unfold nsFind findBy at e;rw [<- Array.find?_toList] at e;unfold W.lookIn;rw [j];dsimp only;split
 ·rename_i y q;rw [q] at e;exact congrArg some e
 ·rename_i q;rw [q] at e;have a:c.toList.any (·.refKey)=false:=by
   rw [List.any_eq_false];intro y k;obtain ⟨z,t,b⟩:=d y (Array.mem_toList_iff.mp k);simp [DictEntry.refKey,b]
  have i:¬ c.toList.any (·.refKey)=true:=by rw [a]; exact Bool.false_ne_true
  rw [if_neg i];exact congrArg some e
theorem ObjM.look {h:Heap} {x dx C:Addr} {mA:Str->Option Value} (I:ObjM h x dx C mA):∃ od,W.InstAt h x (W.instObj C dx) C (some od)/\∀ name,W.lookIn name od=some (mA name) :=
 let ⟨od,ho,hl⟩:=JfK I.ns
 ⟨od,⟨I.obj,rfl,rfl,ho⟩,hl⟩
section
variable {prog:Program} {w:World} {A:Around} {E:Value->Shared->Prop} {s:Shared} {K:W.Frag} {x dx C f:Addr} {mA:Str->Option Value} {name:Str} {v:Value}
theorem get_map {expr:Bool} {Q:Value->Shared->Prop} (X:K.In s.heap) (I:ObjM s.heap x dx C mA) (hg:W.plainGet K C name=true) (hh:W.hasDictIn K C=true)
  (ha:W.findIn K (.ref C) name=some none) (hv:mA name=some v) (hv':W.handedIn v=true) (h:Q v { s with toks:=s.toks+1 }) :
  wpAny (model prog w) A (getAttr (.ref x) name expr) Q E s:=by
 obtain ⟨b,J,a⟩:=I.look;exact W.get_value X J (W.plainGet_of hg).1 (W.findObj_own hh ha rfl (by rw [a,hv])) hv' h
theorem Ji7 {pl:Sem Bool} {Q:Value × List Value->Shared->Prop} (X:K.In s.heap) (I:ObjM s.heap x dx C mA) (hg:W.plainGet K C name=true)
  (hf:W.findIn K (.ref C) name=some (some (.ref f))) (ht:W.isFn K (.ref f)=true) (hv:mA name=none) (h:Q (.ref f,[.ref x]) s) :
  wpAny (model prog w) A (getMethod (.ref x) name pl) Q E s:=by
 obtain ⟨a,J,b⟩:=I.look;exact W.method_fn X J (W.plainGet_of hg).1 (W.plainGet_of hg).2 hf (beq_iff_eq.mp ht) (by show (W.lookIn name a).map (·.isSome)=some false; rw [b,hv]; rfl) h
theorem JkU {ns:List Str} {Q:Unit->Shared->Prop} (X:K.In s.heap) (I:ObjM s.heap x dx C mA)
  (hs:W.findIn K (.ref C) "__setattr__"=some (some (.builtin "object.__setattr__"))) (hp:W.plainOver K C=true) (ht:W.takerIn K C name=some none) (hh:W.hasDictIn K C=true)
  (hw:PySem.Within mA ns) (hsz:ns.length<=sizeLine)
  (h:∀ h',ObjM h' x dx C (fun y=>if y=name then some v else mA y)->Heap.SameBut dx s.heap h'->Q () { s with heap:=h',toks:=s.toks+2 }) :
  wpAny (model prog w) A (setAttr (.ref x) name v) Q E s:=by
 obtain ⟨q,J,o⟩:=I.look;refine W.set_plain X J hs (W.osa_open (s:={ s with toks:=s.toks+1 }) (r:=none) X J hp ht fun b=>?_);obtain ⟨p,m,e⟩:=W.any_some hh;have j:s.heap.get? x=some ⟨.ref C,some dx, .plain, #[]⟩:=I.obj;refine wpAny_bind (wpAny_pure (wpAny_bind (wpAny_bind (wpAny_loadPart j (wpAny_bind (W.Looks.here (s:={ s with toks:=s.toks+1 }) (W.looks_clsIn X m) ?_))))));rw [e];refine wpAny_pure (a:=some dx) (wpAny_bind (wpAny_pure (wpAny_bind ?_)));refine wpAny_nsSet1 (s:={ s with toks:=s.toks+1 }) I.ns fun h' c d=>?_;obtain ⟨n,l,k,f,g,i⟩:=c.count (PySem.Within.cons name v hw);refine wpAny_bind (wpAny_lookBehind f (by rw [g]; exact pastItsLine_dict (Nat.le_trans i (by rw [length_cons]; ac_nf))) ?_);exact wpAny_pure (h _ ⟨(d.2 _ (Ne.symm I.ne)).trans I.obj,c,I.ne⟩ d)
theorem Jjc {R:Result->Shared->Prop} {vs:List Value} {kw:List (Str × Value)} (X:K.In s.heap) (hm:W.makesIn K C=true)
  (hi:W.findIn K (.ref C) "__init__"=some (some (.ref f))) (hf:W.typeIn K (.ref f)=some (.type "function"))
  (h:codeAny (model prog w) (A.under (.builtin "type.__call__" ⟨.ref C::vs,kw⟩)) (.call (.ref f) ⟨.ref (s.heap.objs.size+1)::vs,kw⟩) (W.InitBack (s.heap.objs.size+1) R)
   { s with heap:=(s.heap.push W.emptyDict).push (W.instObj C s.heap.objs.size) }) :
  codeAny (model prog w) A (.call (.ref C) ⟨vs,kw⟩) R s:=by
 obtain ⟨c,g,d,t,b⟩:=s;exact W.make_core (W.makes_of X hm) (W.looks_findIn X hi) (fun a=>W.bind_fn X a hf) (.inl rfl) h
end
def putF (f:Str) (v:V):List (Str × V)->List (Str × V)
 | []=>[(f,v)]
 | (g,x)::r=>if g=f then (g,v)::r else (g,x)::putF f v r
theorem Jd6 (f g:Str) (v:V):∀ fs:List (Str × V),(putF f v fs).lookup g=if g=f then some v else fs.lookup g
 | []=>by
  show List.lookup g [(f,v)]=_;by_cases h:g=f
  ·have hb:(g == f)=true:=beq_iff_eq.mpr h;simp only [List.lookup,hb,if_pos h]
  ·have hb:(g == f)=false:=beq_eq_false_iff_ne.mpr h;simp only [List.lookup,hb,if_neg h]
 | (k,x)::r=>by
  have ih:=Jd6 f g v r;rw [show putF f v ((k,x)::r)=(if k=f then (k,v)::r else (k,x)::putF f v r) from rfl];by_cases hk:k=f
  ·rw [if_pos hk];by_cases h:g=k
   ·have hb:(g == k)=true:=beq_iff_eq.mpr h;simp only [List.lookup,hb,if_pos (h.trans hk)]
   ·have hb:(g == k)=false:=beq_eq_false_iff_ne.mpr h;simp only [List.lookup,hb,if_neg (fun e:g=f=>h (e.trans hk.symm))]
  ·rw [if_neg hk];by_cases h:g=k
   ·have hb:(g == k)=true:=beq_iff_eq.mpr h;simp only [List.lookup,hb,if_neg (fun e:g=f=>hk (h.symm.trans e))]
   ·have hb:(g == k)=false:=beq_eq_false_iff_ne.mpr h;simp only [List.lookup,hb];exact ih
theorem Jd2 (f:Str) (v:V):∀ fs:List (Str × V),f∈(putF f v fs).map (·.1)/\∀ g,g∈fs.map (·.1)->g∈(putF f v fs).map (·.1)
 | []=>⟨by simp [putF],fun g h=>by simp at h⟩
 | (k,x)::r=>by
  obtain ⟨i1,i2⟩:=Jd2 f v r;rw [show putF f v ((k,x)::r)=(if k=f then (k,v)::r else (k,x)::putF f v r) from rfl];by_cases hk:k=f
  ·rw [if_pos hk];subst hk;exact ⟨by simp,fun g h=>by simpa using h⟩
  ·rw [if_neg hk];refine ⟨?_,fun g h=>?_⟩
   ·rw [map_cons];exact mem_cons_of_mem _ i1
   ·rw [map_cons] at h ⊢;rcases mem_cons.mp h with e | e
    ·exact mem_cons.mpr (.inl e)
    ·exact mem_cons_of_mem _ (i2 g e)
theorem Jd5 (f:Str) (v:V):∀ fs:List (Str × V),(putF f v fs).length<=fs.length+1
 | []=>by simp [putF]
 | (k,x)::r=>by
  have ih:=Jd5 f v r;rw [show putF f v ((k,x)::r)=(if k=f then (k,v)::r else (k,x)::putF f v r) from rfl];by_cases hk:k=f
  ·rw [if_pos hk,length_cons,length_cons]; ac_nf
  ·rw [if_neg hk,length_cons,length_cons]; ac_nf
theorem RelO.some_of {v:V} {o:Option Value} (r:RelO (some v) o):∃ u,o=some u/\RelV v u:=by
 cases o with
 | none=>exact (show False from r).elim
 | some u=>exact ⟨u,rfl,r⟩
theorem RelO.none_of {o:Option Value} (r:RelO none o):o=none:=by
 cases o with
 | none=>rfl
 | some u=>exact (show False from r).elim
theorem Jh3 {v:V} {u:Value} (r:RelV v u):W.handedIn u=true:=by
 cases v with
 | non=>cases (show u=Value.none from r); rfl
 | bl b=>cases (show u=Value.bool b from r); rfl
 | int i=>obtain ⟨t,e⟩:=(show ∃ t,u=Value.int i t from r); cases e; rfl
 | str x=>obtain ⟨t,e⟩:=(show ∃ t,u=Value.str x t from r); cases e; rfl
 | byt b=>obtain ⟨t,e⟩:=(show ∃ t,u=Value.bytes b t from r); cases e; rfl
 | flt b=>obtain ⟨t,e⟩:=(show ∃ t,u=Value.float b t from r); cases e; rfl
 | ref a=>cases (show u=Value.ref a from r); rfl
 | ty n=>cases (show u=Value.type n from r); rfl
section
variable {P:Program} {w:World} {H H':Hp} {h h':Heap} {a C dx:Addr} {fs fs':List (Str × V)}
theorem Jgk (hok:HOk P w H h) (e:H a=some (.ins C dx fs)):∃ mA,ObjM h a dx C mA/\(∀ f,RelO (fs.lookup f) (mA f))/\PySem.Within mA (fs.map (·.1))/\fs.length<=1000/\H dx=some (.own a):=by
 obtain ⟨d,z,b,c,mA,n,r,q⟩:=(show ObjOk P w H h a (.ins C dx fs) from hok a _ e);exact ⟨mA,⟨c,n,b⟩,r,q,z,d⟩
end
structure Cls (K:W.Frag) (C:Addr):Prop where
 pg:W.plainGet K C Str.empty=true
 hd:W.hasDictIn K C=true
 po:W.plainOver K C=true
 sa:W.findIn K (.ref C) "__setattr__"=some (some (.builtin "object.__setattr__"))
theorem Cls.get {K:W.Frag} {C:Addr} (c:Cls K C) (f:Str):W.plainGet K C f=true:=c.pg
def JaU (K:W.Frag) (C:Addr) (f:Str):Prop:=W.findIn K (.ref C) f=some none
theorem JaU.taker {K:W.Frag} {C:Addr} {f:Str} (n:JaU K C f):W.takerIn K C f=some none:=by
 unfold W.takerIn;rw [show W.findIn K (.ref C) f=some none from n];rfl
structure Meth (K:W.Frag) (C:Addr) (m:Str) (f:Addr):Prop where
 at_:W.findIn K (.ref C) m=some (some (.ref f))
 fn:W.isFn K (.ref f)=true
 kp:W.keepIn K (.ref f)=true
section
variable {X:Cx} {pins:List (Addr × Obj)} {σ : St} {H:Hp} {s:Shared} {a C dx:Addr} {fs:List (Str × V)} {f:Str} {v:V} {A:Around} {E:Value->Shared->Prop}
theorem Jhl {b:Bool} {Q:Value->Shared->Prop} (I:Inv X pins σ H s) (e:H a=some (.ins C dx fs)) (c:Cls X.K C) (n:JaU X.K C f) (l:fs.lookup f=some v)
  (h:∀ u s',Inv X pins σ H s'->RelV v u->Q u s'):wpAny (model X.prog X.w) A (getAttr (.ref a) f b) Q E s:=by
 obtain ⟨g,O,r,_,_,_⟩:=Jgk I.hok e;obtain ⟨u,i,d⟩:=RelO.some_of (v:=v) (o:=g f) (by rw [<- l]; exact r f);exact get_map I.kIn O (c.get f) c.hd n i (Jh3 d) (h u _ (I.tok _) d)
theorem JeL {m:Str} {g:Addr} {pl:Sem Bool} {Q:Value × List Value->Shared->Prop} (I:Inv X pins σ H s) (e:H a=some (.ins C dx fs)) (c:Cls X.K C) (k:Meth X.K C m g) (l:fs.lookup m=none)
  (h:Q (.ref g,[.ref a]) s):wpAny (model X.prog X.w) A (getMethod (.ref a) m pl) Q E s:=by
 obtain ⟨b,O,r,_,_,_⟩:=Jgk I.hok e;have d:b m=none:=RelO.none_of (by rw [<- l]; exact r m);exact Ji7 I.kIn O (c.get m) k.at_ k.fn d h
theorem JhD {y:V} {u:Value} {Q:Unit->Shared->Prop} (I:Inv X pins σ H s) (e:H a=some (.ins C dx fs)) (c:Cls X.K C) (n:JaU X.K C f) (hl:fs.length<1000) (ry:RelV y u)
  (h:∀ s',Inv X pins σ (upd H a (.ins C dx (putF f y fs))) s'->Q () s'):wpAny (model X.prog X.w) A (setAttr (.ref a) f u) Q E s:=by
 obtain ⟨d,O,r,j,_,i⟩:=Jgk I.hok e;have p:(fs.map (·.1)).length<=sizeLine:=by rw [length_map,sizeLine_eq]; ac_nf
 refine JkU I.kIn O c.sa c.po n.taker c.hd j p fun k O' l=>h _ ?_;have t:∃ o,k.get? dx=some o:=let ⟨o,_,_,e',_⟩:=O'.ns; ⟨o,e'⟩;refine I.write (x:=a) (e:=dx) (by rw [e]; exact True.intro) (.inr i) (fun b q m z=>(l.2 b m).trans z) t ?_;refine ⟨by rw [Jag O.ne]; exact i,?_,O.ne,O'.obj,_,O'.ns,fun g=>?_,fun g v=>?_⟩
 ·have:=Jd5 f y fs; ac_nf
 ·show RelO ((putF f y fs).lookup g) (if g=f then some u else d g);rw [Jd6];by_cases q:g=f
  ·rw [if_pos q,if_pos q]; exact ry
  ·rw [if_neg q,if_neg q]; exact r g
 ·by_cases q:g=f
  ·rw [q]; exact (Jd2 f y fs).1
  ·refine (Jd2 f y fs).2 g (j g fun z=>v ?_);show (if g=f then some u else d g)=none;rw [if_neg q]; exact z
theorem Inv.made (I:Inv X pins σ H s):Inv X pins σ (upd (upd H s.heap.objs.size (.own (s.heap.objs.size+1))) (s.heap.objs.size+1) (.ins C s.heap.objs.size []))
  { s with heap:=(s.heap.push W.emptyDict).push (W.instObj C s.heap.objs.size) }:=by
 have d:(s.heap.push W.emptyDict).get? s.heap.objs.size=some W.emptyDict:=Heap.get?_push_size s.heap rfl;have g:((s.heap.push W.emptyDict).push (W.instObj C s.heap.objs.size)).get? (s.heap.objs.size+1)=some (W.instObj C s.heap.objs.size):=by
  have:=Heap.get?_push_size (s.heap.push W.emptyDict) (o:=W.instObj C s.heap.objs.size) rfl
  rwa [Heap.size_push] at this
 have f:(s.heap.push W.emptyDict).Ns s.heap.objs.size (fun _=>none):=⟨W.emptyDict, #[],_,d,rfl,(fun e h=>absurd h (by simp)),fun _=>rfl⟩;have I1:=I.laid (a:=s.heap.objs.size) (o:=.own (s.heap.objs.size+1)) (h':=s.heap.push W.emptyDict) (t':=s.toks) (fun b u q=>Heap.get?_push_of_some _ q) (Nat.le_refl _) ⟨_,d⟩;refine I1.laid (a:=s.heap.objs.size+1) (o:=.ins C s.heap.objs.size []) (t':=s.toks) (fun b u q=>Heap.get?_push_of_some _ q) (Nat.le_of_eq (Heap.size_push _ _)) ?_;have c:s.heap.objs.size≠s.heap.objs.size+1:=Nat.ne_of_lt (Nat.lt_succ_self _);refine ⟨by rw [Jag c,Jak],Nat.zero_le _,c,g,fun _=>none,(Heap.Ns1.of_empty f).at fun o q=>Heap.get?_push_of_some _ q,fun _=>True.intro,fun y i=>absurd rfl i⟩
theorem Jj8 {prog:Program} {w:World} {env:Env} {e:Expr} {f:Str} {pos:Pos} {s:Shared} {Q:Value->Shared->Prop} (hb:attributeBase e f env (eval e env)=eval e env)
  (h:wpAny (model prog w) A (eval e env) (fun o s₁=>wpAny (model prog w) A (getAttr o f true) Q E s₁) E s):wpAny (model prog w) A (eval (.Attribute e f pos) env) Q E s :=
 Attribute_any_ h (by rw [arm_eval_Attribute,hb])
end
def tFld (K:W.Frag) (ta:TE) (f:Str):TE:=fun σ H Q=>ta σ H fun x H1=>∃ a C dx fs v,x=.ref a/\H1 a=some (.ins C dx fs)/\Cls K C/\JaU K C f/\fs.lookup f=some v/\Q v H1
def sFld (K:W.Frag) (ta tv:TE) (f:Str):TS:=fun D σ H=>tv σ H fun y H1=>ta σ H1 fun x H2=>∃ a C dx fs,x=.ref a/\H2 a=some (.ins C dx fs)/\Cls K C/\JaU K C f/\fs.length<1000 /\
 D.nx σ (upd H2 a (.ins C dx (putF f y fs)))
section
variable {X:Cx} {o e value:Expr} {f:Str} {pos pos' tpos:Pos} {ta tv:TE}
theorem Jas (he:PE X e ta) (hb:attributeBase e f X.env (eval e X.env)=eval e X.env):PE X (.Attribute e f pos) (tFld X.K ta f):=by
 intro b s σ H Q I h;refine Jj8 hb (thn (he b s σ H _ I h) fun u t ⟨x,k,I1,i,a,C,r,p,v,d,j,c,n,l,q⟩=>?_);subst d;obtain rfl:u=Value.ref a:=i;exact Jhl I1 j c n l fun o m I2 g=>⟨v,k,I2,g,q⟩
theorem Ja6 (ha:PE X o ta) (hv:PE X value tv) (hs:swapsWith value (some (.Attribute o f pos')) pos.line X.env=pure false):PS X (.Assign [.Attribute o f pos'] value pos) (sFld X.K ta tv f):=by
 intro b s σ H D I h;refine plainObj_wpAny_Assign_Attribute (thn (hv b s σ H _ I h) fun u p ⟨y,m,I1,e,q⟩=>thn (ha b p σ m _ I1 q) fun i r ⟨x,z,I2,g,a,C,v,t,d,j,c,n,l,k⟩=>?_) hs;subst d;obtain rfl:i=Value.ref a:=g;exact JhD I2 j c n l e fun w I3=>⟨σ,_,I3,k⟩
end
section
variable {X:Cx} {pins:List (Addr × Obj)} {σ : St} {H:Hp} {s:Shared} {A:Around} {E:Value->Shared->Prop} {Q:Value->Shared->Prop} {c:Value} {b:Bool}
end
structure Room (k:Nat) (A:Around):Prop where
 hd:A.handled=none
 dp:A.depth+3*k+5<recursionLimit
 un:A.units+16*k+200<cLine
theorem Room.mono {j k:Nat} {A:Around} (r:Room k A) (h:j<=k):Room j A:=⟨r.hd,by have:=r.dp; ac_nf,by have:=r.un; ac_nf⟩
theorem Room.deeper {k:Nat} {A:Around} (r:Room (k+1) A) (env:Env):Room k (A.deeper env) :=
 ⟨r.hd,by have:=r.dp; show A.depth+1+3*k+5<_; ac_nf,by have:=r.un; show A.units+3+16*k+200<_; ac_nf⟩
theorem Jhp {A:Around} {C:Addr} {us:List Value} {kw:List (Str × Value)}:(A.under (.builtin "type.__call__" ⟨.ref C::us,kw⟩)).depth=A.depth+1:=by
 first | rfl | simp [Around.under,Code.weight,Code.isCreation,Code.isGuard,Code.isCaller,Code.frames,Code.isFrame,guardIds]
theorem Jhq {A:Around} {C:Addr} {us:List Value} {kw:List (Str × Value)}:(A.under (.builtin "type.__call__" ⟨.ref C::us,kw⟩)).units=A.units+1:=by
 first | rfl | simp [Around.under,Code.cUnits,Code.frames,Code.isFrame]
theorem Room.make {k:Nat} {A:Around} (r:Room (k+1) A) (C:Addr) (us:List Value) (kw:List (Str × Value)):Room k (A.under (.builtin "type.__call__" ⟨.ref C::us,kw⟩)) :=
 ⟨r.hd,by have:=r.dp; rw [Jhp]; ac_nf,by have:=r.un; rw [Jhq]; ac_nf⟩
theorem Room.depth {k:Nat} {A:Around} (r:Room k A):A.depth<recursionLimit:=by have:=r.dp; ac_nf
theorem Room.units {k:Nat} {A:Around} (r:Room k A):A.units+64<cLine:=by have:=r.un; ac_nf
def tNil:TA:=fun _ H Q=>Q [] H
def tCons (ta:TE) (tr:TA):TA:=fun σ H Q=>ta σ H fun x H1=>tr σ H1 fun xs H2=>Q (x::xs) H2
section
variable {X:Cx} {e:Expr} {es:List Expr} {te:TE} {t:TA} {pos:Pos}
theorem Jad:PA X [] tNil:=fun _ _ _ _ H Q I h=>Calls.spliced_nil ⟨[],H,I, .nil,h⟩
theorem Jip (ha:PE X e te) (hr:PA X es t) (hs:starEach (e::es) X.env=(false,eval e X.env)::starEach es X.env:=by rfl):PA X (e::es) (tCons te t):=by
 intro b a s σ H Q I h;rw [hs];show wpAny _ _ (spliced ((false,eval e X.env)::backTo b (starEach es X.env))) _ _ s;refine Calls.spliced_cons (thn (ha a s σ H _ I h) fun u k ⟨x,j,I1,l,c⟩=>?_);exact thn (hr b a k σ j _ I1 c) fun n m ⟨g,f,I2,d,i⟩=>⟨x::g,f,I2, .cons l d,i⟩
def tTup (t:TA):TE:=fun σ H Q=>t σ H fun xs H1=>xs.length<=sizeLine/\∀ p,H1 p=none->Q (.ref p) (upd H1 p (.tup xs))
def tLst (t:TA):TE:=fun σ H Q=>t σ H fun xs H1=>xs.length<=sizeLine/\∀ p,H1 p=none->Q (.ref p) (upd H1 p (.lst xs))
theorem JaJ {x1} (h:PA X es t):PE X (.Tuple es x1 pos) (tTup t):=by
 intro a s σ H Q I j;refine wpAny_Tuple_spliced (thn (h pos a s σ H _ I j) fun i c ⟨f,d,I1,r,z,q⟩=>⟨by rw [<- r.length]; exact z,?_⟩);have g:d c.heap.objs.size=none:=I1.hok.fresh (Nat.le_refl _);refine ⟨.ref c.heap.objs.size,upd d c.heap.objs.size (.tup f),I1.laid (t':=c.toks) (fun b u e=>Heap.get?_push_of_some _ e) (Nat.le_refl _) ?_,rfl,q _ g⟩;exact ⟨z,i,r,⟨_,Heap.get?_push_size _ rfl,rfl,_,rfl⟩⟩
theorem Ja5 (h:PA X es t):PE X (.List es pos) (tLst t):=by
 intro a s σ H Q I j;refine wpAny_List_spliced (thn (h pos a s σ H _ I j) fun i c ⟨f,d,I1,r,z,q⟩=>⟨by rw [<- r.length]; exact z,?_⟩);have g:d c.heap.objs.size=none:=I1.hok.fresh (Nat.le_refl _);refine ⟨.ref c.heap.objs.size,upd d c.heap.objs.size (.lst f),I1.laid (t':=c.toks) (fun b u e=>Heap.get?_push_of_some _ e) (Nat.le_refl _) ?_,rfl,q _ g⟩;exact ⟨z,i,0,r,Heap.get?_push_size _ rfl⟩
end
abbrev Sp:=List V->Hp->VK->XK->Prop
abbrev CXT:=List Env->Hp->Shared->XK->Value->Shared->Prop
structure Env0 (P:Program) (w:World) (K:W.Frag) (mg:Str->Option Value) (base:Heap) (A:Around) (outer:List Env) (s:Shared) (H:Hp):Prop where
 frames:A.frames=some outer
 mod:Mod K mg base
 bs:∀ b o,base.get? b=some o->s.heap.get? b=some o/\H b=none
 bsz:base.objs.size<=s.heap.objs.size
 funs:s.heap.FunFrames base outer
 frf:∀ b∈frs outer,H b=none
 hok:HOk P w H s.heap
 bare:AllBare s.gens
def CE (outer:List Env) (P:Program) (w:World) (H:Hp) (s:Shared) (Q:VK) (u:Value) (s':Shared):Prop :=
 ∃ v H',s'.os=s.os/\AllBare s'.gens/\Un (frs outer) [] H H' s.heap s'.heap/\HOk P w H' s'.heap/\RelV v u/\Q v H'
def CR (CX:CXT) (outer:List Env) (P:Program) (w:World) (H:Hp) (s:Shared) (Q:VK) (E:XK) (r:Result) (s':Shared):Prop :=
 match r with
 | .ok (.ret u)=>CE outer P w H s Q u s'
 | .ok _=>False
 | .error e=>CX outer H s E e s'
structure FnOk (P:Program) (w:World) (K:W.Frag) (mg:Str->Option Value) (base:Heap) (CX:CXT) (k:Nat) (f:Addr) (fd:FuncData) (ps:List Str) (sp:Sp):Prop where
 len:∀ vs H Q E,sp vs H Q E->vs.length=ps.length
 run:∀ (A:Around) (outer:List Env) (s:Shared) (H:Hp) (args:Args) (us:List Value) (vs:List V) (Q:VK) (E:XK),Room k A->Env0 P w K mg base A outer s H->BindsTo s fd args (ps.zip us)->Vals vs us->sp vs H Q E ->
  codeAny (model P w) A (.call (.ref f) args) (CR CX outer P w H s Q E) s
theorem Env0.make {P:Program} {w:World} {K:W.Frag} {mg:Str->Option Value} {base:Heap} {A:Around} {outer:List Env} {s:Shared} {H:Hp} (e:Env0 P w K mg base A outer s H) (C:Addr) (us:List Value) (kw:List (Str × Value)) :
  Env0 P w K mg base (A.under (.builtin "type.__call__" ⟨.ref C::us,kw⟩)) outer s H:=⟨by first | exact e.frames | (simpa [Around.under,Code.envs,Code.isFrame,pushEnvs] using e.frames),e.mod,e.bs,e.bsz,e.funs,e.frf,e.hok,e.bare⟩
section
variable {X:Cx} {pins:List (Addr × Obj)} {σ : St} {H:Hp} {s s':Shared}
theorem Inv.env0 (I:Inv X pins σ H s):Env0 X.prog X.w X.K X.mg X.base X.A X.stack s H :=
 ⟨I.ok.frames,I.ok.mod,I.bs,Nat.le_trans I.ok.bsz I.sz,I.stack,I.stkFree,I.hok,I.bare⟩
theorem Inv.after {Q:VK} {u:Value} (I:Inv X pins σ H s) (h:CE X.stack X.prog X.w H s Q u s'):EP X pins σ Q u s':=by
 obtain ⟨v,j,i,a,f,c,r,q⟩:=h;obtain ⟨k,g,d,t,e⟩:=s';obtain rfl:e=s.os:=i;exact ⟨v,j,I.call (h':=k) (g':=g) (d':=d) (t':=t) (ch:=[]) f c a (fun b z=>absurd z (by simp)),r,q⟩
end
def tCall (sp:Sp) (dvs:List V) (E:XK) (t:TA):TE:=fun σ H Q=>t σ H fun vs H1=>sp (vs++dvs) H1 Q E
def tMake (C:Addr) (sp:Sp) (dvs:List V) (E:XK) (t:TA):TE:=fun σ H Q=>t σ H fun vs H1=>∀ x dx,H1 x=none->H1 dx=none->dx≠x ->
 sp (.ref x::(vs++dvs)) (upd (upd H1 dx (.own x)) x (.ins C dx [])) (fun v H2=>v=.non/\Q (.ref x) H2) E
def Binds (K:W.Frag) (fd:FuncData) (ps:List Str) (ds:List Value):Prop :=
 ∀ (s:Shared) (us:List Value),K.In s.heap->(us++ds).length=ps.length->BindsTo s fd ⟨us,[]⟩ (ps.zip (us++ds))
theorem Binds.all {K:W.Frag} {fd:FuncData} {ps:List Str} (h:∀ us:List Value,us.length=ps.length->bindArgs fd ⟨us,[]⟩=pure (ps.zip us)):Binds K fd ps []:=fun s us _ a=>by
 rw [append_nil] at a ⊢;exact .of_eq (h us a)
def JbZ (CX:CXT) (X:Cx) (E:XK):Prop:=∀ (pins:List (Addr × Obj)) (σ : St) (H:Hp) (s:Shared) (e:Value) (s':Shared),Inv X pins σ H s->CX X.stack H s E e s'->X.xe e s'
section
variable {X:Cx} {CX:CXT} {k:Nat} {f C:Addr} {fd:FuncData} {ps:List Str} {sp:Sp} {dvs:List V} {ds:List Value} {E:XK} {x m:Str} {p pos apos:Pos} {e o:Expr} {es:List Expr} {ta:TE} {t:TA}
theorem Jg8 {pins:List (Addr × Obj)} {σ : St} {H:Hp} {s:Shared} {Q:VK} {us:List Value} {vs:List V} (F:FnOk X.prog X.w X.K X.mg X.base CX k f fd ps sp) (hr:Room k X.A) (hb:Binds X.K fd ps ds) (hd:Vals dvs ds) (hx:JbZ CX X E)
  (I:Inv X pins σ H s) (r:Vals vs us) (h:sp (vs++dvs) H Q E):wpAny (model X.prog X.w) X.A (call (.ref f) us) (EP X pins σ Q) X.xe s:=by
 have b:Vals (vs++dvs) (us++ds):=r.append hd;have d:(us++ds).length=ps.length:=by rw [<- b.length]; exact F.len _ _ _ _ h
 refine wpAny_call (codeAny_mono (F.run X.A X.stack s H ⟨us,[]⟩ (us++ds) (vs++dvs) Q E hr I.env0 (hb s us I.kIn d) b h) fun r c a=>?_);cases r with
 | error e=>exact hx pins σ H s e c I a
 | ok fl=>
  cases fl with
  | ret u=>exact I.after a
  | next=>exact False.elim a
  | brk=>exact False.elim a
  | cont=>exact False.elim a
theorem JkI (F:FnOk X.prog X.w X.K X.mg X.base CX k f fd ps sp) (hr:Room k X.A) (hg:Gl X x) (hm:X.mg x=some (.ref f)) (hk:W.keepIn X.K (.ref f)=true) (hb:Binds X.K fd ps ds) (hd:Vals dvs ds) (hx:JbZ CX X E)
  (ha:PA X (e::es) t) (hdb:(x == ("__debug__" : Str))=false:=by decide) (he:starEach (e::es) X.env=(false,eval e X.env)::starEach es X.env:=by rfl) (hpl:(backTo pos (starEach es X.env)).any (·.1)=false:=by rfl) :
  PE X (.Call (.Name x p) (e::es) [] pos) (tCall sp dvs E t):=by
 intro a s σ H Q I h;refine wpAny_Call_Name_kw (Jdt I hg hm ?_ hdb);refine W.callWith_K (h₀:=X.base) I.ok.mod.kin hk (thn (ha pos a s σ H _ I h) fun b g ⟨d,c,I1,r,q⟩=>⟨I1.kIn,?_⟩) he hpl;exact Jg8 F hr hb hd hx I1 r q
theorem Jjl (F:FnOk X.prog X.w X.K X.mg X.base CX k f fd ps sp) (hr:Room k X.A) (hg:Gl X x) (hm:X.mg x=some (.ref f)) (hk:W.keepIn X.K (.ref f)=true) (hb:Binds X.K fd ps ds) (hd:Vals dvs ds) (hx:JbZ CX X E)
  (hdb:(x == ("__debug__" : Str))=false:=by decide):PE X (.Call (.Name x p) [] [] pos) (tCall sp dvs E tNil):=by
 intro a s σ H Q I h;refine wpAny_Call_Name_kw (Jdt I hg hm ?_ hdb);exact W.callWith_K0 I.kIn hk (Jg8 (us:=[]) F hr hb hd hx I .nil h)
structure Mk (K:W.Frag) (C f:Addr):Prop where
 makes:W.makesIn K C=true
 init:W.findIn K (.ref C) "__init__"=some (some (.ref f))
 fn:W.isFn K (.ref f)=true
 kp:W.keepIn K (.ref C)=true
theorem Jg9 {pins:List (Addr × Obj)} {σ : St} {H:Hp} {s:Shared} {Q:VK} {us:List Value} {vs:List V} (M:Mk X.K C f) (F:FnOk X.prog X.w X.K X.mg X.base CX k f fd ps sp) (hr:Room (k+1) X.A) (hb:Binds X.K fd ps ds) (hd:Vals dvs ds)
  (hx:JbZ CX X E) (I:Inv X pins σ H s) (r:Vals vs us)
  (h:∀ x dx,H x=none->H dx=none->dx≠x->sp (.ref x::(vs++dvs)) (upd (upd H dx (.own x)) x (.ins C dx [])) (fun v H2=>v=.non/\Q (.ref x) H2) E) :
  wpAny (model X.prog X.w) X.A (call (.ref C) us) (EP X pins σ Q) X.xe s:=by
 have b:=h (s.heap.objs.size+1) s.heap.objs.size (I.hok.fresh (Nat.le_succ _)) (I.hok.fresh (Nat.le_refl _)) (Nat.ne_of_lt (Nat.lt_succ_self _));have I2:=Inv.made (C:=C) I;have c:Vals (V.ref (s.heap.objs.size+1)::(vs++dvs)) (Value.ref (s.heap.objs.size+1)::(us++ds)):=.cons rfl (r.append hd);have d:(Value.ref (s.heap.objs.size+1)::us++ds).length=ps.length:=by
  have e:=c.length;rw [F.len _ _ _ _ b] at e;exact e.symm
 refine wpAny_call (Jjc (f:=f) I.kIn M.makes M.init (beq_iff_eq.mp M.fn) (codeAny_mono (F.run _ X.stack _ _ ⟨Value.ref (s.heap.objs.size+1)::us,[]⟩ (Value.ref (s.heap.objs.size+1)::(us++ds)) _ _ E (hr.make C us [])
  (I2.env0.make C us []) (hb _ (Value.ref (s.heap.objs.size+1)::us) I2.kIn d) c b) fun r m a=>?_))
 cases r with
 | error e=>exact hx pins σ _ _ e m I2 a
 | ok fl=>
  cases fl with
  | ret u=>
   obtain ⟨v,j,I3,i,l,g⟩:=I2.after a;subst l;exact ⟨i,⟨V.ref (s.heap.objs.size+1),j,I3,rfl,g⟩⟩
  | next=>exact False.elim a
  | brk=>exact False.elim a
  | cont=>exact False.elim a
theorem JkL (M:Mk X.K C f) (F:FnOk X.prog X.w X.K X.mg X.base CX k f fd ps sp) (hr:Room (k+1) X.A) (hg:Gl X x) (hm:X.mg x=some (.ref C)) (hb:Binds X.K fd ps ds) (hd:Vals dvs ds) (hx:JbZ CX X E)
  (ha:PA X (e::es) t) (hdb:(x == ("__debug__" : Str))=false:=by decide) (he:starEach (e::es) X.env=(false,eval e X.env)::starEach es X.env:=by rfl) (hpl:(backTo pos (starEach es X.env)).any (·.1)=false:=by rfl) :
  PE X (.Call (.Name x p) (e::es) [] pos) (tMake C sp dvs E t):=by
 intro a s σ H Q I h;refine wpAny_Call_Name_kw (Jdt I hg hm ?_ hdb);refine W.callWith_K (h₀:=X.base) I.ok.mod.kin M.kp (thn (ha pos a s σ H _ I h) fun b g ⟨d,c,I1,r,q⟩=>⟨I1.kIn,?_⟩) he hpl;exact Jg9 M F hr hb hd hx I1 r q
theorem Jjp (M:Mk X.K C f) (F:FnOk X.prog X.w X.K X.mg X.base CX k f fd ps sp) (hr:Room (k+1) X.A) (hg:Gl X x) (hm:X.mg x=some (.ref C)) (hb:Binds X.K fd ps ds) (hd:Vals dvs ds) (hx:JbZ CX X E)
  (hdb:(x == ("__debug__" : Str))=false:=by decide):PE X (.Call (.Name x p) [] [] pos) (tMake C sp dvs E tNil):=by
 intro a s σ H Q I h;refine wpAny_Call_Name_kw (Jdt I hg hm ?_ hdb);exact W.callWith_K0 I.kIn M.kp (Jg9 (us:=[]) M F hr hb hd hx I .nil h)
end
section
variable {X:Cx} {CX:CXT} {k:Nat} {f C:Addr} {fd:FuncData} {ps ks:List Str} {sp:Sp} {E:XK} {x m:Str} {p pos apos kpos:Pos} {e o:Expr} {es:List Expr} {kws:List Keyword} {te ta:TE} {t tk:TA} {nm:Option Str}
variable {g:List Value->List Value->List Value} {gV:List V->List V->List V}
end
structure Jan (N P:List Str) (sc:Scope):Prop where
 kind:sc.kind=.function
 co:sc.isCoroutine=false
 gen:sc.isGenerator=false
 nd:N.Nodup
 pre:N.take P.length=P
 par:∀ x∈P,sc.names.lookup x=some .local\/sc.names.lookup x=some .cell
 nofree:∀ y∈sc.names,y.2≠.free
theorem Jfz {kindOf:Str->Option NameKind} {x:Str}:∀ {binds:List (Str × Value)} {m:Str->Option Value},(∀ v,(x,v)∉binds)->bindL kindOf binds m x=m x
 | [],_,_=>rfl
 | (n,v)::r,m,h=>by
  unfold bindL;rw [Jfz fun w hw=>h w (mem_cons_of_mem _ hw)];split
  ·have : x≠n:=by rintro rfl; exact h v mem_cons_self
   simp [this]
  ·rfl
theorem Jfx {kindOf:Str->Option NameKind} {x:Str}:∀ {binds:List (Str × Value)} {m:Str->Option Value},(∀ v,(x,v)∉binds)->bindC kindOf binds m x=m x
 | [],_,_=>rfl
 | (n,v)::r,m,h=>by
  unfold bindC;rw [Jfx fun w hw=>h w (mem_cons_of_mem _ hw)];split
  ·rfl
  ·have : x≠n:=by rintro rfl; exact h v mem_cons_self
   simp [this]
theorem Jfy {kindOf:Str->Option NameKind} {x:Str} {v:Value}:∀ {P:List Str} {vs:List Value} {i:Nat} {m:Str->Option Value},P.Nodup->P[i]?=some x->vs[i]?=some v->kindOf x=some .local ->
  bindL kindOf (P.zip vs) m x=some v
 | [],_,_,_,_,h,_,_=>by simp at h
 | _::_,[],_,_,_,_,h,_=>by simp at h
 | p::P,w::vs,0,m,nd,h1,h2,hk=>by
  simp at h1 h2; subst h1; subst h2;show bindL kindOf ((p,w)::P.zip vs) m p=_;unfold bindL;rw [Jfz fun v hv=>(nodup_cons.mp nd).1 (List.of_mem_zip hv).1,if_pos hk];simp
 | p::P,w::vs,i+1,m,nd,h1,h2,hk=>by
  show bindL kindOf ((p,w)::P.zip vs) m x=_;unfold bindL;exact Jfy (i:=i) (nodup_cons.mp nd).2 (by simpa using h1) (by simpa using h2) hk
theorem Jfw {kindOf:Str->Option NameKind} {x:Str} {v:Value}:∀ {P:List Str} {vs:List Value} {i:Nat} {m:Str->Option Value},P.Nodup->P[i]?=some x->vs[i]?=some v->kindOf x≠some .local ->
  bindC kindOf (P.zip vs) m x=some v
 | [],_,_,_,_,h,_,_=>by simp at h
 | _::_,[],_,_,_,_,h,_=>by simp at h
 | p::P,w::vs,0,m,nd,h1,h2,hk=>by
  simp at h1 h2; subst h1; subst h2;show bindC kindOf ((p,w)::P.zip vs) m p=_;unfold bindC;rw [Jfx fun v hv=>(nodup_cons.mp nd).1 (List.of_mem_zip hv).1,if_neg hk];simp
 | p::P,w::vs,i+1,m,nd,h1,h2,hk=>by
  show bindC kindOf ((p,w)::P.zip vs) m x=_;unfold bindC;exact Jfw (i:=i) (nodup_cons.mp nd).2 (by simpa using h1) (by simpa using h2) hk
def start (N:List Str) (vs:List V):St:=vs.map some++List.replicate (N.length-vs.length) none
def cxOf (CX:CXT) (P:Program) (w:World) (K:W.Frag) (mg:Str->Option Value) (base:Heap) (N:List Str) (qual:Str) (scope:Scope) (f:Addr) (cd:Value) (A:Around) (outer:List Env) (s:Shared) (H:Hp) (E:XK):Cx where
 prog:=P
 w:=w
 K:=K
 mg:=mg
 base:=base
 A:=A.deeper (envOfC qual scope s.heap.objs.size f cd)
 N:=N
 s₀:=s
 H₀:=H
 env:=envOfC qual scope s.heap.objs.size f cd
 outer:=outer
 stack:=envOfC qual scope s.heap.objs.size f cd::outer
 ex:=[]
 calm:=true
 fn:=fun _=>true
 pn:=[]
 xe:=fun e s'=>wpAny (model P w) (A.deeper (envOfC qual scope s.heap.objs.size f cd)) (leaving (envOfC qual scope s.heap.objs.size f cd) e) (fun _ s''=>CX outer H s E e s'') (fun e' s''=>CX outer H s E e' s'') s'
theorem JgQ {sc:Scope} {n:Nat} {x:Str} (h:sc.names.lookup x=some .cell):∃ c,(cellsFrom n sc.names []).lookup x=some c:=by
 have q:=W.cellsFrom_some sc.names n [] (.inl h);exact Option.isSome_iff_exists.mp q
theorem Jh5 {CX:CXT} {P:Program} {w:World} {K:W.Frag} {mg:Str->Option Value} {base:Heap} {N ps:List Str} {qual:Str} {scope:Scope} {f:Addr} {cd:Value} {A:Around} {outer:List Env} {s s1:Shared} {H:Hp} {E:XK} {us:List Value} {vs:List V}
  (S:Jan N ps scope) (hd:A.handled=none) (e0:Env0 P w K mg base A outer s H) (hl:vs.length=ps.length) (r:Vals vs us)
  (x:InCallC s s.heap.objs.size (bindL (envOfC qual scope s.heap.objs.size f cd).kindOf (ps.zip us) fun _=>none) (cellsFrom (s.heap.objs.size+1) scope.names []) (bindC (envOfC qual scope s.heap.objs.size f cd).kindOf (ps.zip us) fun _=>none) s1) :
  Inv (cxOf CX P w K mg base N qual scope f cd A outer s H E) [] (start N vs) H s1:=by
 have F:ps.length<=N.length:=by have:=congrArg List.length S.pre; rw [length_take] at this; ac_nf
 obtain ⟨o,I,rfl,C⟩:=x.done;have j:∀ b:Addr,b∉(cxOf CX P w K mg base N qual scope f cd A outer s H E).ex:=fun b z=>absurd (show b∈([]:List Addr) from z) (by simp);refine ⟨⟨e0.mod,S.kind,rfl,rfl,Nat.le_refl _,fun y z c o d=>?_,fun y g=>?_,fun y c _ h=>?_,fun _=>hd,Around.frames_deeper e0.frames, .inr ⟨rfl,rfl⟩,fun b z=>absurd z (j b),e0.bs,e0.bsz,fun b _ _=>j b,fun b z=>absurd z (j b),e0.funs,e0.frf⟩,
  rfl,e0.bare,Un.kept C,⟨_,x.toInCall.ns,fun i y v o d J=>?_⟩,fun y c h=>⟨_,x.cell y c h⟩,e0.hok.fresh (Nat.le_refl _),fun y c h=>?_,fun p l=>absurd (show p∈([]:List (Addr × Obj)) from l) (by simp),e0.hok.kept C,?_⟩
 ·exact name_of_addr x.apart (PySem.mem_of_lookup o) (PySem.mem_of_lookup d)
 ·have g:scope.names.lookup y=some .cell\/scope.names.lookup y=some .free:=g;rcases g with g | g
  ·exact JgQ g
  ·exact absurd rfl (S.nofree _ (PySem.mem_of_lookup g))
 ·exact Nat.le_of_lt (x.above y c (PySem.mem_of_lookup h))
 ·have t:i<vs.length:=by
   unfold start at d;by_cases t:i<vs.length
   ·exact t
   ·rw [List.getElem?_append_right (by simpa using t)] at d;rw [List.getElem?_replicate] at d;split at d <;> cases d
  have G:vs[i]?=some v:=by
   unfold start at d;rw [List.getElem?_append_left (by simpa using t),List.getElem?_map] at d;cases e:vs[i]? with
   | none=>rw [e] at d; cases d
   | some a=>rw [e] at d; cases d; rfl
  obtain ⟨u,B,D⟩:=r.get G;have l:ps[i]?=some y:=by
   rw [<- S.pre,List.getElem?_take_of_lt ∅]; exact o
  have m:ps.Nodup:=by rw [<- S.pre]; exact S.nd.sublist (List.take_sublist _ _)
  refine ⟨u,D,?_⟩;rcases S.par y (List.mem_of_getElem? l) with k | k
  ·exact .inl ⟨k,Jfy m l B k⟩
  ·obtain ⟨c,e⟩:=JgQ (n:=s.heap.objs.size+1) k;refine .inr ⟨.inl k,c,e,?_⟩;have q:=x.cell y c e;rw [Jfw m l B (by show scope.names.lookup y≠_; rw [k]; decide)] at q;exact q
 ·exact e0.hok.fresh (Nat.le_of_lt (x.above y c (PySem.mem_of_lookup h)))
 ·unfold start;show _=N.length;rw [length_append,length_map,List.length_replicate];ac_nf
theorem fn_of {CX:CXT} {P:Program} {w:World} {K:W.Frag} {mg:Str->Option Value} {base:Heap} {k:Nat} {f:Addr} {name qual:Str} {params:Arguments} {body:List Stmt} {scope:Scope} {dV kV doc pm cdv ct oc:Value} {an od:Option Addr}
  {osl:Array (Option Value)} {N ps:List Str} {sp:Sp} (lk:K.lookup f=some ⟨oc,od, .func (W.fnOf name qual params body scope dV kV doc pm an cdv ct),osl⟩) (hcd:W.codeIn K cdv qual=true) (S:Jan N ps scope)
  (len:∀ vs H Q E,sp vs H Q E->vs.length=ps.length)
  (hbody:∀ (A:Around) (outer:List Env) (s:Shared) (H:Hp) (vs:List V) (Q:VK) (E:XK),Room k (A.deeper (envOfC qual scope s.heap.objs.size f cdv))->sp vs H Q E ->
   ∃ t,PSs (cxOf CX P w K mg base N qual scope f cdv A outer s H E) body t/\t { nx:=fun _ H'=>Q .non H',rt:=Q } (start N vs) H) :
  FnOk P w K mg base CX (k+1) f (W.fnOf name qual params body scope dV kV doc pm an cdv ct) ps sp:=by
 refine ⟨len,fun A outer s H p M vs Q E l g C r h=>?_⟩;have B:=len _ _ _ _ h;have KX:K.In s.heap:=g.mod.kin.keeps fun b o e=>(g.bs b o e).1;have m:s.heap.NoLimit:=g.mod.nolimit.keeps fun b o e=>(g.bs b o e).1;have a:∀ y∈ps.zip M,scope.names.lookup y.1=some .local\/(scope.names.lookup y.1=some .cell/\((cellsFrom (s.heap.objs.size+1) scope.names []).lookup y.1).isSome=true):=fun ⟨n,v⟩ G=>by
  rcases S.par n (List.of_mem_zip G).1 with q | q
  ·exact .inl q
  ·exact .inr ⟨q,W.cellsFrom_some _ _ _ (.inl q)⟩
 refine codeAny_call_function l.depth (KX _ _ lk) rfl S.co S.gen rfl (W.codeRec_of KX hcd) (C _ _ _ _ ?_);refine wpAny_newFunctionEnv_cells S.kind a fun L O z x=>?_;subst O;refine ⟨m.keeps x.toInCall.keep,codeAny_func ?_⟩;obtain ⟨t,F,R⟩:=hbody A outer s H vs Q E (l.deeper _) h;have I:Inv (cxOf CX P w K mg base N qual scope f cdv A outer s H E) [] (start N vs) H z:=Jh5 S l.hd g B r x;refine wpAny_mono (F [] z (start N vs) H _ I R) (fun D j c=>?_) fun e j c=>c;have d:∀ {σ':St} {H':Hp} {v:V} {u:Value},Inv (cxOf CX P w K mg base N qual scope f cdv A outer s H E) [] σ' H' j->RelV v u->Q v H'->CE outer P w H s Q u j :=
  fun {σ' H' v u} J i q=>⟨v,H',J.os,J.bare,J.base,J.hok,i,q⟩
 cases D with
 | ret u=>
  obtain ⟨v,σ',H',J,i,q⟩:=c;exact d J i q
 | next=>
  obtain ⟨σ',H',J,q⟩:=c;exact d (v:=V.non) (u:=Value.none) J rfl q
 | brk=>
  obtain ⟨_,_,_,q⟩:=c;exact False.elim q
 | cont=>
  obtain ⟨_,_,_,q⟩:=c;exact False.elim q
section
variable {X:Cx} {x:Str} {p pos:Pos} {e:Expr} {es:List Expr} {t:TA} {id T:String} {r:List V->Hp->VK->Prop}
def tCB (r:List V->Hp->VK->Prop) (t:TA):TE:=fun σ H Q=>t σ H fun vs H1=>r vs H1 Q
theorem Jap (hc:CallR X (.builtin id) r) (hg:Gl X x) (hm:X.mg x=none) (hv:bootBuiltins x=some (.builtin id)) (ha:PA X (e::es) t) (hn:x≠"__name__":=by decide) (hdb:(x == ("__debug__" : Str))=false:=by decide)
  (he:starEach (e::es) X.env=(false,eval e X.env)::starEach es X.env:=by rfl) (hpl:(backTo pos (starEach es X.env)).any (·.1)=false:=by rfl):PE X (.Call (.Name x p) (e::es) [] pos) (tCB r t):=by
 intro a s σ H Q I h;refine wpAny_Call_Name_kw (JeM I hg hm hv ?_ hn hdb);exact PyProof.Rows.callWith_builtin1 (thn (ha pos a s σ H _ I h) fun c g ⟨f,d,I1,i,b⟩=>hc a g σ d f c Q I1 i b) he hpl
theorem Jcf (hc:CallR X (.type T) r) (hg:Gl X x) (hm:X.mg x=none) (hv:bootBuiltins x=some (.type T)) (ha:PA X (e::es) t) (hn:x≠"__name__":=by decide) (hdb:(x == ("__debug__" : Str))=false:=by decide)
  (he:starEach (e::es) X.env=(false,eval e X.env)::starEach es X.env:=by rfl) (hpl:(backTo pos (starEach es X.env)).any (·.1)=false:=by rfl):PE X (.Call (.Name x p) (e::es) [] pos) (tCB r t):=by
 intro a s σ H Q I h;refine wpAny_Call_Name_kw (JeM I hg hm hv ?_ hn hdb);exact PyProof.Rows.callWith_type1 (thn (ha pos a s σ H _ I h) fun c g ⟨f,d,I1,i,b⟩=>hc a g σ d f c Q I1 i b) he hpl
end
end L2
namespace HT
open PySem PyProof.Rows
section
open PySem.SeqAt
open PySem.AutoSeq1 (wpAny_loadPart')
open PySem.MeetsSeq PySem.MeetsSeq2 PySem.MeetsSeq3
end
section
variable {prog:Program} {w:World} {A:Around} {E:Value->Shared->Prop} {s:Shared}
theorem cat_tup {t b:Addr} {vs ws:List Value} {Q:Value->Shared->Prop} (ht:IsTup s.heap t vs.toArray) (hb:IsTup s.heap b ws.toArray) (hv:vs≠[])
  (h1:ws=[]->Q (.ref t) s) (h2:ws≠[]->Q (.ref s.heap.objs.size) { s with heap:=s.heap.push { cls:=.type "tuple",data:=.seq (vs++ws).toArray } })
  (hsz:vs.length+ws.length<=sizeLine):wpAny (model prog w) A (binaryOp .Add (.ref t) (.ref b)) Q E s:=by
 obtain ⟨⟨cls,k,data,o⟩,i,q,n,m⟩:=id ht;obtain ⟨⟨l,g,j,d⟩,a,f,p,c⟩:=id hb;simp only at q m f c;subst q m f c;have e:vs.toArray++ws.toArray=(vs++ws).toArray:=by simp
 by_cases h:ws=[]
 ·exact concat_meets ⟨_,i,rfl⟩ ⟨_,a,rfl⟩ noFill_tuple_add seq_tuple_add PySem.F.slot_tuple_add PySem.F.entry_tuple_add (PySem.F.args_tuple_add_2 _ _)
   (tuple_addW1 t b vs.toArray ws.toArray n p k g o d (by simpa using hv) (by simp [h])) ⟨i,a,h1 h⟩
 ·refine concat_meets ⟨_,i,rfl⟩ ⟨_,a,rfl⟩ noFill_tuple_add seq_tuple_add PySem.F.slot_tuple_add PySem.F.entry_tuple_add (PySem.F.args_tuple_add_2 _ _)
   (tuple_addW2 t b vs.toArray ws.toArray n p k g o d (by simpa using hv) (by simpa using h) (by rw [size_toArray,size_toArray]; exact hsz)) ⟨i,a,?_⟩
  rw [e];exact h2 h
end
end HT
namespace L2
open PySem PySem.Spec PyProof.Rows
abbrev TO:=St->Hp->(Option Int->Hp->Prop)->Prop
def PO (X:Cx) (e:Option Expr) (t:TO):Prop :=
 ∀ (pins:List (Addr × Obj)) (s:Shared) (σ : St) (H:Hp) (Q:Option Int->Hp->Prop),Inv X pins σ H s->t σ H Q ->
  wpAny (model X.prog X.w) X.A (evalPart e X.env) (fun u s'=>∃ o H',Inv X pins σ H' s'/\IsPart u o/\Q o H') X.xe s
def Jk2:TO:=fun _ H Q=>Q none H
def tPart (t:TE):TO:=fun σ H Q=>t σ H fun x H1=>∃ i,x=.int i/\Q (some i) H1
section
variable {X:Cx} {e:Expr} {te:TE} {lo hi:Option Expr} {tl th:TO} {pos p2:Pos}
def tSl (r:V->Option Int->Option Int->Hp->VK->Prop) (te:TE) (tl th:TO):TE:=fun σ H Q=>te σ H fun x H1=>tl σ H1 fun l H2=>th σ H2 fun u H3=>r x l u H3 Q
def rCatT (K:W.Frag):R2:=fun x y H Q=>∃ a b xs ys,x=.ref a/\y=.ref b/\SqT K H a xs/\SqT K H b ys/\xs≠[]/\xs.length+ys.length<=sizeLine /\
 (ys=[]->Q (.ref a) H)/\(ys≠[]->∀ p,H p=none->Q (.ref p) (upd H p (.tup (xs++ys))))
theorem Vals.nil_iff {xs:List V} {us:List Value} (r:Vals xs us):us=[]↔xs=[]:=by
 cases r with
 | nil=>simp
 | cons _ _=>simp
theorem JkD:OpR X (binaryOp .Add) (rCatT X.K):=by
 intro e s σ H x y v u Q I n k h;obtain ⟨a,b,A,C,rfl,rfl,r,l,p,g,i,B⟩:=h;cases n;cases k;obtain ⟨t,d,m,_⟩:=I.tuple r;obtain ⟨f,c,j,_⟩:=I.tuple l;refine HT.cat_tup m j (fun z=>p (d.nil_iff.mp z)) (fun z=>⟨.ref a,H,I,rfl,i (c.nil_iff.mp z)⟩) (fun z=>?_) (by rw [<- d.length, <- c.length]; exact g);refine ⟨.ref s.heap.objs.size,_,I.laid (t':=s.toks) (o:=.tup (A++C)) (fun b D q=>Heap.get?_push_of_some _ q) (Nat.le_refl _) ?_,rfl,B (fun w=>z (c.nil_iff.mpr w)) _ (I.hok.fresh (Nat.le_refl _))⟩;exact ⟨by rw [length_append]; exact g,_,d.append c,IsTup.new _ _⟩
end
def ixN (n:Nat) (i:Int):Option Nat:=if 0<=i then (if i<n then some i.toNat else none) else if -(n:Int)<=i then some (i+n).toNat else none
def atI {α : Type} (xs:List α) (i:Int):Option α:=(ixN xs.length i).bind fun j=>xs[j]?
theorem Jko {n:Nat} {i:Int} {j:Nat} (h:ixN n i=some j):seqIndex? i n=some j/\j<n/\-(n:Int)<=i/\i<n:=by
 unfold ixN at h;by_cases b:0<=i
 ·rw [if_pos b] at h;by_cases a:i<n
  ·rw [if_pos a] at h;have e:i.toNat=j:=Option.some.inj h;exact ⟨by rw [seqIndex_of b a,e],by ac_nf,by ac_nf,a⟩
  ·rw [if_neg a] at h; cases h
 ·rw [if_neg b] at h;by_cases a : -(n:Int)<=i
  ·rw [if_pos a] at h;have e:(i+n).toNat=j:=Option.some.inj h;exact ⟨by rw [seqIndex_neg ∅ a,e],by ac_nf,a,by ac_nf⟩
  ·rw [if_neg a] at h; cases h
theorem Jga {α : Type} {xs:List α} {i:Int} {v : α} (h:atI xs i=some v):∃ j,seqIndex? i xs.length=some j/\xs[j]?=some v/\j<xs.length/\-(xs.length:Int)<=i/\i<xs.length:=by
 unfold atI at h;cases e:ixN xs.length i with
 | none=>rw [e] at h; cases h
 | some j=>
  rw [e] at h;obtain ⟨c,d,b,a⟩:=Jko e;exact ⟨j,c,h,d,b,a⟩
theorem JdU {α : Type} {xs:List α} {j:Nat} {v : α} (h:xs[j]?=some v):atI xs (j:Int)=some v:=by
 have a:j<xs.length:=(List.getElem?_eq_some_iff.mp h).1;have e:ixN xs.length (j:Int)=some j:=by
  unfold ixN;rw [if_pos ∅,if_pos ∅]; simp
 unfold atI; rw [e]; exact h
def Jj6 (b:Expr):Prop:=∀ o i,subscripted b false o i=operate [o,i] (getItem o i)
def IxR (X:Cx) (r:R2):Prop :=
 ∀ (value slice:Expr) (pins:List (Addr × Obj)) (s:Shared) (σ : St) (H:Hp) (x y:V) (v u:Value) (Q:VK),Inv X pins σ H s->RelV x v->RelV y u->r x y H Q ->
  subscripted slice false v u=operate [v,u] (getItem v u)->wpAny (model X.prog X.w) X.A (subscriptTail value slice v u) (EP X pins σ Q) X.xe s
def MtR (X:Cx) (id:String) (r:V->List V->Hp->VK->Prop):Prop :=
 ∀ (pins:List (Addr × Obj)) (s:Shared) (σ : St) (H:Hp) (x:V) (xs:List V) (v:Value) (us:List Value) (Q:VK),Inv X pins σ H s->RelV x v->Vals xs us->r x xs H Q ->
  wpAny (model X.prog X.w) X.A (call (.builtin id) (v::us)) (EP X pins σ Q) X.xe s
section
variable {X:Cx} {a b:Expr} {ta tb:TE} {pos:Pos}
theorem pe_ix {r:R2} (hr:IxR X r) (ha:PE X a ta) (hb:PE X b tb) (hs:Jj6 b):PE X (.Subscript a b pos) (tOp r ta tb):=by
 intro c s σ H Q I h;exact Subscript_ (binT ha hb I h fun v u g x y f I2 d e q=>hr a b c g σ f x y v u Q I2 d e q (hs _ _))
def rIxL (K:W.Frag):R2:=fun x y H Q=>∃ p xs i v,x=.ref p/\y=.int i/\SqL K H p xs/\atI xs i=some v/\Q v H
def rIxT (K:W.Frag):R2:=fun x y H Q=>∃ p xs i v,x=.ref p/\y=.int i/\SqT K H p xs/\atI xs i=some v/\Q v H
def rIxS:R2:=fun x y H Q=>∃ z i c,x=.str z/\y=.int i/\z.length<=sizeLine/\atI z.cps.toList i=some c/\Q (.str ⟨#[c]⟩) H
theorem Jkp:IxR X (rIxL X.K):=by
 intro g k a s σ H x y v u Q I E C h o;obtain ⟨p,O,i,z,rfl,rfl,L,J,q⟩:=h;cases E;obtain ⟨t,rfl⟩:=C;obtain ⟨l,r,f,M⟩:=I.list L;obtain ⟨j,c,A,N,F,G⟩:=Jga J;obtain ⟨w,m,e⟩:=r.get A;have B:=r.length;have P:=JeN;have b:EP X a σ Q w s:=⟨z,H,I,e,q⟩;by_cases n:0<=i
 ·have d:i.toNat=j:=by
   rw [seqIndex_of n G] at c;exact Option.some.inj c
  exact item_listR f.isList n ∅ (by rw [d]; simpa using m) b o
 ·have d:(i+(l.toArray.size:Int)).toNat=j:=by
   rw [seqIndex_neg ∅ F] at c;rw [size_toArray, <- B];exact Option.some.inj c
  exact subscriptTail_builtinR (x:=w) f.isList.typeIs slot_list_getitem.lookup
   (wpAny_getItem_list_neg (Q:=fun r D=>r=w/\EP X a σ Q r D) f.isList ∅ (by rw [size_toArray] <;> ac_nf) ∅ (by rw [d]; simpa using m) ⟨rfl,b⟩) o
theorem Jli:IxR X (rIxT X.K):=by
 intro d e a s σ H x y v u Q I o l h B;obtain ⟨p,M,i,z,rfl,rfl,E,C,q⟩:=h;cases o;obtain ⟨t,rfl⟩:=l;obtain ⟨D,r,f,J⟩:=I.tuple E;obtain ⟨j,A,g,L,F,G⟩:=Jga C;obtain ⟨w,n,b⟩:=r.get g;have k:=r.length;have N:=JeN;have c:EP X a σ Q w s:=⟨z,H,I,b,q⟩;exact subscriptTail_builtinR (x:=w) f.typeIs slot_tuple_getitem.lookup
  (getItem_tuple (j:=j) (Q:=fun r m=>r=w/\EP X a σ Q r m) f ∅ ∅ (by rw [size_toArray, <- k]; exact A) (by simpa using n) ⟨rfl,c⟩) B
theorem Jlh:IxR X rIxS:=by
 intro a b d s σ H x y v u Q I l k h o;obtain ⟨z,i,c,rfl,rfl,B,w,q⟩:=h;obtain ⟨t,rfl⟩:=l;obtain ⟨A,rfl⟩:=k;obtain ⟨j,e,f,C,m,n⟩:=Jga w;have g:z.cps.toList.length=z.length:=by simp [Str.length]
 rw [g] at e m n;have D:=JeN;exact tail_any (typeIs_str s z t) slot_str_getitem.lookup (getItem_str (c:=c) (by
  have p:decide (i < -(2 ^ 63:Int))=false:=decide_eq_false ∅;have r:decide (i ≥ 2 ^ 63)=false:=decide_eq_false ∅;rw [p,r,Bool.or_false]) (by rw [e]; simpa using f) ⟨.str ⟨#[c]⟩,H,I.tok _,⟨_,rfl⟩,q⟩) o
theorem Inv.lst {pins:List (Addr × Obj)} {σ : St} {H:Hp} {s:Shared} {p:Addr} {xs:List V} (I:Inv X pins σ H s) (h:H p=some (.lst xs)) :
  ∃ (its:List Value) (n:Nat),Vals xs its/\s.heap.get? p=some { cls:=.type "list",data:=.seq its.toArray n }/\xs.length<=sizeLine:=by
 obtain ⟨z,its,n,r,e⟩:=I.hok p _ h;exact ⟨its,n,r,e,z⟩
def flatV:V->Bool
 | .non=>true
 | .bl _=>true
 | .int _=>true
 | .str _=>true
 | _=>false
def eqV:V->V->Bool
 | .non, .non=>true
 | .bl a, .bl b=>a == b
 | .bl a, .int b=>(if a then 1 else 0) == b
 | .int a, .bl b=>a == (if b then 1 else 0)
 | .int a, .int b=>a == b
 | .str a, .str b=>a == b
 | _,_=>false
theorem JjI {A:Around} {s:Shared} {y x:V} {u v:Value} (ry:RelV y u) (rx:RelV x v) (fy:flatV y=true) (fx:flatV x=true):SeqAt.EqAt A s u v (eqV y x):=by
 cases y with
 | non=>
  cases ry;cases x with
  | non=>cases rx; exact SeqAt.EqAt.same _
  | bl b=>cases rx; exact SeqAt.EqAt.none_bool b
  | int b=>obtain ⟨t,rfl⟩:=rx; exact SeqAt.EqAt.none_int b t
  | str b=>obtain ⟨t,rfl⟩:=rx; exact SeqAt.EqAt.none_str b t
  | _=>exact absurd (show false=true from fx) Bool.false_ne_true
 | bl a=>
  cases ry;cases x with
  | non=>cases rx; exact SeqAt.EqAt.bool_none a
  | bl b=>cases rx; exact SeqAt.EqAt.bool_bool a b
  | int b=>obtain ⟨t,rfl⟩:=rx; exact SeqAt.EqAt.bool_int a b t
  | str b=>obtain ⟨t,rfl⟩:=rx; exact SeqAt.EqAt.bool_str a b t
  | _=>exact absurd (show false=true from fx) Bool.false_ne_true
 | int a=>
  obtain ⟨c,rfl⟩:=ry;cases x with
  | non=>cases rx; exact SeqAt.EqAt.int_none a c
  | bl b=>cases rx; exact SeqAt.EqAt.int_bool a c b
  | int b=>obtain ⟨t,rfl⟩:=rx; exact SeqAt.EqAt.int_int a c b t
  | str b=>obtain ⟨t,rfl⟩:=rx; exact SeqAt.EqAt.int_str a c b t
  | _=>exact absurd (show false=true from fx) Bool.false_ne_true
 | str a=>
  obtain ⟨c,rfl⟩:=ry;cases x with
  | non=>cases rx; exact SeqAt.EqAt.str_none a c
  | bl b=>cases rx; exact SeqAt.EqAt.str_bool a c b
  | int b=>obtain ⟨t,rfl⟩:=rx; exact SeqAt.EqAt.str_int a c b t
  | str b=>obtain ⟨t,rfl⟩:=rx; exact SeqAt.EqAt.str_str a c b t
  | _=>exact absurd (show false=true from fx) Bool.false_ne_true
 | _=>exact absurd (show false=true from fy) Bool.false_ne_true
def eqU (x:V) (u:Value):Bool:=match u with
 | .none=>eqV .non x
 | .bool b=>eqV (.bl b) x
 | .int i _=>eqV (.int i) x
 | .str z _=>eqV (.str z) x
 | _=>false
theorem JjJ {x y:V} {u:Value} (r:RelV y u) (f:flatV y=true):eqU x u=eqV y x:=by
 cases y with
 | non=>cases r; rfl
 | bl b=>cases r; rfl
 | int i=>obtain ⟨t,rfl⟩:=r; rfl
 | str z=>obtain ⟨t,rfl⟩:=r; rfl
 | _=>exact absurd (show false=true from f) Bool.false_ne_true
theorem JdT {x:V}:∀ {xs:List V} {us:List Value},Vals xs us->xs.all flatV=true->us.any (eqU x)=xs.any fun y=>eqV y x
 | _,_, .nil,_=>rfl
 | y::xs,u::us, .cons r t,f=>by
  rw [List.all_cons,Bool.and_eq_true] at f;rw [any_cons,any_cons,JjJ r f.1,JdT t f.2]
theorem Jdc {A:Around} {s:Shared} {x:V} {v:Value} (rx:RelV x v) (fx:flatV x=true):∀ {xs:List V} {us:List Value},Vals xs us->xs.all flatV=true->∀ u∈us,SeqAt.EqAt A s u v (eqU x u)
 | _,_, .nil,_=>fun u hu=>by cases hu
 | y::xs,u::us, .cons r t,f=>fun u' hu=>by
  rw [List.all_cons,Bool.and_eq_true] at f;rcases mem_cons.mp hu with rfl | hu
  ·rw [JjJ r f.1]; exact JjI r rx f.1 fx
  ·exact Jdc rx fx t f.2 u' hu
def inV (x:V) (xs:List V):Bool:=xs.any fun y=>eqV y x
def rIn (K:W.Frag) (neg:Bool):R2:=fun x y H Q=>∃ p xs,y=.ref p/\(SqL K H p xs\/SqT K H p xs)/\flatV x=true/\xs.all flatV=true/\Q (.bl (if neg then !inV x xs else inV x xs)) H
theorem Jik:OpR X (compareOp .In) (rIn X.K false):=by
 intro g s σ H x y v u Q I f j h;obtain ⟨p,l,rfl,b,i,c,q⟩:=h;cases j;rcases b with b | b
 ·obtain ⟨a,r,d,k⟩:=I.list b;refine SeqAt.in_listAt (eqU x) d.isList (fun w e=>Jdc f i r c w (by simpa using e)) ⟨.bl _,H,I,rfl,?_⟩;rw [show a.toArray.any (eqU x)=a.any (eqU x) by simp,JdT r c];exact q
 ·obtain ⟨a,r,d,k⟩:=I.tuple b;refine SeqAt.in_tupleAt (eqU x) d (fun w e=>Jdc f i r c w (by simpa using e)) ⟨.bl _,H,I,rfl,?_⟩;rw [show a.toArray.any (eqU x)=a.any (eqU x) by simp,JdT r c];exact q
theorem JfT:OpR X (compareOp .NotIn) (rIn X.K true):=by
 intro g s σ H x y v u Q I f j h;obtain ⟨p,l,rfl,b,i,c,q⟩:=h;cases j;rcases b with b | b
 ·obtain ⟨a,r,d,k⟩:=I.list b;refine SeqAt.notIn_listAt (eqU x) d.isList (fun w e=>Jdc f i r c w (by simpa using e)) ⟨.bl _,H,I,rfl,?_⟩;rw [show a.toArray.any (eqU x)=a.any (eqU x) by simp,JdT r c];exact q
 ·obtain ⟨a,r,d,k⟩:=I.tuple b;refine SeqAt.notIn_tupleAt (eqU x) d (fun w e=>Jdc f i r c w (by simpa using e)) ⟨.bl _,H,I,rfl,?_⟩;rw [show a.toArray.any (eqU x)=a.any (eqU x) by simp,JdT r c];exact q
theorem JfC:CallR X (.builtin "len") (fun xs H Q=>∃ p ys,xs=[.ref p]/\(SqL X.K H p ys\/SqT X.K H p ys)/\Q (.int ys.length) H):=by
 intro f s σ H xs j Q I r h;obtain ⟨p,ys,rfl,b,q⟩:=h;obtain ⟨u,rfl,g⟩:=vals1 r;cases g;have k:=JeN;rcases b with b | b
 ·obtain ⟨d,e,c,i⟩:=I.list b;have a:=e.length;exact Calls.call_len_list c.isList (by simp only [size_toArray] <;> ac_nf) ⟨.int ys.length,H,I.tok _,⟨s.toks+1,by rw [size_toArray,a]⟩,q⟩
 ·obtain ⟨d,e,c,i⟩:=I.tuple b;have a:=e.length;exact len_tuple c (by simp only [size_toArray] <;> ac_nf) ⟨.int ys.length,H,I.tok _,⟨s.toks+1,by rw [size_toArray,a]⟩,q⟩
theorem JfD:CallR X (.builtin "len") (fun xs H Q=>∃ z,xs=[.str z]/\z.length<=sizeLine/\Q (.int z.length) H):=by
 intro a s σ H xs b Q I r h;obtain ⟨z,rfl,c,q⟩:=h;obtain ⟨u,rfl,t,rfl⟩:=vals1 r;have d:=JeN;exact len_str ∅ ⟨.int z.length,H,I.tok _,⟨_,rfl⟩,q⟩
theorem JfE:CallR X (.type "list") (fun xs H Q=>∃ p ys,xs=[.ref p]/\(SqL X.K H p ys\/SqT X.K H p ys)/\∀ l,H l=none->Q (.ref l) (upd H l (.lst ys))):=by
 intro i s σ H xs B Q I r h;obtain ⟨p,ys,rfl,t,q⟩:=h;obtain ⟨u,rfl,A⟩:=vals1 r;cases A;have g:∀ (a:List Value),Vals ys a->ys.length<=sizeLine->∀ (c:Heap) (d:Nat),(∀ b o',s.heap.get? b=some o'->c.get? b=some o') ->
   c.get? s.heap.objs.size=some { cls:=.type "list",dict:=none,data:=.seq a.toArray d,slots:=#[] }->EP X i σ Q (.ref s.heap.objs.size) { s with heap:=c }:=fun a f k c d j e=>
  ⟨.ref s.heap.objs.size,_,I.laid (t':=s.toks) j (Nat.le_refl _) (show ObjOk X.prog X.w _ c _ (.lst ys) from ⟨k,a,d,f,e⟩),rfl,q _ (I.hok.fresh (Nat.le_refl _))⟩
 rcases t with t | t
 ·obtain ⟨a,f,v,k⟩:=I.list t;have m:=f.length;obtain ⟨o,z,y,n,x⟩:=v.isList;exact call_list_seq p (.inl rfl) z y x (fun c d j e=>g a f k c d j e) (by simp only [size_toArray] <;> ac_nf)
 ·obtain ⟨a,f,v,k⟩:=I.tuple t;have m:=f.length;obtain ⟨o,z,y,n,x⟩:=v;exact call_list_seq p (.inr rfl) z y x (fun c d j e=>g a f k c d j e) (by simp only [size_toArray] <;> ac_nf)
def tyV (K:W.Frag) (T:String) (x:V) (H:Hp):Prop:=match x with
 | .str _=>T="str"
 | .int _=>T="int"
 | .ref p=>(T="list"/\∃ xs,SqL K H p xs)\/(T="tuple"/\∃ o,K.lookup p=some o/\o.cls=.type "tuple"/\o.dict=none) \/
   (T="dict"/\((∃ kvs,H p=some (.dK kvs))\/∃ kvs,H p=some (.dT kvs)))\/(T="set"/\∃ S n,H p=some (.set S n))
 | _=>False
theorem Jj0 {pins:List (Addr × Obj)} {σ : St} {H:Hp} {s:Shared} {T:String} {x:V} {v:Value} (I:Inv X pins σ H s) (r:RelV x v) (ty:tyV X.K T x H) :
  s.TypeIs v T/\∀ a,v=.ref a->∃ ob,s.heap.get? a=some ob/\ob.dict=none:=by
 cases x with
 | str z=>
  obtain ⟨t,rfl⟩:=r;cases (show T="str" from ty);exact ⟨typeIs_str s z t,fun _ e=>nomatch e⟩
 | int i=>
  obtain ⟨t,rfl⟩:=r;cases (show T="int" from ty);exact ⟨typeIs_int s i t,fun _ e=>nomatch e⟩
 | ref p=>
  cases r;rcases ty with ⟨rfl,xs,hq⟩ | ⟨rfl,o,hk,hc,f⟩ | ⟨rfl,hk⟩ | ⟨rfl,S,n,hk⟩
  ·obtain ⟨h,_,g,_⟩:=I.list hq;refine ⟨g.isList.typeIs,fun a e=>?_⟩;cases e;obtain ⟨o,n,e,c,f,_⟩:=g;exact ⟨o,e,f⟩
  ·refine ⟨⟨o,I.kIn p o hk,hc⟩,fun a e=>?_⟩;cases e;exact ⟨o,I.kIn _ o hk,f⟩
  ·have z:∃ o,s.heap.get? p=some o/\o.ExactDict:=by
    rcases hk with ⟨kvs,hk⟩ | ⟨kvs,hk⟩
    ·obtain ⟨_,_,_,_,o,_,_,e,b,_⟩:=I.hok p _ hk;exact ⟨o,e,b⟩
    ·obtain ⟨_,_,_,_,o,_,_,e,b,_⟩:=I.hok p _ hk;exact ⟨o,e,b⟩
   obtain ⟨o,e,b⟩:=z;refine ⟨⟨o,e,b.1⟩,fun a d=>?_⟩;cases d;exact ⟨o,e,b.2.1⟩
  ·obtain ⟨o,_,_,_,e,b,_⟩:=I.hok p _ hk;refine ⟨⟨o,e,b.1⟩,fun a d=>?_⟩;cases d;exact ⟨o,e,b.2.1⟩
 | _=>exact False.elim ty
def tBM0 (K:W.Frag) (T:String) (r:V->List V->Hp->VK->Prop) (to:TE):TE:=fun σ H Q=>to σ H fun x H1=>tyV K T x H1/\r x [] H1 Q
def tBM (K:W.Frag) (T:String) (r:V->List V->Hp->VK->Prop) (to:TE) (t:TA):TE:=fun σ H Q=>to σ H fun x H1=>tyV K T x H1/\t σ H1 fun xs H2=>r x xs H2 Q
variable {o e:Expr} {es:List Expr} {to:TE} {t:TA} {name:Str} {apos cpos:Pos} {T id:String} {r:V->List V->Hp->VK->Prop}
theorem JjQ (pa:PlainAttrs T) (slot:Slot T name id) (hty:typeOf (.builtin id)=pure (.type "method_descriptor")) (hm:MtR X id r) (ho:PE X o to)
  (hbase:attributeBase o name X.env (eval o X.env)=eval o X.env:=by rfl) (hline:(apos.endLine == cpos.line)=true:=by rfl):PE X (.Call (.Attribute o name apos) [] [] cpos) (tBM0 X.K T r to):=by
 intro a s σ H Q I h;refine wpAny_Call_method0_late hbase hline (thn (ho a s σ H _ I h) fun v g ⟨x,f,I1,b,d,c⟩=>?_);obtain ⟨i,e⟩:=Jj0 I1 b d;exact ⟨T,id,pa,slot,hty,i,e,Calls.callWith_builtin rfl (PySem.evalArgs_none (hm a g σ f x [] v [] Q I1 b .nil c))⟩
theorem pe_bm (pa:PlainAttrs T) (slot:Slot T name id) (hty:typeOf (.builtin id)=pure (.type "method_descriptor")) (hm:MtR X id r) (ho:PE X o to) (ha:PA X (e::es) t)
  (hbase:attributeBase o name X.env (eval o X.env)=eval o X.env:=by rfl)
  (hfew:((backTo cpos (starEach (e::es) X.env)).all (fun x=>!x.1)&&(backToKw cpos (keywordEach [] X.env)).all (fun x=>x.1.isSome)
   && decide ((e::es).length+([]:List Keyword).length+(if ([]:List Keyword).isEmpty then 0 else 1)<30))=true:=by rfl)
  (hline:(apos.endLine == cpos.line)=true:=by rfl) (hs:starEach (e::es) X.env=(false,eval e X.env)::starEach es X.env:=by rfl) (hplain:(backTo cpos (starEach es X.env)).any (·.1)=false:=by rfl) :
  PE X (.Call (.Attribute o name apos) (e::es) [] cpos) (tBM X.K T r to t):=by
 intro a s σ H Q I h;refine wpAny_Call_method_late hbase hfew hline rfl (thn (ho a s σ H _ I h) fun v u ⟨x,q,I1,c,m,d⟩=>?_);obtain ⟨k,f⟩:=Jj0 I1 c m;refine ⟨T,id,pa,slot,hty,k,f,?_⟩;have b:=ha cpos a u σ q _ I1 d;rw [hs] at b ⊢;refine Calls.callWith_builtin (by show (false||(backTo cpos (starEach es X.env)).any (·.1))=false; rw [hplain] <;> rfl) (Calls.evalArgs_plain ?_);exact thn b fun p i ⟨j,l,I2,g,n⟩=>hm a i σ l x j v p Q I2 c g n
end
def MtM (X:Cx) (id:String) (r:V->List V->Hp->VK->Prop):Prop :=
 ∀ (pins:List (Addr × Obj)) (s:Shared) (σ : St) (H:Hp) (x:V) (xs:List V) (v:Value) (us:List Value) (Q:VK),Inv X pins σ H s->RelV x v->Vals xs us->r x xs H Q ->
  wpAny (model X.prog X.w) X.A (call (.builtin id) (v::us)) (EP X pins σ Q) X.xe s
theorem Vals.one:∀ {x:V} {us:List Value},Vals [x] us->∃ u,us=[u]/\RelV x u
 | _,_, .cons r .nil=>⟨_,rfl,r⟩
theorem Vals.zero:∀ {us:List Value},Vals [] us->us=[]
 | _, .nil=>rfl
theorem Vals.dropLast {xs:List V} {us:List Value} (h:Vals xs us):Vals xs.dropLast us.dropLast:=by
 induction h with
 | nil=>exact .nil
 | cons r t ih=>
  cases t with
  | nil=>exact .nil
  | cons q t'=>exact .cons r ih
theorem Vals.reverse {xs:List V} {us:List Value} (h:Vals xs us):Vals xs.reverse us.reverse:=by
 induction h with
 | nil=>exact .nil
 | cons r t ih=>rw [List.reverse_cons,List.reverse_cons]; exact Vals.append ih (.cons r .nil)
theorem Jhk {α : Type} (l:List α):l.eraseIdx (l.length-1)=l.dropLast:=by
 induction l with
 | nil=>rfl
 | cons a r ih=>
  cases r with
  | nil=>rfl
  | cons b r=>
   have e:(a::b::r).length-1=((b::r).length-1)+1:=by
    have d:(a::b::r).length=r.length+2:=rfl;have c:(b::r).length=r.length+1:=rfl;ac_nf
   rw [e,List.eraseIdx_cons_succ,ih];all_goals rfl
section
variable {X:Cx} {pins:List (Addr × Obj)} {σ : St} {H:Hp} {s:Shared} {l b:Addr} {xs ys zs:List V}
theorem Inv.lset {its its':List Value} {n:Nat} {f:Array Value->Array Value} {t':Nat} (I:Inv X pins σ H s) (hH:H l=some (.lst xs))
  (e:s.heap.get? l=some { cls:=.type "list",data:=.seq its.toArray n }) (hf:f its.toArray=its'.toArray) (hv:Vals ys its') (hz:ys.length<=sizeLine) :
  Inv X pins σ (upd H l (.lst ys)) { s with heap:=s.heap.update l (Obj.mapSeq f),toks:=t' }:=by
 have q:=PySem.IsL.update e f;rw [hf] at q;refine I.write (x:=l) (e:=l) (by rw [hH]; exact trivial) (.inl rfl) (fun c u b a=>(Heap.get?_update_other s.heap (Obj.mapSeq f) (Ne.symm b)).trans a) ⟨_,q⟩ ?_;exact ⟨hz,its',_,hv,q⟩
theorem Inv.lnew {its:List Value} {t':Nat} (I:Inv X pins σ H s) (hv:Vals ys its) (hz:ys.length<=sizeLine) :
  Inv X pins σ (upd H s.heap.objs.size (.lst ys)) { s with heap:=s.heap.push { cls:=.type "list",data:=.seq its.toArray },toks:=t' } :=
 I.laid (fun _ _ q=>Heap.get?_push_of_some _ q) (Nat.le_refl _) ⟨hz,its,0,hv,Heap.get?_push_size _ rfl⟩
theorem Inv.fresh (I:Inv X pins σ H s):H s.heap.objs.size=none:=I.hok.fresh (Nat.le_refl _)
theorem Inv.lstM (I:Inv X pins σ H s) (hH:H l=some (.lst xs)):xs.length<=sizeLine/\∃ (its:List Value) (n:Nat),Vals xs its/\xs.length=its.length/\s.heap.get? l=some { cls:=.type "list",data:=.seq its.toArray n }:=by
 obtain ⟨z,its,n,r,e⟩:=I.hok l _ hH;exact ⟨z,its,n,r,r.length,e⟩
theorem Jje {n:Nat} (h:n<=sizeLine):Builtin.List.listTooLong n=false:=by
 unfold Builtin.List.listTooLong;exact decide_eq_false ∅
end
section
variable {X:Cx}
def JkQ:V->List V->Hp->VK->Prop:=fun x vs H Q=>∃ l xs y,x=.ref l/\vs=[y]/\H l=some (.lst xs)/\xs.length<sizeLine/\Q .non (upd H l (.lst (xs++[y])))
theorem Ja7:MtM X "list.append" JkQ:=by
 intro c s σ H x j v o Q I g f h;obtain ⟨l,m,y,rfl,rfl,b,k,q⟩:=h;cases g;obtain ⟨u,rfl,d⟩:=f.one;obtain ⟨z,a,n,r,i,e⟩:=I.lstM b;refine call_meets F.slot_list_append ⟨_,e,rfl⟩ F.entry_list_append (F.args_list_append_2 _ _) (PySem.list_append l a.toArray n u (by rw [size_toArray]; ac_nf)) ⟨e,?_⟩;refine ⟨.non,_,I.lset (its':=a++[u]) b e (by simp) (r.append (.cons d .nil)) ?_,rfl,q⟩;rw [length_append,length_singleton];ac_nf
def JkR:V->List V->Hp->VK->Prop:=fun x vs H Q=>∃ l b xs zs,x=.ref l/\vs=[.ref b]/\H l=some (.lst xs)/\H b=some (.lst zs)/\xs.length+zs.length<=sizeLine/\Q .non (upd H l (.lst (xs++zs)))
theorem JfM:MtM X "list.extend" JkR:=by
 intro i s σ H x B v J Q I o m h;obtain ⟨l,b,G,E,rfl,rfl,g,t,D,q⟩:=h;cases o;obtain ⟨u,rfl,j⟩:=m.one;cases j;obtain ⟨z,c,n,r,A,e⟩:=I.lstM g;obtain ⟨C,a,p,k,w,y⟩:=I.lstM t;have f:c.toArray.size+a.toArray.size<=sizeLine:=by rw [size_toArray,size_toArray]; ac_nf
 have d:¬ (!c.toArray.isEmpty&&Builtin.List.listTooLong (c.toArray.size+a.toArray.size))=true:=by
  rw [Jje f,Bool.and_false];exact Bool.false_ne_true
 refine call_meets F.slot_list_extend ⟨_,e,rfl⟩ F.entry_list_extend (F.args_list_extend_2 _ _)
  (AutoSeq1.list_extend_list_list_0 l c.toArray n b a.toArray p d (by rw [size_toArray]; ac_nf) ∅) ⟨e,y,?_⟩
 refine ⟨.non,_,I.lset (its':=c++a) g e (by simp) (r.append k) ?_,rfl,q⟩;rw [length_append];ac_nf
def rPop:V->List V->Hp->VK->Prop:=fun x vs H Q=>∃ l xs y,x=.ref l/\vs=[]/\H l=some (.lst xs)/\xs[xs.length-1]?=some y/\Q y (upd H l (.lst xs.dropLast))
theorem Jlq:MtM X "list.pop" rPop:=by
 intro f s σ H x p v w Q I m j h;obtain ⟨l,t,y,rfl,rfl,d,o,q⟩:=h;cases m;have c:=j.zero;subst c;obtain ⟨z,a,n,r,g,e⟩:=I.lstM d;obtain ⟨u,k,i⟩:=r.get o;have b:a.toArray[a.toArray.size-1]?=some u:=by
  show a.toArray[a.length-1]?=some u;rw [<- Array.getElem?_toList, <- g];exact k
 refine call_meets F.slot_list_pop ⟨_,e,rfl⟩ F.entry_list_pop (F.args_list_pop_1 _) (MeetsSeq.list_pop_last l a.toArray n u b (by rw [size_toArray]; ac_nf)) ⟨e,?_⟩;refine ⟨y,_,I.lset (its':=a.dropLast) d e ?_ r.dropLast ?_,i,q⟩
 ·show a.toArray.eraseIdxIfInBounds (a.toArray.size-1)=a.dropLast.toArray;rw [size_toArray,List.eraseIdxIfInBounds_toArray,Jhk]
 ·rw [List.length_dropLast];ac_nf
def Jjs:V->List V->Hp->VK->Prop:=fun x vs H Q=>∃ l xs,x=.ref l/\vs=[]/\H l=some (.lst xs)/\Q .non (upd H l (.lst xs.reverse))
theorem Jhr:MtM X "list.reverse" Jjs:=by
 intro d s σ H x j v m Q I g f h;obtain ⟨l,k,rfl,rfl,c,q⟩:=h;cases g;have b:=f.zero;subst b;obtain ⟨z,a,n,r,i,e⟩:=I.lstM c;refine call_meets F.slot_list_reverse ⟨_,e,rfl⟩ F.entry_list_reverse (F.args_list_reverse_1 _) (AutoSeq1.list_reverse_list_0 l a.toArray n (by rw [size_toArray]; ac_nf)) ⟨e,?_⟩;refine ⟨.non,_,I.lset (its':=a.reverse) c e (by simp) r.reverse ?_,rfl,q⟩;rw [List.length_reverse];ac_nf
def rCat:R2:=fun x y H Q=>∃ l b xs zs,x=.ref l/\y=.ref b/\H l=some (.lst xs)/\H b=some (.lst zs)/\xs.length+zs.length<=sizeLine/\∀ p,H p=none->Q (.ref p) (upd H p (.lst (xs++zs)))
theorem Jlt:OpR X (binaryOp .Add) rCat:=by
 intro d s σ H x y v u Q I j f h;obtain ⟨l,b,D,C,rfl,rfl,i,k,B,q⟩:=h;cases j;cases f;obtain ⟨z,c,n,r,t,e⟩:=I.lstM i;obtain ⟨A,a,w,g,m,p⟩:=I.lstM k;refine PySem.P.add_list e p ?_ (by rw [size_toArray,size_toArray]; ac_nf);have o:c.toArray++a.toArray=(c++a).toArray:=by simp
 rw [o];exact ⟨.ref _,_,I.lnew (t':=s.toks) (r.append g) (by rw [length_append]; ac_nf),rfl,q _ I.fresh⟩
end
section
variable {prog:Program} {w:World} {A:Around} {E:Value->Shared->Prop} {s:Shared}
set_option maxRecDepth 100000 in
end
section
variable {X:Cx}
end
end L2
namespace Att
open PySem PySem.W PySem.Calls PyProof.Rows
theorem Jd0 {P:Params} {h:Heap}:∀ (ns:List Int) (vs:List Value),WellAll P h vs (ns.map WData.int)->IntsAre vs ns:=by
 intro ns;induction ns with
 | nil=>
  intro vs w;rw [map_nil] at w;cases w;exact .nil
 | cons n ns ih=>
  intro vs w;rw [map_cons] at w;cases w with
  | cons a b=>
   cases a;exact .cons _ _ (ih _ b)
theorem JiG {l:OpenLaw} {n:Nat} (hn:l.most=some n) {P:Params} {h:Heap} {args:List WData} {vals:List Value}
  (hpre:l.row.toRowW.claim.pre args=true) (hwl:WellAll P h vals args) :
  ∃ a vs ns,vals=[Value.ref a]/\args=[WData.list (ns.map WData.int)]/\h.get? a=some { cls:=.type "list",data:=.seq vs.toArray }/\IntsAre vs ns/\ns.length<=n:=by
 have f:WShape.hasAll [] args [.list .int]=true:=(pre_splitW hpre).1;have g:l.pre.holds [] { args:=args }=true:=(pre_splitW hpre).2;obtain ⟨d,r,rfl,m,j⟩:=hasAllW_cons f;obtain rfl:=hasAllW_nil j;obtain ⟨o,rfl,i⟩:=hasW_list m;obtain ⟨ns,rfl⟩:=items_int i;have b:ns.length<=n:=by
  unfold OpenLaw.pre at g;have c:(WTm.not (.lt (.lit (.int (n:Int))) (.len (.arg 0)))).holds [] { args:=[.list (ns.map .int)] }=true:=by
   have c:=(holds_andW g).1;rw [hn] at c;exact c
  have e:=condW_of c (w_not (w_lt w_lit (w_len_list (w_arg rfl))));rw [length_map] at e;refine Nat.le_of_not_lt fun q=>?_;have k:(n:Int)<((ns.length:Nat):Int):=by ac_nf
  first
   | (rw [decide_eq_true k] at e; exact absurd e ⋯)
   | (simp at e; ac_nf)
 cases hwl with
 | cons w1 w2=>
  cases w2;cases w1 with
  | list ho hall=>exact ⟨_,_,ns,rfl,rfl,ho,Jd0 ns _ hall,b⟩
theorem Jix (l:OpenLaw) (args:List WData):l.row.toRowW.claim.post args (.bool true) args=true :=
 postW_of (r:=l.row.toRowW) (X:=(true == true))
  (show WShape.has [] (.bool true) .bool=true by first | rfl | decide | simp [WShape.has,WShape.arms,WShape.armsAll])
  (show (WTm.eq .res (.lit (.bool true))).value [] { args:=args,res:=some (.bool true),after:=args }=some (.bool (true == true)) from w_eq_bool (w_res rfl) w_lit) rfl
theorem attach_call {l:OpenLaw} {n:Nat} {q:Program} {loose:List Str} {XP:(Str->Option Value)->Heap->Prop} {YP:World->Heap->Prop} {d:DefRec}
  (hn:l.most=some n) (hdf:d.params.defaults=[])
  (call:∀ (w:World) (s₀ s₁ : Shared) (mg mb:Str->Option Value) (fa:Addr) (o:Obj) (pm cd doc:Value) (a:Addr) (vs:List Value) (ns:List Int),
   Ground q loose [] XP w s₀ mg mb s₁.heap->YP w s₁.heap ->
   s₁.heap.get? fa=some o->o.data=.func (docDef d.name d.params d.body d.scope pm cd doc)->s₁.heap.CodeRec cd d.name->mg d.name=some (.ref fa) ->
   s₁.heap.get? a=some { cls:=.type "list",data:=.seq vs.toArray }->IntsAre vs ns->ns.length<=n->s₁.gens=#[] ->
   codeAny (model l.prog w) callerA (.call (.ref fa) ⟨[.ref a],[]⟩) (fun r s'=>r=.ok (.ret (.bool true))/\OldK s₁.heap s'.heap/\s'.os=s₁.os/\AllBare s'.gens) s₁) :
  WalkO q loose XP YP l.row.toRowW d [] (fun f vs=>PySem.call f vs):=by
 intro w s₀ s₁ mg mb G Y fa o pm cd doc y kV E x i m j z t p H e k D h B;obtain rfl:y=.none:=Dflts.none m hdf;obtain rfl:kV=.none:=Dflts.noKw m;obtain ⟨a,vs,ns,rfl,rfl,c,b,g⟩:=JiG hn e h;refine enter_call (codeAny_mono (call w s₀ s₁ mg mb fa o pm cd doc a vs ns G Y E (fd_plain x) i j c b g z) fun r s' F=>?_);obtain ⟨rfl,v,C,A⟩:=F;exact ⟨.inl ⟨.bool true, .bool true,[],rfl,fun _=>rfl, .bool true,Jix l _,fun _=>⟨List.Pairwise.nil,fun _ u=>(nomatch u)⟩⟩,v,C,A⟩
section
variable {prog:Program} {w:World} {A:Around} {E:Value->Shared->Prop} {s:Shared} {K:Frag}
end
end Att
namespace L2
open PySem PySem.Spec PyProof.Rows
theorem Jf7:∀ {vs:List Value} {ns:List Int},IntsAre vs ns->Vals (ns.map V.int) vs
 | _,_, .nil=>.nil
 | _,_, .cons n t h=>.cons ⟨t,rfl⟩ (Jf7 h)
def Only (H:Hp):Prop:=∀ b,H b=none\/∃ o xs,H b=some (.frz o (.lst xs))
theorem Ji9 {P:Program} {w:World} {K:W.Frag} {mg mb:Str->Option Value} {CX:CXT} {k:Nat} {fa a:Addr} {fd:FuncData} {x:Str} {sp:Sp} {s₁ : Shared} {vs:List Value} {ns:List Int}
  (KX:K.In s₁.heap) (hns:s₁.heap.Ns mainGlobals mg) (hb:s₁.heap.Ns builtinsNs mb) (hbb:∀ x:Str,x≠"__name__"->mb x=bootBuiltins x) (hlim:s₁.heap.NoLimit) (hg:s₁.gens=#[])
  (ha:s₁.heap.get? a=some { cls:=.type "list",data:=.seq vs.toArray }) (hi:IntsAre vs ns) (hl:ns.length<=sizeLine) (hr:Room k callerA)
  (F:∀ base:Heap,K.In base->base.Ns mainGlobals mg->FnOk P w K mg base CX k fa fd [x] sp) (hbind:∀ (s:Shared) (u:Value),BindsTo s fd ⟨[u],[]⟩ [(x,u)])
  (hsp:∀ H:Hp,Only H->SqL K H a (ns.map V.int)->sp [.ref a] H (fun v _=>v=.bl true) fun _ _ _=>False)
  (hCX:∀ H e s',CX [] H s₁ (fun _ _ _=>False) e s'->False) :
  codeAny (model P w) callerA (.call (.ref fa) ⟨[.ref a],[]⟩) (fun r s'=>r=.ok (.ret (.bool true))/\OldK s₁.heap s'.heap/\s'.os=s₁.os/\AllBare s'.gens) s₁:=by
 have C:=Jf7 hi;have j:=hi.length;have g:∀ H:Hp,Only H->SqL K H a (ns.map V.int)->HOk P w H s₁.heap->(∀ b,H b≠none->b=a)->(H a≠none->K.lookup a=none) ->
   codeAny (model P w) callerA (.call (.ref fa) ⟨[.ref a],[]⟩) (fun r s'=>r=.ok (.ret (.bool true))/\OldK s₁.heap s'.heap/\s'.os=s₁.os/\AllBare s'.gens) s₁:=by
  intro H I J t D T;have c:∀ {b:Addr} {o:Obj},s₁.heap.get? b=some o->H b=none->(hidT s₁.heap H).get? b=some o:=fun e n=>Ji8 e n;have B:∀ {b:Addr} {o:Obj} {es:Array DictEntry} {ep:Nat},s₁.heap.get? b=some o->o.data=.dict es ep->H b=none:=fun {b o es ep} e d=>by
   cases q:H b with
   | none=>rfl
   | some u=>
    have A:b=a:=D b (by rw [q]; simp);subst A;rw [ha] at e; cases e;have S:Data.seq vs.toArray _=Data.dict es ep:=d;cases S
  have f:∀ {b:Addr} {m:Str->Option Value},s₁.heap.Ns b m->(hidT s₁.heap H).Ns b m:=fun {b m} ⟨o,es,ep,e,d,r⟩=>⟨o,es,ep,c e (B e d),d,r⟩;have l:K.In (hidT s₁.heap H):=fun b o e=>c (KX b o e) (by
   cases q:H b with
   | none=>rfl
   | some u=>
    have A:b=a:=D b (by rw [q]; simp);subst A;rw [T (by rw [q]; simp)] at e; cases e)
  have L:Mod K mg (hidT s₁.heap H):=⟨l,f hns,⟨mb,f hb,hbb⟩,let ⟨mc,h1,h2⟩:=hlim; ⟨mc,f h1,h2⟩⟩;have O:Env0 P w K mg (hidT s₁.heap H) callerA [] s₁ H:=⟨rfl,L,fun b o e=>JkA e,Nat.le_of_eq (Jh4 _ _),trivial,fun b hb=>absurd (show b∈([]:List Addr) from hb) (by simp),t, .of_eq hg⟩;refine codeAny_mono ((F _ l (f hns)).run callerA [] s₁ H ⟨[.ref a],[]⟩ [.ref a] [.ref a] _ _ hr O (hbind s₁ (.ref a)) (.cons rfl .nil) (hsp H I J)) fun r s' h=>?_;cases r with
  | error e=>exact (hCX H e s' h).elim
  | ok fl=>
   cases fl with
   | next=>exact False.elim h
   | brk=>exact False.elim h
   | cont=>exact False.elim h
   | ret u=>
    obtain ⟨v,U,os,y,E,p,Q,q⟩:=h;have M:v=.bl true:=q;subst M;obtain rfl:u=Value.bool true:=Q;refine ⟨rfl,OldK.of_keep fun b o e=>?_,os,y⟩;cases q:H b with
    | none=>exact E.keep b o e q (by intro z; exact absurd (show b∈([]:List Addr) from z) (by simp)) (by simp)
    | some u=>
     rcases I b with z | ⟨ob,xs,z⟩
     ·rw [q] at z; cases z
     ·have N:=E.frzs b ob _ z;obtain ⟨G,_⟩:=t b _ z;obtain ⟨R,_⟩:=p b _ N;rw [e] at G; cases G;exact R
 cases hk:K.lookup a with
 | some o=>
  have e:=KX a o hk;rw [ha] at e;cases e;refine g (fun _=>none) (fun _=>.inl rfl) (.inr ⟨_,vs.toArray,_,hk,rfl,rfl,rfl,by rw [size_toArray,j]; exact hl,by simpa using C⟩) (fun b u z=>by have i:(none:Option HO)=some u:=z; cases i) (fun b z=>absurd rfl z) fun z=>absurd rfl z
 | none=>
  refine g (fun b=>if b=a then some (.frz { cls:=.type "list",data:=.seq vs.toArray } (.lst (ns.map V.int))) else none) (fun b=>?_) (.inl (.inr ⟨{ cls:=.type "list",data:=.seq vs.toArray },if_pos rfl⟩)) (fun b u z=>?_) (fun b z=>?_) fun _=>hk
  ·by_cases hb:b=a
   ·exact .inr ⟨_,_,if_pos hb⟩
   ·exact .inl (if_neg hb)
  ·by_cases hb:b=a
   ·have i:=(if_pos hb).symm.trans z;cases i;subst hb;exact ⟨ha,by rw [length_map]; exact hl,vs,_,C,ha⟩
   ·have i:=(if_neg hb).symm.trans z;cases i
  ·by_cases hb:b=a
   ·exact hb
   ·exact absurd (if_neg hb) z
abbrev KOf {K:W.Frag} {h:Heap} (_:K.In h):W.Frag:=K
theorem JiZ {l:W.OpenLaw} {n k:Nat} {q:Program} {loose:List Str} {XP:(Str->Option Value)->Heap->Prop} {YP:World->Heap->Prop} {d:DefRec} {K:Params->W.Frag} {CX:World->CXT} {sp:World->Sp} {x:Str}
  (hn:l.most=some n) (hn2:n<=sizeLine) (hdf:d.params.defaults=[]) (hr:Room k callerA)
  (hY:∀ (w:World) (h:Heap),YP w h->(K w.params).In h)
  (F:∀ (w:World) (mg:Str->Option Value) (fa:Addr) (h:Heap),(K w.params).In h->h.Ns mainGlobals mg->mg d.name=some (.ref fa) ->
   ∃ fd:FuncData,(∀ (s:Shared) (u:Value),BindsTo s fd ⟨[u],[]⟩ [(x,u)]) /\
    ∀ base:Heap,(K w.params).In base->base.Ns mainGlobals mg->FnOk l.prog w (K w.params) mg base (CX w) k fa fd [x] (sp w))
  (hsp:∀ (w:World) (H:Hp) (a:Addr) (ns:List Int),ns.length<=n->Only H->SqL (K w.params) H a (ns.map V.int)->sp w [.ref a] H (fun v _=>v=.bl true) fun _ _ _=>False)
  (hCX:∀ (w:World) (H:Hp) (s:Shared) (e:Value) (s':Shared),CX w [] H s (fun _ _ _=>False) e s'->False) :
  W.WalkO q loose XP YP l.row.toRowW d [] (fun f vs=>PySem.call f vs):=by
 refine Att.attach_call hn hdf fun w s₀ s₁ mg E fa o I C t a vs ns G Y J D y m j i c r=>?_;have KX:=hY w _ Y;obtain ⟨fd,p,z⟩:=F w mg fa _ KX G.T.g m;exact Ji9 KX G.T.g G.T.b G.T.builtins G.T.nolimit r j i (Nat.le_trans c hn2) hr z p (fun H B A=>hsp w H a ns c B A) fun H e s'=>hCX w H s₁ e s'
def inClass (s:Stmt) (j:Nat):Stmt:=match s with
 | .ClassDef _ _ _ body _ _ _ _ _ _ _=>body.getD j (.Pass ⟨0,0,0,0⟩)
 | _=>.Pass ⟨0,0,0,0⟩
def Jam (s:Stmt):Arguments:=match s with
 | .FunctionDef _ a _ _ _ _ _ _ _ _=>a
 | _=>{ posonlyargs:=[],args:=[],vararg:=none,kwonlyargs:=[],kw_defaults:=[],kwarg:=none,defaults:=[] }
def Jal (s:Stmt):List Stmt:=match s with
 | .FunctionDef _ _ b _ _ _ _ _ _ _=>b
 | _=>[]
def Jae (s:Stmt):Scope:=match s with
 | .FunctionDef _ _ _ _ _ _ sc _ _ _=>sc
 | _=>{ kind:=.function,names:=[],isGenerator:=false,isCoroutine:=false }
abbrev E0:XK:=fun _ _ _=>False
structure Fun (K:W.Frag) (x qual:Str) (st:Stmt) (f:Addr) (fd:FuncData):Prop where
 ex:∃ (oc:Value) (od:Option Addr) (kV doc pm:Value) (an:Option Addr) (cdv ct:Value) (osl:Array (Option Value)),
  fd=W.fnOf x qual (Jam st) (Jal st) (Jae st) .none kV doc pm an cdv ct/\K.lookup f=some ⟨oc,od, .func fd,osl⟩/\W.codeIn K cdv qual=true
 kp:W.keepIn K (.ref f)=true
section
variable {P:Program} {w:World} {K:W.Frag} {mg:Str->Option Value} {base:Heap}
theorem Fun.binds {x qual:Str} {st:Stmt} {f:Addr} {fd:FuncData} {ps:List Str} (F:Fun K x qual st f fd)
  (h:∀ (kV doc pm:Value) (an:Option Addr) (cdv ct:Value) (us:List Value),us.length=ps.length->bindArgs (W.fnOf x qual (Jam st) (Jal st) (Jae st) .none kV doc pm an cdv ct) ⟨us,[]⟩=pure (ps.zip us)):Binds K fd ps []:=by
 obtain ⟨c,e,kV,doc,pm,an,cdv,ct,a,rfl,d,b⟩:=F.ex;exact .all (h kV doc pm an cdv ct)
end
section
variable {X:Cx}
theorem pv (i:Nat) {x:Str} {pos:Pos} (hN:X.N[i]?=some x:=by rfl) (hv:Vis X.env.scope x:=by first | exact Or.inl rfl | exact Or.inr (Or.inl rfl) | exact Or.inr (Or.inr rfl)) (hd:(x == ("__debug__" : Str))=false:=by decide)
  (hcd:(x == ("__classdict__" : Str))=false:=by decide):PE X (.Name x pos) (tVar i):=JlA hN hv hd hcd
end
def Same (H H':Hp):Prop:=∀ b o,H b=some o->H' b=some o
theorem Same.refl (H:Hp):Same H H:=fun _ _ h=>h
theorem Same.trans {H H1 H2:Hp} (a:Same H H1) (b:Same H1 H2):Same H H2:=fun c o h=>b c o (a c o h)
theorem Same.seq {K:W.Frag} {H H':Hp} {a:Addr} {xs:List V} (e:Same H H') (h:SqL K H a xs):SqL K H' a xs:=by
 rcases h with (h | ⟨o,h⟩) | h
 ·exact .inl (.inl (e _ _ h))
 ·exact .inl (.inr ⟨o,e _ _ h⟩)
 ·exact .inr h
end L2
set_option maxHeartbeats 4000000
namespace L2
open PySem PySem.Spec PyProof.Rows
section
variable {κ : Type} [DecidableEq κ]
def valV (kvs:List (κ × V)) (k : κ):Option V:=(kvs.find? fun kv=>decide (kv.1=k)).map (·.2)
def putK (kvs:List (κ × V)) (k : κ) (v:V):List (κ × V) :=
 if (kvs.any fun kv=>decide (kv.1=k))=true then kvs.map (fun kv=>if kv.1=k then (kv.1,v) else kv) else kvs++[(k,v)]
theorem Jbc {p : κ × V} {r:List (κ × V)} {k : κ} (e:p.1=k):valV (p::r) k=some p.2:=by simp [valV,List.find?_cons,e]
theorem Jbi {p : κ × V} {r:List (κ × V)} {k : κ} (e:¬ p.1=k):valV (p::r) k=valV r k:=by simp [valV,List.find?_cons,e]
theorem Jcz (k : κ):∀ kvs:List (κ × V),(kvs.any fun kv=>decide (kv.1=k))=(valV kvs k).isSome
 | []=>rfl
 | p::r=>by
  rw [any_cons];by_cases e:p.1=k
  ·simp only [Jbc e,decide_eq_true e,Bool.true_or,Option.isSome_some]
  ·rw [Jbi e,decide_eq_false e,Bool.false_or]; exact Jcz k r
theorem Jhc (k j : κ) (y:V):∀ kvs:List (κ × V),valV (kvs.map fun kv=>if kv.1=k then (kv.1,y) else kv) j=(valV kvs j).map fun x=>if j=k then y else x
 | []=>rfl
 | p::r=>by
  have ih:=Jhc k j y r;rw [map_cons];by_cases h:p.1=k
  ·rw [if_pos h];by_cases e:p.1=j
   ·rw [Jbc (p:=(p.1,y)) e,Jbc e,Option.map_some,if_pos (e.symm.trans h)]
   ·rw [Jbi (p:=(p.1,y)) e,Jbi e,ih]
  ·rw [if_neg h];by_cases e:p.1=j
   ·rw [Jbc (p:=p) e,Jbc e,Option.map_some,if_neg (fun z=>h (e.trans z))]
   ·rw [Jbi (p:=p) e,Jbi e,ih]
theorem Jf6 (k j : κ) (y:V):∀ kvs:List (κ × V),valV kvs k=none->valV (kvs++[(k,y)]) j=if j=k then some y else valV kvs j
 | [],_=>by
  by_cases e:k=j
  ·rw [if_pos e.symm]; exact Jbc (p:=(k,y)) e
  ·rw [if_neg (fun z=>e z.symm)]; exact Jbi (p:=(k,y)) e
 | p::r,hn=>by
  rw [cons_append];have hk:¬ p.1=k:=fun z=>by rw [Jbc z] at hn; cases hn
  rw [Jbi hk] at hn;have ih:=Jf6 k j y r hn;by_cases e:p.1=j
  ·rw [Jbc e,Jbc e,if_neg (fun z=>hk (e.trans z))]
  ·rw [Jbi e,Jbi e,ih]
theorem Jhd (kvs:List (κ × V)) (k j : κ) (y:V):valV (putK kvs k y) j=if j=k then some y else valV kvs j:=by
 unfold putK;by_cases a:(kvs.any fun c=>decide (c.1=k))=true
 ·rw [if_pos a,Jhc];rw [Jcz] at a;by_cases e:j=k
  ·obtain ⟨x,b⟩:=Option.isSome_iff_exists.mp a;rw [if_pos e,e,b,Option.map_some,if_pos rfl]
  ·rw [if_neg e];cases valV kvs j with
   | none=>rfl
   | some x=>rw [Option.map_some,if_neg e]
 ·rw [if_neg a];refine Jf6 k j y kvs ?_;rw [Jcz] at a;cases q:valV kvs k with
  | none=>rfl
  | some x=>rw [q] at a; exact (a rfl).elim
theorem Jbj (kvs:List (κ × V)) (k : κ) (v:V):(putK kvs k v).length<=kvs.length+1:=by
 unfold putK;split
 ·rw [length_map]; ac_nf
 ·rw [length_append,length_cons,length_nil]; ac_nf
theorem Jjr {kvs:List (κ × V)} {k : κ} (v:V) (h:valV kvs k=none):putK kvs k v=kvs++[(k,v)]:=by
 unfold putK;rw [Jcz,h];exact if_neg ⋯
theorem RelO.isSome_eq {o:Option V} {u:Option Value} (r:RelO o u):o.isSome=u.isSome:=by
 cases o with
 | none=>cases u with
  | none=>rfl
  | some _=>exact (show False from r).elim
 | some _=>cases u with
  | none=>exact (show False from r).elim
  | some _=>rfl
theorem RelO.getD {o:Option V} {u:Option Value} {d:V} {d':Value} (r:RelO o u) (rd:RelV d d'):RelV (o.getD d) (u.getD d'):=by
 cases o with
 | none=>cases u with
  | none=>exact rd
  | some _=>exact (show False from r).elim
 | some _=>cases u with
  | none=>exact (show False from r).elim
  | some _=>exact r
theorem KV.val {kvs:List (κ × V)} {vs:List (κ × Value)} (r:KV kvs vs) (k : κ):RelO (valV kvs k) (valueAt vs k):=by
 unfold KV at r;induction r with
 | nil=>exact True.intro
 | @cons p q ps qs h t ih=>
  obtain ⟨c,d⟩:=h;by_cases e:p.1=k
  ·have a:q.1=k:=c.symm.trans e;have b:valueAt (q::qs) k=some q.2:=by simp [valueAt,List.find?_cons,a]
   rw [Jbc e,b]; exact d
  ·have a:¬ q.1=k:=fun z=>e (c.trans z);have b:valueAt (q::qs) k=valueAt qs k:=by simp [valueAt,List.find?_cons,a]
   rw [Jbi e,b]; exact ih
theorem KV.any {kvs:List (κ × V)} {vs:List (κ × Value)} (r:KV kvs vs) (k : κ):(kvs.any fun kv=>decide (kv.1=k))=vs.any fun kv=>decide (kv.1=k):=by
 unfold KV at r;induction r with
 | nil=>rfl
 | cons h t ih=>rw [any_cons,any_cons,ih,h.1]
theorem KV.repl {kvs:List (κ × V)} {vs:List (κ × Value)} (r:KV kvs vs) (k : κ) {y:V} {u:Value} (ry:RelV y u) :
  KV (kvs.map fun kv=>if kv.1=k then (kv.1,y) else kv) (vs.map fun kv=>if kv.1=k then (kv.1,u) else kv):=by
 unfold KV at r ⊢;induction r with
 | nil=>exact .nil
 | @cons p q ps qs h t ih=>
  rw [map_cons,map_cons];refine .cons ?_ ih;obtain ⟨a,b⟩:=h;by_cases e:p.1=k
  ·rw [if_pos e,if_pos (a.symm.trans e)]; exact ⟨a,ry⟩
  ·rw [if_neg e,if_neg (fun z=>e (a.trans z))]; exact ⟨a,b⟩
theorem KV.put {kvs:List (κ × V)} {vs:List (κ × Value)} (r:KV kvs vs) (k : κ) {y:V} {u:Value} (ry:RelV y u):KV (putK kvs k y) (stored vs k u):=by
 unfold putK stored;rw [r.any k];by_cases e:(vs.any fun a=>decide (a.1=k))=true
 ·rw [if_pos e,if_pos e]; exact r.repl k ry
 ·rw [if_neg e,if_neg e]; exact Paired.snoc r ⟨rfl,ry⟩
theorem KV.length {kvs:List (κ × V)} {vs:List (κ × Value)} (r:KV kvs vs):kvs.length=vs.length:=Paired.length r
end
theorem kV_is {P:Program} {w:World} {k:Key} {u:Value} (r:RelV (kV k) u):(Jaw P w).is k u=true:=by
 cases k with
 | inl i=>have e:=(show u=Value.bool i from r); subst e; exact JfL P w i
 | inr x=>obtain ⟨t,e⟩:=(show ∃ t,u=Value.str x t from r); subst e; exact Jgn P w x t
theorem JfI {P:Program} {w:World}:∀ {ks:List Key} {us:List Value},Vals (ks.map kV) us->ItemsAre (Jaw P w) ks us
 | [],_,r=>by rw [map_nil] at r; cases r; exact .nil
 | k::ks,_,r=>by
  rw [map_cons] at r;cases r with
  | cons h t=>exact .cons (kV_is h) (JfI t)
abbrev KT (H:Hp):List (List Key × V)->List (List Key × Addr × Value)->Prop:=Paired fun p q=>p.1=q.1/\H q.2.1=some (.tup (p.1.map kV))/\RelV p.2 q.2.2
theorem KT.val {H:Hp} {kvs:List (List Key × V)} {xs:List (List Key × Addr × Value)} (r:KT H kvs xs) (k:List Key):RelO (valV kvs k) ((atKey xs k).map (·.2)):=by
 induction r with
 | nil=>exact True.intro
 | @cons p q ps qs h t ih=>
  obtain ⟨c,_,d⟩:=h;by_cases e:p.1=k
  ·have a:q.1=k:=c.symm.trans e;have b:atKey (q::qs) k=some q.2:=by simp [atKey,List.find?_cons,a]
   rw [Jbc e,b]; exact d
  ·have a:¬ q.1=k:=fun z=>e (c.trans z);have b:atKey (q::qs) k=atKey qs k:=by simp [atKey,List.find?_cons,a]
   rw [Jbi e,b]; exact ih
theorem KT.repl {H:Hp} {kvs:List (List Key × V)} {xs:List (List Key × Addr × Value)} (r:KT H kvs xs) (k:List Key) {y:V} {u:Value} (ry:RelV y u) :
  KT H (kvs.map fun kv=>if kv.1=k then (kv.1,y) else kv) (xs.map (putAt k u)):=by
 induction r with
 | nil=>exact .nil
 | @cons p q ps qs h t ih=>
  rw [map_cons,map_cons];refine .cons ?_ ih;obtain ⟨a,b,c⟩:=h;unfold putAt;by_cases e:p.1=k
  ·rw [if_pos e,if_pos (a.symm.trans e)]; exact ⟨a,b,ry⟩
  ·rw [if_neg e,if_neg (fun z=>e (a.trans z))]; exact ⟨a,b,c⟩
theorem KT.put {H:Hp} {kvs:List (List Key × V)} {xs:List (List Key × Addr × Value)} (r:KT H kvs xs) (k:List Key) {b:Addr} {y:V} {u:Value} (hb:H b=some (.tup (k.map kV))) (ry:RelV y u) :
  KT H (putK kvs k y) (storedH xs k b u):=by
 have e:(kvs.any fun a=>decide (a.1=k))=(atKey xs k).isSome:=by
  rw [Jcz,(r.val k).isSome_eq,Option.isSome_map]
 unfold putK storedH;rw [e];by_cases q:(atKey xs k).isSome=true
 ·rw [if_pos q,if_pos q]; exact r.repl k ry
 ·rw [if_neg q,if_neg q]; exact Paired.snoc r ⟨rfl,hb,ry⟩
theorem KT.keeps {H H':Hp} {kvs:List (List Key × V)} {xs:List (List Key × Addr × Value)} (r:KT H kvs xs) (ht:∀ b ys,H b=some (.tup ys)->H' b=some (.tup ys)):KT H' kvs xs :=
 Paired.mapP r fun _ _ z=>⟨z.1,ht _ _ z.2.1,z.2.2⟩
section
variable {P:Program} {w:World} {H:Hp} {h:Heap} {a:Addr}
theorem y78y {u:HO} (ok:HOk P w H h) (e:Rd H a u):ObjOk P w H h a u:=e.ok ok
theorem dk_rd {kvs:List (Key × V)} (ok:HOk P w H h) (e:Rd H a (.dK kvs)):kvs.length<=sizeLine/\(a == sysModules)=false/\∃ vs,KV kvs vs/\h.DictOf (Jaw P w) a vs :=
 show ObjOk P w H h a (.dK kvs) from y78y ok e
theorem dk_of {kvs:List (Key × V)} (ok:HOk P w H h) (e:H a=some (.dK kvs)):kvs.length<=sizeLine/\(a == sysModules)=false/\∃ vs,KV kvs vs/\h.DictOf (Jaw P w) a vs:=dk_rd ok (.inl e)
theorem Jd1 {ks:List Key} (ok:HOk P w H h) (e:H a=some (.tup (ks.map kV))):(tupleKind (Jaw P w)).is h ks a:=by
 obtain ⟨_,b,r,o,f,d,n,c⟩:=(show ObjOk P w H h a (.tup (ks.map kV)) from ok a _ e);exact ⟨o,b.toArray,n,f,d,c,by simpa using JfI r⟩
theorem dt_rd {kvs:List (List Key × V)} (ok:HOk P w H h) (e:Rd H a (.dT kvs)):kvs.length<=sizeLine/\(a == sysModules)=false /\
  ∃ xs,KT H kvs xs/\h.DictOfH (tupleKind (Jaw P w)) a xs:=by
 obtain ⟨z,y,xs,r,o,k,c,j,f,d,g,i⟩:=(show ObjOk P w H h a (.dT kvs) from y78y ok e);refine ⟨z,y,xs,r,o,k,c,j,f,d,g,fun x b=>?_,i⟩;have all:∀ {l:List (List Key × V)} {m:List (List Key × Addr × Value)},KT H l m->∀ x∈m,(tupleKind (Jaw P w)).is h x.1 x.2.1:=by
  intro l m q;induction q with
  | nil=>intro x b; exact nomatch b
  | @cons p q ps qs hq t ih=>
   intro x b;rcases mem_cons.mp b with e | b
   ·subst e;exact Jd1 ok (by rw [<- hq.1]; exact hq.2.1)
   ·exact ih x b
 exact all r x b
theorem dt_of {kvs:List (List Key × V)} (ok:HOk P w H h) (e:H a=some (.dT kvs)):kvs.length<=sizeLine/\(a == sysModules)=false /\
  ∃ xs,KT H kvs xs/\h.DictOfH (tupleKind (Jaw P w)) a xs:=dt_rd ok (.inl e)
end
def DGet (H:Hp) (a:Addr) (y:V) (r:Option V):Prop :=
 (∃ kvs k,Rd H a (.dK kvs)/\y=kV k/\r=valV kvs k)\/∃ kvs k b,Rd H a (.dT kvs)/\y=.ref b/\H b=some (.tup (k.map kV))/\r=valV kvs k
def DPut (H:Hp) (a:Addr) (y v:V) (H':Hp):Prop :=
 (∃ kvs k,H a=some (.dK kvs)/\y=kV k/\kvs.length<sizeLine/\H'=upd H a (.dK (putK kvs k v))) \/
 ∃ kvs k b,H a=some (.dT kvs)/\y=.ref b/\H b=some (.tup (k.map kV))/\kvs.length<sizeLine/\H'=upd H a (.dT (putK kvs k v))
theorem DGet.k {H:Hp} {a:Addr} {kvs:List (Key × V)} {k:Key} (e:H a=some (.dK kvs)):DGet H a (kV k) (valV kvs k):=.inl ⟨kvs,k, .inl e,rfl,rfl⟩
theorem DPut.k {H:Hp} {a:Addr} {kvs:List (Key × V)} {k:Key} {v:V} (e:H a=some (.dK kvs)) (hl:kvs.length<sizeLine):DPut H a (kV k) v (upd H a (.dK (putK kvs k v))):=.inl ⟨kvs,k,e,rfl,hl,rfl⟩
section
variable {X:Cx} {pins:List (Addr × Obj)} {σ : St} {H:Hp} {s:Shared} {a:Addr} {y v:V} {u r:Value} {o:Option V} {A:Around} {E:Value->Shared->Prop}
theorem Inv.big (I:Inv X pins σ H s):sysModules<s.heap.objs.size:=by
 have h:mainGlobals<s.heap.objs.size:=(I.mod.glob.keeps I.bk).lt;exact Nat.lt_trans ⋯ h
theorem JhQ {Q:Value->Shared->Prop} (hu:A.units+1<cLine) (I:Inv X pins σ H s) (g:DGet H a y (some v)) (ry:RelV y u) (h:∀ w' s',Inv X pins σ H s'->RelV v w'->Q w' s') :
  wpAny (model X.prog X.w) A (getItem (.ref a) u) Q E s:=by
 rcases g with ⟨kvs,k,e,ey,l⟩ | ⟨kvs,k,b,e,ey,eb,l⟩
 ·subst ey;obtain ⟨z,n,r,c,j⟩:=dk_rd I.hok e;obtain ⟨w',f,d⟩:=RelO.some_of (v:=v) (o:=valueAt r k) (by rw [l]; exact c.val k);exact wpAny_getItem_of (kV_is ry) j.mapOf f (h w' _ (I.tok _) d)
 ·subst ey;cases (show u=Value.ref b from ry);obtain ⟨z,n,m,c,j⟩:=dt_rd I.hok e;obtain ⟨w',f,d⟩:=RelO.some_of (v:=v) (o:=(atKey m k).map (·.2)) (by rw [l]; exact c.val k);obtain ⟨p,q,i⟩:=Option.map_eq_some_iff.mp f;refine wpAny_getItem_heap (tupleKind_room_in1 hu) (Jd1 I.hok eb) j q ?_;rw [i];exact h w' _ (I.tok _) d
theorem d_in {Q:Value->Shared->Prop} (hu:A.units+1<cLine) (I:Inv X pins σ H s) (g:DGet H a y o) (ry:RelV y u) (h:∀ s',Inv X pins σ H s'->Q (.bool o.isSome) s') :
  wpAny (model X.prog X.w) A (compareOp .In u (.ref a)) Q E s:=by
 rcases g with ⟨kvs,k,e,ey,l⟩ | ⟨kvs,k,b,e,ey,eb,l⟩
 ·subst ey;obtain ⟨z,d,j,c,f⟩:=dk_rd I.hok e;refine wpAny_in_of (kV_is ry) d f.mapOf ?_;rw [<- (c.val k).isSome_eq, <- l];exact h _ (I.tok _)
 ·subst ey;cases (show u=Value.ref b from ry);obtain ⟨z,d,i,c,f⟩:=dt_rd I.hok e;refine wpAny_in_heap (tupleKind_room_in1 hu) (Jd1 I.hok eb) d f ?_;have q:=(c.val k).isSome_eq;rw [Option.isSome_map] at q;rw [<- q, <- l];exact h _ (I.tok _)
theorem Jkf {Q:Value->Shared->Prop} (hu:A.units+1<cLine) (I:Inv X pins σ H s) (g:DGet H a y o) (ry:RelV y u) (h:∀ s',Inv X pins σ H s'->Q (.bool (!o.isSome)) s') :
  wpAny (model X.prog X.w) A (compareOp .NotIn u (.ref a)) Q E s:=by
 rcases g with ⟨kvs,k,e,ey,l⟩ | ⟨kvs,k,b,e,ey,eb,l⟩
 ·subst ey;obtain ⟨z,d,j,c,f⟩:=dk_rd I.hok e;refine wpAny_notIn_of (kV_is ry) d f.mapOf ?_;rw [<- (c.val k).isSome_eq, <- l];exact h _ (I.tok _)
 ·subst ey;cases (show u=Value.ref b from ry);obtain ⟨z,d,i,c,f⟩:=dt_rd I.hok e;refine wpAny_notIn_heap (tupleKind_room_in1 hu) (Jd1 I.hok eb) d f ?_;have q:=(c.val k).isSome_eq;rw [Option.isSome_map] at q;rw [<- q, <- l];exact h _ (I.tok _)
theorem JeX {h':Heap} {t':Nat} {ob:HO} (I:Inv X pins σ H s) (mu:Mut (H a)) (hs:Heap.SameBut a s.heap h') (he:∃ q,h'.get? a=some q) (new:ObjOk X.prog X.w (upd H a ob) h' a ob) :
  Inv X pins σ (upd H a ob) { s with heap:=h',toks:=t' } :=
 I.write (x:=a) (e:=a) mu (.inl rfl) (fun b q c z=>(hs.2 b c).trans z) he new
theorem JgT {P:Program} {w:World} {H':Hp} {h':Heap} {kvs:List (Key × V)} {vs:List (Key × Value)} (z:kvs.length<=sizeLine) (hd:(a == sysModules)=false) (rel:KV kvs vs) (dd:h'.DictOf (Jaw P w) a vs) :
  ObjOk P w H' h' a (.dK kvs):=⟨z,hd,vs,rel,dd⟩
theorem JhR {H':Hp} {Q:Unit->Shared->Prop} (hu:A.units+1<cLine) (I:Inv X pins σ H s) (g:DPut H a y v H') (ry:RelV y u) (rv:RelV v r) (h:∀ s',Inv X pins σ H' s'->Q () s') :
  wpAny (model X.prog X.w) A (setItem (.ref a) u r) Q E s:=by
 rcases g with ⟨kvs,k,e,ey,l,eH⟩ | ⟨kvs,k,b,e,ey,eb,l,eH⟩
 ·subst ey eH;obtain ⟨z,m,C,d,n⟩:=dk_of I.hok e;have o:C.length<=sizeLine:=by rw [<- d.length]; exact z
  have j:(putK kvs k v).length<=sizeLine:=by have:=Jbj kvs k v; ac_nf
  refine wpAny_setItem_pairs (hsz:=o) (kV_is ry) n fun t f p=>h _ ?_;have M:∃ q,t.get? a=some q:=let ⟨q,_,_,i,_⟩:=f; ⟨q,i⟩;exact JeX I (by rw [e]; exact True.intro) p M (JgT j m (d.put k rv) f)
 ·subst ey eH;cases (show u=Value.ref b from ry);obtain ⟨z,m,L,d,n⟩:=dt_of I.hok e;have o:L.length<=sizeLine:=by rw [<- Paired.length d]; exact z
  have j:(putK kvs k v).length<=sizeLine:=by have:=Jbj kvs k v; ac_nf
  refine wpAny_setItem_heap (hsz:=o) (tupleKind_room_in1 hu) (Jd1 I.hok eb) n fun t f p=>h _ ?_;obtain ⟨q,D,F,i,B,K,G,_,J⟩:=f;refine JeX I (by rw [e]; exact True.intro) p ⟨q,i⟩ ⟨j,m,_,(d.put k eb rv).keeps fun c N x=>?_,q,D,F,i,B,K,G,J⟩;rw [Jag (ne_of x e (fun z=>nomatch z))];exact x
end
section
variable {X:Cx} {pins:List (Addr × Obj)} {σ : St} {H:Hp} {s:Shared} {a:Addr} {kvs:List (Key × V)} {k:Key} {u:Value} {A:Around} {E:Value->Shared->Prop}
end
def NoSl (i:Expr):Prop:=∀ ov iv,subscripted i false ov iv=operate [ov,iv] (getItem ov iv)
theorem JkZ {prog:Program} {w:World} {A:Around} {E:Value->Shared->Prop} {s:Shared} {env:Env} {value slice:Expr} {pos:Pos} {T id:String} {Q:Value->Shared->Prop}
  (hl:typeLookup (.type T) "__getitem__"=pure (some (.builtin id))) (hs:NoSl slice)
  (h:wpAny (model prog w) A (eval value env) (fun o s₁=>wpAny (model prog w) A (eval slice env) (fun i s₂=>s₂.TypeIs o T/\wpAny (model prog w) A (getItem o i) Q E s₂) E s₁) E s) :
  wpAny (model prog w) A (eval (.Subscript value slice pos) env) Q E s:=by
 refine Subscript_ (wpAny_mono h (fun o s₁ h₁=>wpAny_mono h₁ (fun i s₂ h₂=>?_) fun _ _ x=>x) fun _ _ x=>x);obtain ⟨b,h₂⟩:=h₂;unfold subscriptTail;refine wpAny_bind ?_;rw [getitemInPython_of_ne b.not_modules];refine wpAny_bind (wpAny_specialOf b hl ?_);have a:wpAny (model prog w) A (subscripted slice false o i) (fun r s₃=>wpAny (model prog w) A (letTemporaryGo value o r >>= fun _=>pure r) Q E s₃) E s₂:=by
  rw [hs o i];exact wpAny_operating (wpAny_mono h₂ (fun r s₃ h₃=>wpAny_bind (wpAny_letTemporaryGo (wpAny_pure h₃))) fun _ _ x=>x)
 first
  | exact wpAny_pure (wpAny_bind a)
  | exact wpAny_bind (wpAny_pure (wpAny_bind a))
  | exact wpAny_bind a
theorem Jgf {X:Cx} {pins:List (Addr × Obj)} {σ : St} {H:Hp} {s:Shared} {a:Addr} {y:V} {o:Option V} (I:Inv X pins σ H s) (g:DGet H a y o):s.TypeIs (.ref a) "dict":=by
 rcases g with ⟨kvs,k,e,_,_⟩ | ⟨kvs,k,b,e,_,_,_⟩
 ·obtain ⟨_,_,f,_,c⟩:=dk_rd I.hok e;exact c.typeIs
 ·obtain ⟨_,_,d,_,c⟩:=dt_rd I.hok e;exact c.typeIs
def tDGet (td ty:TE):TE:=fun σ H Q=>td σ H fun x H1=>ty σ H1 fun y H2=>∃ a v,x=.ref a/\DGet H2 a y (some v)/\Q v H2
def tDIn (ty td:TE):TE:=fun σ H Q=>ty σ H fun y H1=>td σ H1 fun x H2=>∃ a o,x=.ref a/\DGet H2 a y o/\Q (.bl o.isSome) H2
def JiP (ty td:TE):TE:=fun σ H Q=>ty σ H fun y H1=>td σ H1 fun x H2=>∃ a o,x=.ref a/\DGet H2 a y o/\Q (.bl (!o.isSome)) H2
def sDPut (td ty tv:TE):TS:=fun D σ H=>tv σ H fun v H1=>td σ H1 fun x H2=>ty σ H2 fun y H3=>∃ a H4,x=.ref a/\DPut H3 a y v H4/\D.nx σ H4
section
variable {X:Cx} {o i e value:Expr} {pos pos' tpos:Pos} {td ty tv:TE}
theorem Ja0 (hu:X.A.units+1<cLine) (ho:PE X o td) (hi:PE X i ty) (hs:NoSl i):PE X (.Subscript o i pos) (tDGet td ty):=by
 intro b s σ H Q I h;refine JkZ PySem.F.slot_dict_getitem.lookup hs (thn (ho b s σ H _ I h) fun u n ⟨x,m,I1,j,d⟩=>thn (hi b n σ m _ I1 d) fun q p ⟨y,k,I2,f,a,v,e,g,l⟩=>?_);subst e;obtain rfl:u=Value.ref a:=j;exact ⟨Jgf I2 g,JhQ hu I2 g f fun r t I3 c=>⟨v,k,I3,c,l⟩⟩
theorem Jg4 (hu:X.A.units+1<cLine) (hi:PE X i ty) (ho:PE X o td):PC X .In i o (tDIn ty td):=by
 intro b s σ H Q I h;refine thn (hi b s σ H _ I h) fun q n ⟨y,m,I1,e,c⟩=>thn (ho b n σ m _ I1 c) fun u p ⟨x,k,I2,f,a,j,d,g,l⟩=>?_;subst d;obtain rfl:u=Value.ref a:=f;exact d_in hu I2 g e fun r I3=>⟨.bl j.isSome,k,I3,rfl,l⟩
theorem Jdh (hu:X.A.units+1<cLine) (hi:PE X i ty) (ho:PE X o td):PC X .NotIn i o (JiP ty td):=by
 intro b s σ H Q I h;refine thn (hi b s σ H _ I h) fun q n ⟨y,m,I1,e,c⟩=>thn (ho b n σ m _ I1 c) fun u p ⟨x,k,I2,f,a,j,d,g,l⟩=>?_;subst d;obtain rfl:u=Value.ref a:=f;exact Jkf hu I2 g e fun r I3=>⟨.bl (!j.isSome),k,I3,rfl,l⟩
theorem JbR (hu:X.A.units+1<cLine) (ho:PE X o td) (hi:PE X i ty) (hv:PE X value tv) (hs:swapsWith value (some (.Subscript o i pos')) pos.line X.env=pure false) :
  PS X (.Assign [.Subscript o i pos'] value pos) (sDPut td ty tv):=by
 intro b s σ H D I h;refine wpAny_Assign_Subscript (thn (hv b s σ H _ I h) fun r t ⟨v,q,I1,f,c⟩=>thn (ho b t σ q _ I1 c) fun u j ⟨x,n,I2,k,p⟩=>thn (hi b j σ n _ I2 p) fun z B ⟨y,C,I3,e,a,l,d,g,m⟩=>?_) hs;subst d;obtain rfl:u=Value.ref a:=k;exact JhR hu I3 g e f fun w I4=>⟨σ,l,I4,m⟩
end
theorem JgS {P:Program} {w:World} {H:Hp} (h:Heap) (hb:sysModules<h.objs.size):ObjOk P w H (h.push { cls:=.type "dict",data:=.dict #[] }) h.objs.size (.dK []) :=
 ⟨Nat.zero_le _,beq_eq_false_iff_ne.mpr (Ne.symm (Nat.ne_of_lt hb)),[], .nil,Heap.DictOf.new h⟩
def JjX:TE:=fun _ H Q=>∀ p,H p=none->Q (.ref p) (upd H p (.dK []))
def JlN:TE:=fun _ H Q=>∀ p,H p=none->Q (.ref p) (upd H p (.dT []))
section
variable {X:Cx} {pos:Pos}
theorem JbA:PE X (.Dict [] [] pos) JjX:=fun b s σ H Q I h=>
 wpAny_Dict_empty ⟨.ref s.heap.objs.size,_,I.laid (a:=s.heap.objs.size) (o:=.dK []) (t':=s.toks) (fun _ _ q=>Heap.get?_push_of_some _ q) (Nat.le_refl _) (JgS s.heap I.big),rfl,h _ (I.hok.fresh (Nat.le_refl _))⟩
end
def Jf3:List (TE × TE)->St->Hp->(List (V × V)->Hp->Prop)->Prop
 | [],_,H,Q=>Q [] H
 | (tk,tv)::r,σ,H,Q=>tk σ H fun x H1=>tv σ H1 fun y H2=>Jf3 r σ H2 fun ps H3=>Q ((x,y)::ps) H3
abbrev VV:List (V × V)->List (Value × Value)->Prop:=Paired fun p q=>RelV p.1 q.1/\RelV p.2 q.2
def PPs (X:Cx) (pos:Pos) (keys:List (Option Expr)) (values:List Expr) (trs:List (TE × TE)):Prop :=
 ∀ (pins:List (Addr × Obj)) (s:Shared) (σ : St) (H:Hp) (Q:List (V × V)->Hp->Prop),Inv X pins σ H s->Jf3 trs σ H Q ->
  wpAny (model X.prog X.w) X.A (evalPairs (pairTrees keys values X.env pos)) (fun vs s'=>∃ ps H',Inv X pins σ H' s'/\VV ps vs/\Q ps H') X.xe s
theorem JkO {X:Cx} {pos:Pos}:PPs X pos [] [] []:=fun a s σ H Q I h=>pairTrees_nil_walk ⟨[],H,I, .nil,h⟩
theorem Jjq {X:Cx} {pos:Pos} {k v:Expr} {ks:List (Option Expr)} {vs:List Expr} {tk tv:TE} {trs:List (TE × TE)} (hk:PE X k tk) (hv:PE X v tv) (hr:PPs X pos ks vs trs) :
  PPs X pos (some k::ks) (v::vs) ((tk,tv)::trs):=fun a s σ H Q I h=>
 pairTrees_cons_walk (thn (hk a s σ H _ I h) fun u o ⟨x,n,I1,g,c⟩=>thn (hv a o σ n _ I1 c) fun r f ⟨y,j,I2,e,l⟩=>
  thn (hr a f σ j _ I2 l) fun p q ⟨d,m,I3,b,i⟩=>⟨(x,y)::d,m,I3, .cons ⟨g,e⟩ b,i⟩)
def JeO (kvs more:List (Key × V)):List (Key × V):=more.foldl (fun acc kv=>putK acc kv.1 kv.2) kvs
theorem KV.merge:∀ {more:List (Key × V)} {rs:List (Key × Value)} {kvs:List (Key × V)} {vs:List (Key × Value)},KV more rs->KV kvs vs->KV (JeO kvs more) (merged vs rs):=by
 intro more rs kvs vs r;unfold KV at r;induction r generalizing kvs vs with
 | nil=>intro q; exact q
 | @cons p q ps qs h t ih=>
  intro a;have e:KV (putK kvs p.1 p.2) (stored vs q.1 q.2):=by
   have:=a.put p.1 h.2;rw [<- h.1]; exact this
  exact ih e
theorem Jdb:∀ (more kvs:List (Key × V)),(JeO kvs more).length<=kvs.length+more.length
 | [],kvs=>by show kvs.length<=kvs.length+0; ac_nf
 | p::r,kvs=>by
  have h1:=Jdb r (putK kvs p.1 p.2);have h2:=Jbj kvs p.1 p.2;show (JeO (putK kvs p.1 p.2) r).length<=_;rw [length_cons]; ac_nf
theorem JeH {P:Program} {w:World}:∀ {kvs:List (Key × V)} {ws:List (Value × Value)},VV (kvs.map fun kv=>(kV kv.1,kv.2)) ws->∃ rs,Carries (Jaw P w) ws rs/\KV kvs rs
 | [],_,r=>by rw [map_nil] at r; cases r; exact ⟨[],True.intro, .nil⟩
 | p::kvs,_,r=>by
  rw [map_cons] at r;cases r with
  | @cons a b as bs h t=>
   obtain ⟨rs,c,q⟩:=JeH (P:=P) (w:=w) t;obtain ⟨b1,b2⟩:=b;exact ⟨(p.1,b2)::rs,⟨kV_is h.1,rfl,c⟩, .cons ⟨rfl,h.2⟩ q⟩
def tDisp (trs:List (TE × TE)):TE:=fun σ H Q=>∀ p,H p=none->Jf3 trs σ (upd H p (.dK [])) fun ps H2=>H2 p=some (.dK [])/\∃ kvs:List (Key × V),ps=kvs.map (fun kv=>(kV kv.1,kv.2))/\kvs.length<=15/\Q (.ref p) (upd H2 p (.dK (JeO [] kvs)))
theorem JkJ {X:Cx} {pos:Pos} {keys:List (Option Expr)} {values:List Expr} {trs:List (TE × TE)} (h:PPs X pos keys values trs) (hall:keys.all (·.isSome)=true) (hl:keys.length=values.length) (h0:keys≠[])
  (h15:keys.length<=15):PE X (.Dict keys values pos) (tDisp trs):=by
 intro b s σ H Q I q;have x:=I.hok.fresh (Nat.le_refl s.heap.objs.size);have I1:=I.laid (a:=s.heap.objs.size) (o:=.dK []) (h':=s.heap.push { cls:=.type "dict",data:=.dict #[] }) (t':=s.toks) (fun _ _ q=>Heap.get?_push_of_some _ q) (Nat.le_refl _) (JgS s.heap I.big);refine wpAny_Dict_walk (knd:=Jaw X.prog X.w) hall hl h0 h15 (thn (h b _ σ _ _ I1 (q _ x)) fun D C ⟨B,E,I2,g,e,d,l,A,v⟩=>?_);subst l;obtain ⟨t,c,u⟩:=JeH (P:=X.prog) (w:=X.w) g;obtain ⟨z,j,k,i,m⟩:=dk_of I2.hok e;cases i;refine ⟨t,c,m,fun h' f r=>⟨.ref s.heap.objs.size,_,?_,rfl,v⟩⟩;have p:(JeO [] d).length<=sizeLine:=by
  have n:=Jdb d [];rw [length_nil] at n;rw [sizeLine_eq]; ac_nf
 have y:∃ q,h'.get? s.heap.objs.size=some q:=let ⟨q,_,_,hq,_⟩:=f; ⟨q,hq⟩;exact JeX I2 (by rw [e]; exact True.intro) r y (JgT p j (u.merge .nil) f)
structure M1 (X:Cx) (o:Expr) (m:Str) (apos:Pos) (e:Expr) (cpos:Pos):Prop where
 base:attributeBase o m X.env (eval o X.env)=eval o X.env
 few:((backTo cpos (starEach [e] X.env)).all (fun x=>!x.1)&&(backToKw cpos (keywordEach [] X.env)).all (fun x=>x.1.isSome)
  && decide (([e]:List Expr).length+([]:List Keyword).length+(if ([]:List Keyword).isEmpty then 0 else 1)<30))=true
 line:(apos.endLine == cpos.line)=true
 trees:backTo cpos (starEach [e] X.env)=[(false,eval e X.env)]
structure M2 (X:Cx) (o:Expr) (m:Str) (apos:Pos) (e f:Expr) (cpos:Pos):Prop where
 base:attributeBase o m X.env (eval o X.env)=eval o X.env
 few:((backTo cpos (starEach [e,f] X.env)).all (fun x=>!x.1)&&(backToKw cpos (keywordEach [] X.env)).all (fun x=>x.1.isSome)
  && decide (([e,f]:List Expr).length+([]:List Keyword).length+(if ([]:List Keyword).isEmpty then 0 else 1)<30))=true
 line:(apos.endLine == cpos.line)=true
 trees:backTo cpos (starEach [e,f] X.env)=[(false,eval e X.env),(false,eval f X.env)]
def IsD (H:Hp) (a:Addr):Prop:=(∃ kvs,Rd H a (.dK kvs))\/∃ kvs,Rd H a (.dT kvs)
theorem JfH {X:Cx} {pins:List (Addr × Obj)} {σ : St} {H:Hp} {s:Shared} {a:Addr} (I:Inv X pins σ H s) (d:IsD H a) :
  s.TypeIs (.ref a) "dict"/\(∀ b,Value.ref a=.ref b->∃ ob,s.heap.get? b=some ob/\ob.dict=none)/\(a == sysModules)=false:=by
 rcases d with ⟨kvs,e⟩ | ⟨kvs,e⟩
 ·obtain ⟨_,g,j,_,c⟩:=dk_rd I.hok e;refine ⟨c.typeIs,fun b q=>?_,g⟩;cases q;obtain ⟨ob,_,_,h,f,_⟩:=c;exact ⟨ob,h,f.2.1⟩
 ·obtain ⟨_,g,i,_,c⟩:=dt_rd I.hok e;refine ⟨c.typeIs,fun b q=>?_,g⟩;cases q;obtain ⟨ob,_,_,h,f,_⟩:=c;exact ⟨ob,h,f.2.1⟩
section
variable {X:Cx} {pins:List (Addr × Obj)} {σ : St} {H:Hp} {s:Shared} {a:Addr} {y d:V} {u r:Value} {o:Option V} {A:Around} {E:Value->Shared->Prop}
theorem Jlb {Q:Value->Shared->Prop} (hu:A.units+1<cLine) (I:Inv X pins σ H s) (g:DGet H a y o) (ry:RelV y u) (h:∀ w' s',Inv X pins σ H s'->RelV (o.getD .non) w'->Q w' s') :
  wpAny (model X.prog X.w) A (call (.builtin "dict.get") [.ref a,u]) Q E s:=by
 rcases g with ⟨kvs,k,e,ey,l⟩ | ⟨kvs,k,b,e,ey,eb,l⟩
 ·subst ey;obtain ⟨z,f,j,c,d⟩:=dk_rd I.hok e;refine call_meetsIn PySem.F.slot_dict_get d.typeIs PySem.F.entry_dict_get (PySem.F.args_dict_get_2 _ _) (meets_dict_get (Jaw X.prog X.w) a (kV_is ry) f) ⟨_,d.mapOf,h _ _ (I.tok _) ?_⟩;rw [l];exact (c.val k).getD rfl
 ·subst ey;cases (show u=Value.ref b from ry);obtain ⟨z,f,i,c,d⟩:=dt_rd I.hok e;refine call_meetsIn PySem.F.slot_dict_get d.typeIs PySem.F.entry_dict_get (PySem.F.args_dict_get_2 _ _) (meetsH_dict_get (tupleKind (Jaw X.prog X.w)) a b f) ⟨tupleKind_room_in1 hu,k,i,Jd1 I.hok eb,d,h _ _ (I.tok _) ?_⟩;rw [l];exact (c.val k).getD rfl
theorem Jlc {Q:Value->Shared->Prop} (hu:A.units+1<cLine) (I:Inv X pins σ H s) (g:DGet H a y o) (ry:RelV y u) (rd:RelV d r) (h:∀ w' s',Inv X pins σ H s'->RelV (o.getD d) w'->Q w' s') :
  wpAny (model X.prog X.w) A (call (.builtin "dict.get") [.ref a,u,r]) Q E s:=by
 rcases g with ⟨kvs,k,e,ey,l⟩ | ⟨kvs,k,b,e,ey,eb,l⟩
 ·subst ey;obtain ⟨z,i,m,c,f⟩:=dk_rd I.hok e;refine call_meetsIn PySem.F.slot_dict_get f.typeIs PySem.F.entry_dict_get (PySem.F.args_dict_get_3 _ _ _) (meets_dict_get_default (Jaw X.prog X.w) a (kV_is ry) i r) ⟨_,f.mapOf,h _ _ (I.tok _) ?_⟩;rw [l];exact (c.val k).getD rd
 ·subst ey;cases (show u=Value.ref b from ry);obtain ⟨z,i,j,c,f⟩:=dt_rd I.hok e;refine call_meetsIn PySem.F.slot_dict_get f.typeIs PySem.F.entry_dict_get (PySem.F.args_dict_get_3 _ _ _) (meetsH_dict_get_default (tupleKind (Jaw X.prog X.w)) a b i r) ⟨tupleKind_room_in1 hu,k,j,Jd1 I.hok eb,f,h _ _ (I.tok _) ?_⟩;rw [l];exact (c.val k).getD rd
end
def JjV (td ty:TE):TE:=fun σ H Q=>td σ H fun x H1=>∃ a,x=.ref a/\IsD H1 a/\ty σ H1 fun y H2=>∃ o,DGet H2 a y o/\Q (o.getD .non) H2
def JjW (td ty tx:TE):TE:=fun σ H Q=>td σ H fun x H1=>∃ a,x=.ref a/\IsD H1 a/\ty σ H1 fun y H2=>tx σ H2 fun z H3=>∃ o,DGet H3 a y o/\Q (o.getD z) H3
section
variable {X:Cx} {o e f:Expr} {apos cpos:Pos} {td ty tx:TE}
theorem Jjn (hu:X.A.units+1<cLine) (ho:PE X o td) (he:PE X e ty) (m:M1 X o "get" apos e cpos):PE X (.Call (.Attribute o "get" apos) [e] [] cpos) (JjV td ty):=by
 intro b s σ H Q I h;refine wpAny_Call_method m.base m.few m.line PySem.F.plainAttrs_dict PySem.F.slot_dict_get PySem.F.type_dict_get (thn (ho b s σ H _ I h) fun u t ⟨x,r,I1,n,a,f,d,i⟩=>?_);subst f;obtain rfl:u=Value.ref a:=n;obtain ⟨j,k,_⟩:=JfH I1 d;refine ⟨j,k,?_⟩;rw [m.trees];refine Calls.callWith_builtin rfl (Calls.evalArgs_plain (Calls.spliced_cons (thn (he b t σ r _ I1 i) fun w v ⟨y,p,I2,l,C,g,q⟩=>Calls.spliced_nil ?_)));exact Jlb hu I2 g l fun z B I3 c=>⟨_,p,I3,c,q⟩
theorem Jjo (hu:X.A.units+1<cLine) (ho:PE X o td) (he:PE X e ty) (hf:PE X f tx) (m:M2 X o "get" apos e f cpos):PE X (.Call (.Attribute o "get" apos) [e,f] [] cpos) (JjW td ty tx):=by
 intro b s σ H Q I h;refine wpAny_Call_method m.base m.few m.line PySem.F.plainAttrs_dict PySem.F.slot_dict_get PySem.F.type_dict_get (thn (ho b s σ H _ I h) fun u D ⟨x,B,I1,q,a,i,d,j⟩=>?_);subst i;obtain rfl:u=Value.ref a:=q;obtain ⟨k,l,_⟩:=JfH I1 d;refine ⟨k,l,?_⟩;rw [m.trees];refine Calls.callWith_builtin rfl (Calls.evalArgs_plain (Calls.spliced_cons (thn (he b D σ B _ I1 j) fun G p ⟨y,t,I2,n,v⟩=>
  Calls.spliced_cons (thn (hf b p σ t _ I2 v) fun L K ⟨z,w,I3,C,M,g,r⟩=>Calls.spliced_nil ?_))))
 exact Jlc hu I3 g n C fun J E I4 c=>⟨_,w,I4,c,r⟩
end
section
variable {X:Cx} {pins:List (Addr × Obj)} {σ : St} {H:Hp} {s:Shared} {a:Addr} {kvs:List (Key × V)} {A:Around} {E:Value->Shared->Prop}
end
section
variable {X:Cx} {pins:List (Addr × Obj)} {σ : St} {H:Hp} {s:Shared} {a:Addr} {y:V} {u:Value} {A:Around} {E:Value->Shared->Prop}
end
section
variable {κ : Type} [DecidableEq κ]
end
theorem ObjOk.is_there {P:Program} {w:World} {H:Hp} {h:Heap} {a:Addr} {o:HO} (x:ObjOk P w H h a o):∃ ob,h.get? a=some ob:=by
 cases o with
 | lst xs=>obtain ⟨_,_,_,_,e⟩:=x; exact ⟨_,e⟩
 | tup xs=>obtain ⟨_,_,_,p⟩:=x; obtain ⟨o,e,_⟩:=p; exact ⟨_,e⟩
 | dK kvs=>obtain ⟨_,_,_,_,o,_,_,e,_⟩:=x; exact ⟨_,e⟩
 | dT kvs=>obtain ⟨_,_,_,_,o,_,_,e,_⟩:=x; exact ⟨_,e⟩
 | set S n=>
  obtain ⟨o,_,_,_,e,_⟩:=x;exact ⟨_,e⟩
 | ins C dx fs=>obtain ⟨_,_,_,e,_⟩:=x; exact ⟨_,e⟩
 | own y=>exact x
 | xd fs=>obtain ⟨b,n,_⟩:=x; obtain ⟨c,e,_⟩:=JfK n; exact ⟨_,e⟩
 | rng lo hi=>obtain ⟨_,_,_,e⟩:=x; exact ⟨_,e⟩
 | frz ob u=>exact ⟨_,x.1⟩
 | tbl ps=>exact ⟨_,x⟩
 | met f y=>exact ⟨_,x⟩
 | ext φ=>exact x.2.1
theorem HOk.isnone {P:Program} {w:World} {H:Hp} {h:Heap} {a:Addr} (x:HOk P w H h) (e:h.get? a=none):H a=none:=by
 cases q:H a with
 | none=>rfl
 | some u=>
  obtain ⟨b,z⟩:=(x a u q).is_there;rw [e] at z;cases z
structure Fly (l:List Env) (H':Hp) (h0:Heap) (ea:Addr) (cls a0:Value) (B h:Heap):Prop where
 fly:Heap.FlyingW B l ea cls a0 h
 free:H' ea=none
 new:h0.get? ea=none
 kept:∀ b o,h.get? b=some o->((∃ o',h0.get? b=some o')\/∃ u,H' b=some u)->b∉frs l->B.get? b=some o
def CX1 (P:Program) (w:World):CXT:=fun outer H s E e s'=>
 ∃ (ea:Addr) (cls a0:Value) (B:Heap) (H':Hp),e=.ref ea/\s'.os=s.os/\AllBare s'.gens/\Un (frs outer) [] H H' s.heap s'.heap/\HOk P w H' s'.heap /\
  Fly outer H' s.heap ea cls a0 B s'.heap/\E cls none H'
section
variable {P:Program} {w:World} {l l':List Env} {H H':Hp} {h0 h h' B:Heap} {ea:Addr} {cls a0:Value}
theorem Fly.next (u:Un (frs l) [] H H' h0 h) (hok:HOk P w H' h) (F:Fly l H' h0 ea cls a0 B h) (fr:∀ b∈frs l,H' b=none) (k:B.StaysIn h') (sl:h.UpToSlots h') :
  HOk P w H' h'/\Un (frs l) [] H H' h0 h'/\∀ b o,h.get? b=some o->((∃ o',h0.get? b=some o')\/∃ u,H' b=some u)->b∉frs l->h'.get? b=some o:=by
 have c:∀ b o,h.get? b=some o->((∃ o',h0.get? b=some o')\/∃ u,H' b=some u)->b∉frs l->h'.get? b=some o:=fun b o q r n=>k b o (F.kept b o q r n);have d:∀ b o,b∈frs l->h.get? b=some o->∃ g,h'.get? b=some { o with slots:=g }:=fun b o m q=>by
  obtain ⟨_,o',p,x⟩:=F.fly.2.2.1.mem m;rw [q] at p;cases p;exact sl b o q x
 refine ⟨fun a o e=>?_,⟨fun b o q n s _=>?_,fun b o q n m _=>?_,u.free,fun b o q y=>?_,u.tups,u.frzs,u.tbls⟩,c⟩
 ·have t:∀ b u,H' b=some u->b∉frs l:=fun b u q m=>by
   rw [fr b m] at q;cases q
  refine (hok a o e).stay (fun b v f q=>?_) (fun _ r=>r) (fun _ _ r=>r);rcases f with rfl | f
  ·exact c _ _ q (.inr ⟨_,e⟩) (t _ _ e)
  ·exact c _ _ q (.inr ⟨_,f⟩) (t _ _ f)
 ·exact c b o (u.keep b o q n s (by simp)) (.inl ⟨o,q⟩) s
 ·obtain ⟨z,i⟩:=u.slot b o q n m (by simp);obtain ⟨g,j⟩:=d b _ m i;exact ⟨g,j⟩
 ·obtain ⟨o',i⟩:=u.there b o q (by simp);by_cases m:b∈frs l
  ·obtain ⟨g,j⟩:=d b _ m i;exact ⟨_,j⟩
  ·exact ⟨o',c b o' i (.inl ⟨o,q⟩) m⟩
end
section
variable {X:Cx} {pins:List (Addr × Obj)} {σ : St} {H H':Hp} {s:Shared} {h h' B:Heap} {ea:Addr} {cls a0:Value}
theorem Inv.out (I:Inv X pins σ H s) (hex:X.ex=[]) (u:Un (frs X.stack) [] H H' s.heap h'):Un X.fs [] X.H₀ H' X.s₀.heap h':=by
 have J:=I.base;rw [hex] at J;have r:∀ b o,X.s₀.heap.get? b=some o->b≠X.env.locals:=fun b o q z=>by
  have f:=Heap.lt_size q;have h:=I.ok.above;rw [z] at f;exact absurd (Nat.lt_of_lt_of_le f h) (Nat.lt_irrefl _)
 have p:∀ b o,X.s₀.heap.get? b=some o->b∉X.fs->b∉frs X.stack:=fun b o q c m=>by
  rcases mem_cons.mp (I.stkSub b m) with z | z
  ·exact r b o q z
  ·exact c z
 refine ⟨fun b o q n c _=>?_,fun b o q n m _=>?_,fun b o q n _=>?_,fun b o q _=>?_,fun b g q=>u.tups b g (J.tups b g q),fun b o v q=>u.frzs b o v (J.frzs b o v q),fun b i q=>?_⟩
 ·exact u.keep b o (J.keep b o q n c (by simp)) (J.free b o q n (by simp)) (p b o q c) (by simp)
 ·obtain ⟨t,a⟩:=J.slot b o q n m (by simp);obtain ⟨k,e⟩:=u.any a (J.free b o q n (by simp)) (by simp);exact ⟨k,e⟩
 ·obtain ⟨d,a⟩:=J.there b o q (by simp);exact u.free b d a (J.free b o q n (by simp)) (by simp)
 ·obtain ⟨d,a⟩:=J.there b o q (by simp);exact u.there b d a (by simp)
 ·obtain ⟨l,a⟩:=J.tbls b i q;obtain ⟨j,e⟩:=u.tbls b _ a;exact ⟨l++j,by rw [e,Array.append_assoc]⟩
theorem Inv.stkFree' (I:Inv X pins σ H s) (u:Un (frs X.stack) [] H H' s.heap h):∀ b∈frs X.stack,H' b=none:=fun b m=>by
 obtain ⟨_,o,q,_⟩:=I.stack.mem m;exact u.free b o q (I.stkFree b m) (by simp)
end
section
variable {P:Program} {w:World} {K:W.Frag} {mg:Str->Option Value} {base:Heap} {N:List Str} {qual:Str} {scope:Scope} {f:Addr} {cdv:Value} {A:Around} {outer:List Env} {s0:Shared} {H0:Hp} {E:XK}
theorem pass1:JbZ (CX1 P w) (cxOf (CX1 P w) P w K mg base N qual scope f cdv A outer s0 H0 E) E:=by
 intro x σ H s e t I R;obtain ⟨i,cls,a0,B,y,rfl,n,L,u,l,F,T⟩:=R;have G:=I.stkFree' u;show wpAny (model P w) (A.deeper (envOfC qual scope s0.heap.objs.size f cdv)) (leaving (envOfC qual scope s0.heap.objs.size f cdv) (.ref i)) (fun _ h=>CX1 P w outer H0 s0 E (.ref i) h) (fun J h=>CX1 P w outer H0 s0 E J h) t;refine wpAny_leaves_onW (base:=B) (cls:=cls) (a0:=a0) I.ok.frames rfl F.fly fun M g p=>?_;obtain ⟨j,O,X⟩:=F.next u l G g.1 p;have k:s0.heap.get? i=none:=by
  cases q:s0.heap.get? i with
  | none=>rfl
  | some o=>
   obtain ⟨c,U⟩:=I.base.there i o q (by intro z; cases z);have:=F.new;rw [U] at this;cases this
 refine ⟨i,cls,a0,B,y,rfl,n.trans I.os,L,I.out rfl O,j,⟨g,F.free,k,fun b o q r Q=>?_⟩,T⟩;have W:b≠s0.heap.objs.size:=fun z=>by
  rcases r with ⟨c,a⟩ | ⟨v,a⟩
  ·have:=Heap.lt_size a;rw [z] at this;exact absurd this (Nat.lt_irrefl _)
  ·have S:=G s0.heap.objs.size (by
    show s0.heap.objs.size∈frs (envOfC qual scope s0.heap.objs.size f cdv::outer);exact List.mem_filterMap.mpr ⟨_,mem_cons_self ..,rfl⟩)
   rw [z,S] at a;cases a
 have V:b∉frs (envOfC qual scope s0.heap.objs.size f cdv::outer):=fun m=>by
  rcases mem_cons.mp (I.stkSub b m) with z | z
  ·exact W z
  ·exact Q z
 have D:(∃ c,s.heap.get? b=some c)\/∃ v,y b=some v:=by
  rcases r with ⟨c,a⟩ | r
  ·exact .inl (I.base.there b c a (by intro z; cases z))
  ·exact .inr r
 have d:∃ c,t.heap.get? b=some c:=by
  rcases D with ⟨c,a⟩ | ⟨v,a⟩
  ·exact u.there b c a (by simp)
  ·exact (l b v a).is_there
 obtain ⟨c,a⟩:=d;have z:=F.kept b c a D V;have C:=g.1 b c z;rw [show M.get? b=some o from q] at C;cases C;exact z
end
theorem passF {P:Program} {w:World} {X:Cx}:JbZ (CX1 P w) X E0:=fun _ _ _ _ _ _ _ h=>by
 obtain ⟨_,_,_,_,_,_,_,_,_,_,_,z⟩:=h;exact False.elim z
theorem Jki {K:W.Frag} {h:Heap} {C:Addr} {bmB:List Value} {newId:String} (X:K.In h) (q:W.excIn K C bmB newId=true) :
  ∃ (bm:List Value) (N:Addr) (nm qn:Str) (bs:List Value) (hdct:Bool) (sn:List Str) (sub:List Value) (ab:Bool) (col:Option Bool) (dd:Option Addr) (k0 k1 k2 k3 k5:Option Value) (mN:Str->Option Value),
   h.get? C=some (excClassObj nm qn C N bs bm hdct sn sub ab col dd k0 k1 k2 k3 k5 newId)/\h.Ns N mN/\mN "__init__"=none/\OwnTail h bmB bm:=by
 unfold W.excIn at q;split at q
 next dd cd sl ho=>
  split at q
  next C' bm k0 k1 k2 k3 n k5 hm hs=>
   have k:((((C'=C/\n=newId)/\cd.hasDel=false)/\W.tailIn K bmB bm=true)/\W.nsOkIn K cd.ns=true)/\W.nsIn K cd.ns "__init__"=some none:=by simpa using q
   obtain ⟨⟨⟨⟨⟨m,o⟩,f⟩,p⟩,e⟩,l⟩:=k;obtain ⟨nm,bs,b,j,qn,i,sn,sub,ab,col,d⟩:=cd;have g:sl=#[k0,k1,k2,k3,some (.builtin n),k5]:=by
    cases sl;exact congrArg Array.mk hs
   subst m;subst o;subst g;have c:b=.ref C'::bm:=hm;subst c;have a:d=false:=f;subst a;exact ⟨bm,j,nm,qn,bs,i,sn,sub,ab,col,dd,k0,k1,k2,k3,k5,_,X _ _ ho, .of_isNs (W.isNs_of_in X e),W.nsMap_none_of_in X e l,W.tail_of_in X p⟩
  next=>cases q
 next=>cases q
section
variable {P:Program} {w:World} {K:W.Frag} {mg:Str->Option Value} {base:Heap} {N:List Str} {qual:Str} {scope:Scope} {f:Addr} {cdv:Value} {A:Around} {outer:List Env} {s0:Shared} {H0:Hp} {E:XK}
theorem Jln {pins:List (Addr × Obj)} {σ : St} {H:Hp} {s:Shared} {h':Heap} {e:Addr} {cls:Value} {us:List Value}
  (I:Inv (cxOf (CX1 P w) P w K mg base N qual scope f cdv A outer s0 H0 E) pins σ H s) (hm:Heap.MadeExcOf s.heap h' e cls us) (q:E cls none H) :
  (cxOf (CX1 P w) P w K mg base N qual scope f cdv A outer s0 H0 E).xe (.ref e) { s with heap:=h' }:=by
 show wpAny (model P w) (A.deeper (envOfC qual scope s0.heap.objs.size f cdv)) (leaving (envOfC qual scope s0.heap.objs.size f cdv) (.ref e)) (fun _ j=>CX1 P w outer H0 s0 E (.ref e) j) (fun Q j=>CX1 P w outer H0 s0 E Q j) { s with heap:=h' };have X:=I.stkFree;have J:∀ i∈(envOfC qual scope s0.heap.objs.size f cdv::outer), ∀ b,i.frame=some b->b∈frs (envOfC qual scope s0.heap.objs.size f cdv::outer):=fun i S b l=>List.mem_filterMap.mpr ⟨i,S,l⟩;refine wpAny_leaves_madeW (base:=W.hideAll s.heap (frs (envOfC qual scope s0.heap.objs.size f cdv::outer))) (h:=s.heap) (cls:=cls) (args:=us) I.ok.frames rfl (fun b o z=>W.of_hideAll _ z) (W.funFrames_hide I.stack J) hm fun D t B _ _ x=>?_;have k:H e=none:=I.hok.isnone hm.new;have c:∀ b o,s.heap.get? b=some o->b∉frs (envOfC qual scope s0.heap.objs.size f cdv::outer)->D.get? b=some o:=fun b o z n=>B.1 b o (W.hideAll_get _ z n);have u:Un (frs (envOfC qual scope s0.heap.objs.size f cdv::outer)) [] H H s.heap D:=by
  refine ⟨fun b o z _ n _=>c b o z n,fun b o z _ m _=>?_,fun _ _ _ n _=>n,fun b o z _=>?_,fun _ _ z=>z,fun _ _ _ z=>z,fun _ Y z=>⟨#[],by rw [z]; simp⟩⟩
  ·obtain ⟨_,g,d,F⟩:=I.stack.mem m;rw [z] at d;cases d;exact x b o (hm.keeps b o z) F
  ·by_cases m:b∈frs (envOfC qual scope s0.heap.objs.size f cdv::outer)
   ·obtain ⟨_,g,d,F⟩:=I.stack.mem m;rw [z] at d;cases d;obtain ⟨Z,U⟩:=x b o (hm.keeps b o z) F;exact ⟨_,U⟩
   ·exact ⟨o,c b o z m⟩
 have L:∀ b v,H b=some v->b∉frs (envOfC qual scope s0.heap.objs.size f cdv::outer):=fun b v z m=>by
  rw [X b m] at z;cases z
 have G:HOk P w H D:=fun a o z=>by
  refine (I.hok a o z).stay (fun b v l C=>?_) (fun _ r=>r) (fun _ _ r=>r);rcases l with rfl | l
  ·exact c _ _ C (L _ _ z)
  ·exact c _ _ C (L _ _ l)
 have p:s0.heap.get? e=none:=by
  cases z:s0.heap.get? e with
  | none=>rfl
  | some o=>
   obtain ⟨g,T⟩:=I.base.there e o z (by intro z; cases z);have:=hm.new;rw [T] at this;cases this
 refine ⟨e,cls, .ref t,_,H,rfl,I.os,I.bare,I.out rfl u,G,⟨B,k,p,fun b o z r R=>?_⟩,q⟩;have V:∃ g,s.heap.get? b=some g:=by
  rcases r with ⟨g,d⟩ | ⟨v,d⟩
  ·exact I.base.there b g d (by intro z; cases z)
  ·exact (I.hok b v d).is_there
 have O:b∉frs (envOfC qual scope s0.heap.objs.size f cdv::outer):=fun m=>by
  rcases mem_cons.mp (I.stkSub b m) with y | y
  ·rcases r with ⟨g,d⟩ | ⟨v,d⟩
   ·have M:=Heap.lt_size d;rw [y] at M;exact absurd M (Nat.lt_irrefl _)
   ·exact L b v d m
  ·exact R y
 obtain ⟨g,d⟩:=V;have C:=c b g d O;rw [show D.get? b=some o from z] at C;cases C;exact W.hideAll_get _ d O
def JjY (E:XK) (C:Addr) (ta:TA):TS:=fun _ σ H=>ta σ H fun vs H1=>vs.length<=sizeLine/\E (.ref C) none H1
theorem Jb4 {x:Str} {np cpos pos:Pos} {e:Expr} {es:List Expr} {C:Addr} {B newId initId:String} {bmB:List Value} {ta:TA} (FB:ExcBaseFacts B newId initId bmB) (hx:W.excIn K C bmB newId=true)
  (hg:Gl (cxOf (CX1 P w) P w K mg base N qual scope f cdv A outer s0 H0 E) x) (hm:mg x=some (.ref C)) (ha:PA (cxOf (CX1 P w) P w K mg base N qual scope f cdv A outer s0 H0 E) (e::es) ta)
  (he:starEach (e::es) (envOfC qual scope s0.heap.objs.size f cdv)=(false,eval e (envOfC qual scope s0.heap.objs.size f cdv))::starEach es (envOfC qual scope s0.heap.objs.size f cdv):=by rfl)
  (hpl:(backTo cpos (starEach es (envOfC qual scope s0.heap.objs.size f cdv))).any (·.1)=false:=by rfl) (hdb:(x == ("__debug__" : Str))=false:=by decide) :
  PS (cxOf (CX1 P w) P w K mg base N qual scope f cdv A outer s0 H0 E) (.Raise (some (.Call (.Name x np) (e::es) [] cpos)) none pos) (JjY E C ta):=by
 intro a s σ H D I h;obtain ⟨bm,k,nm,j,bs,hdct,sn,sub,ab,col,dd,k0,k1,k2,k3,k5,mN,m,g,b,T⟩:=Jki I.mod.kin hx;have l:(A.deeper (envOfC qual scope s0.heap.objs.size f cdv)).handled=none:=I.ok.hd rfl;refine wpAny_Raise_call_subT (C:=C) (nm:=nm) (q:=j) (N:=k) (bs:=bs) (bm:=bm) (hdct:=hdct) (sn:=sn) (sub:=sub) (ab:=ab) (col:=col) (dd:=dd) (k0:=k0) (k1:=k1) (k2:=k2) (k3:=k3) (k5:=k5)
  FB (mN:=mN) (T.hasType FB.hasBase) l ?_ b (Jdt I hg hm ⟨rfl,?_⟩ hdb)
 ·show (backTo cpos (starEach (e::es) (envOfC qual scope s0.heap.objs.size f cdv))).any (·.1)=false;rw [he];show (false||(backTo cpos (starEach es (envOfC qual scope s0.heap.objs.size f cdv))).any (·.1))=false;rw [hpl];rfl
 ·have z:=ha cpos a s σ H _ I h;show wpAny _ _ (evalArgs (.ref C) true (backTo cpos (starEach (e::es) (envOfC qual scope s0.heap.objs.size f cdv))) []) _ _ _;have i:=he;rw [he];refine Calls.evalArgs_plain ?_;have c:wpAny (model P w) (A.deeper (envOfC qual scope s0.heap.objs.size f cdv)) (spliced (backTo cpos (starEach (e::es) (envOfC qual scope s0.heap.objs.size f cdv)))) _ _ s:=z;rw [he] at c;refine thn c fun t n ⟨o,u,I1,r,d,q⟩=>?_;exact ⟨rfl,by rw [<- r.length]; exact d,I1.bk _ _ m,g.keeps I1.bk,T.keeps I1.bk,fun p e hm=>Jln I1 hm q⟩
end
def xCall (sp:Sp) (dvs:List V) (t:TA):St->Hp->VK->XK->Prop:=fun σ H Q E=>t σ H fun vs H1=>sp (vs++dvs) H1 Q E
section
variable {X:Cx} {k:Nat} {f C:Addr} {fd:FuncData} {ps:List Str} {sp:Sp} {dvs:List V} {ds:List Value} {E:XK} {x m:Str} {p pos apos:Pos} {e o:Expr} {es:List Expr} {ta:TE} {t:TA}
end
section
variable {X:Cx} {pins:List (Addr × Obj)} {σ : St} {H H':Hp} {s s':Shared} {h' B:Heap} {ea:Addr} {cls a0:Value}
theorem Inv.track {a:Addr} {o:HO} (I:Inv X pins σ H s) (hn:H a=none) (h1:X.s₀.heap.get? a=none) (h2:a≠X.env.locals) (h3:∀ x c,X.env.cells.lookup x=some c->c≠a) (h4:∀ p∈X.pn++pins,p.1≠a)
  (ok:ObjOk X.prog X.w (upd H a o) s.heap a o):Inv X pins σ (upd H a o) s:=by
 have d:∀ b u,H b=some u->b≠a:=fun b u q=>Jai q hn;refine ⟨I.ok,I.os,I.bare,⟨I.base.keep,I.base.slot,fun b f q n j=>?_,I.base.there,fun b g q=>?_,fun b f u q=>?_,fun b k q=>?_⟩,I.loc,I.cell,?_,fun x c e=>?_,fun p i=>?_,fun b u q=>?_,I.len⟩
 ·have : b≠a:=fun z=>by rw [z,h1] at q; cases q
  rw [Jag this];exact I.base.free b f q n j
 ·have z:=I.base.tups b g q;rw [Jag (d _ _ z)];exact z
 ·have z:=I.base.frzs b f u q;rw [Jag (d _ _ z)];exact z
 ·obtain ⟨l,z⟩:=I.base.tbls b k q;exact ⟨l,by rw [Jag (d _ _ z)]; exact z⟩
 ·rw [Jag (Ne.symm h2)];exact I.free
 ·rw [Jag (h3 x c e)];exact I.freeC x c e
 ·obtain ⟨e,n,r⟩:=I.pin p i;exact ⟨e,by rw [Jag (h4 p i)]; exact n,r⟩
 ·by_cases h:b=a
  ·subst h;rw [Jak] at q;cases q;exact ok
  ·rw [Jag h] at q;exact (I.hok b u q).stay (fun _ _ _ z=>z) (fun c z=>by rw [Jag (d _ _ z)]; exact z) (fun c g z=>by rw [Jag (d _ _ z)]; exact z)
def ExcO (e C:Addr):HO:=.ext fun h=>∃ ox vs,h.get? e=some ox/\ox.cls=.ref C/\ox.data=.fields vs
end
structure JhI (K:W.Frag) (C D:Addr):Prop where
 cl:W.hasDictIn K D=true
 ty:W.typeIn K (.ref D)=some (.type "type")
 ex:W.mroIn K D (.type "BaseException")=some true
 ab:W.mroIn K C (.ref D)=some true
section
variable {X:Cx} {ce:Expr} {epos pos hpos np:Pos} {x n:Str} {b0:Stmt} {suite:List Stmt} {D:Addr} {t:St->Hp->VK->XK->Prop} {ts:TS}
def JlO (K:W.Frag) (D:Addr) (i:Nat) (t:St->Hp->VK->XK->Prop) (ts:TS):TS:=fun Dn σ H=>t σ H (fun _ H1=>Dn.nx σ H1) fun cls _ H1=>∃ C,cls=.ref C/\JhI K C D /\
 ∀ ea,H1 ea=none->ts { nx:=fun σ' H'=>Dn.nx (σ'.set i none) H',rt:=Dn.rt,bk:=fun σ' H'=>Dn.bk (σ'.set i none) H',ct:=fun σ' H'=>Dn.ct (σ'.set i none) H' } (σ.set i (some (.ref ea))) (upd H1 ea (ExcO ea C))
end
inductive D where
 | non | bl (b:Bool) | int (i:Int) | str (x:Str) | tup (xs:List D) | lst (xs:List D)
mutual
def Rep (K:W.Frag) (H:Hp):D->V->Prop
 | .non,v=>v=.non
 | .bl b,v=>v=.bl b
 | .int i,v=>v=.int i
 | .str x,v=>v=.str x
 | .tup ds,v=>∃ a xs,v=.ref a/\SqT K H a xs/\RepL K H ds xs
 | .lst ds,v=>∃ a xs,v=.ref a/\SqL K H a xs/\RepL K H ds xs
def RepL (K:W.Frag) (H:Hp):List D->List V->Prop
 | [],vs=>vs=[]
 | d::ds,vs=>∃ v r,vs=v::r/\Rep K H d v/\RepL K H ds r
end
mutual
def eqD:D->D->Bool
 | .non, .non=>true
 | .bl a, .bl b=>a == b
 | .int a, .int b=>a == b
 | .bl a, .int b=>(if a then 1 else 0) == b
 | .int a, .bl b=>a == (if b then 1 else 0)
 | .str a, .str b=>a == b
 | .tup xs, .tup ys=>eqL xs ys
 | .lst xs, .lst ys=>eqL xs ys
 | _,_=>false
def eqL:List D->List D->Bool
 | [],[]=>true
 | x::xs,y::ys=>eqD x y&&eqL xs ys
 | _,_=>false
end
mutual
def depD:D->Nat
 | .tup xs=>depL xs+1
 | .lst xs=>depL xs+1
 | _=>0
def depL:List D->Nat
 | []=>0
 | x::xs=>max (depD x) (depL xs)
end
theorem JeK:∀ {xs ys:List D},eqL xs ys=true->xs.length=ys.length
 | [],[],_=>rfl
 | [],_::_,h=>by simp [eqL] at h
 | _::_,[],h=>by simp [eqL] at h
 | x::xs,y::ys,h=>by
  simp only [eqL,Bool.and_eq_true] at h;simp only [length_cons,JeK h.2]
mutual
theorem JcQ:∀ d:D,eqD d d=true
 | .non=>by simp [eqD]
 | .bl b=>by simp [eqD]
 | .int i=>by simp [eqD]
 | .str x=>by simp [eqD]
 | .tup xs=>by simp only [eqD]; exact JeZ xs
 | .lst xs=>by simp only [eqD]; exact JeZ xs
theorem JeZ:∀ d:List D,eqL d d=true
 | []=>by simp [eqL]
 | x::xs=>by simp only [eqL,Bool.and_eq_true]; exact ⟨JcQ x,JeZ xs⟩
end
theorem RepL.length {K:W.Frag} {H:Hp}:∀ {ds:List D} {vs:List V},RepL K H ds vs->ds.length=vs.length
 | [],vs,h=>by
  simp only [RepL] at h;rw [h]; rfl
 | d::ds,vs,h=>by
  simp only [RepL] at h;obtain ⟨v,r,rfl,_,h2⟩:=h;simp only [length_cons,RepL.length h2]
theorem RepL.get {K:W.Frag} {H:Hp}:∀ {ds:List D} {vs:List V} {i:Nat} {d:D},RepL K H ds vs->ds[i]?=some d->∃ v,vs[i]?=some v/\Rep K H d v
 | [],_,_,_,_,e=>by simp at e
 | d::ds,vs,i,d',h,e=>by
  simp only [RepL] at h;obtain ⟨v,r,rfl,h1,h2⟩:=h;cases i with
  | zero=>simp at e; subst e; exact ⟨v,rfl,h1⟩
  | succ i=>
   obtain ⟨v',e',h'⟩:=RepL.get h2 (by simpa using e);exact ⟨v',by simpa using e',h'⟩
theorem SqL.same {K:W.Frag} {H H':Hp} {a:Addr} {xs:List V} (e:Same H H') (h:SqL K H a xs):SqL K H' a xs:=e.seq h
theorem SqT.same {K:W.Frag} {H H':Hp} {a:Addr} {xs:List V} (e:Same H H') (h:SqT K H a xs):SqT K H' a xs:=by
 rcases h with (h | ⟨o,h⟩) | h
 ·exact .inl (.inl (e _ _ h))
 ·exact .inl (.inr ⟨o,e _ _ h⟩)
 ·exact .inr h
mutual
theorem Rep.same {K:W.Frag} {H H':Hp} (e:Same H H'):∀ {d:D} {v:V},Rep K H d v->Rep K H' d v
 | .non,_,h=>by simpa only [Rep] using h
 | .bl _,_,h=>by simpa only [Rep] using h
 | .int _,_,h=>by simpa only [Rep] using h
 | .str _,_,h=>by simpa only [Rep] using h
 | .tup ds,_,h=>by
  simp only [Rep] at h ⊢;obtain ⟨a,xs,h1,h2,h3⟩:=h;exact ⟨a,xs,h1,h2.same e,RepL.same e h3⟩
 | .lst ds,_,h=>by
  simp only [Rep] at h ⊢;obtain ⟨a,xs,h1,h2,h3⟩:=h;exact ⟨a,xs,h1,h2.same e,RepL.same e h3⟩
theorem RepL.same {K:W.Frag} {H H':Hp} (e:Same H H'):∀ {d:List D} {v:List V},RepL K H d v->RepL K H' d v
 | [],_,h=>by simpa only [RepL] using h
 | x::xs,_,h=>by
  simp only [RepL] at h ⊢;obtain ⟨v,r,h1,h2,h3⟩:=h;exact ⟨v,r,h1,Rep.same e h2,RepL.same e h3⟩
end
section
variable {X:Cx} {pins:List (Addr × Obj)} {σ : St} {H:Hp} {s:Shared}
theorem Inv.list_tuple (I:Inv X pins σ H s) {a:Addr} {xs ys:List V} (h:SqL X.K H a xs) (h':SqT X.K H a ys):False:=by
 obtain ⟨_,_,p,_⟩:=I.list h;obtain ⟨_,_,q,_⟩:=I.tuple h';obtain ⟨o,_,d,e,_⟩:=p;obtain ⟨f,c,b,_⟩:=q;rw [d] at c;cases c;rw [e] at b;exact absurd b ⋯
mutual
theorem Inv.rep_inj (I:Inv X pins σ H s):∀ {d e:D} {v:V},Rep X.K H d v->Rep X.K H e v->d=e
 | .non,e,v,h,h'=>by
  simp only [Rep] at h; subst h;cases e <;> simp [Rep] at h' ⊢
 | .bl _,e,v,h,h'=>by
  simp only [Rep] at h; subst h;cases e <;> simp [Rep] at h' ⊢
  exact h'
 | .int _,e,v,h,h'=>by
  simp only [Rep] at h; subst h;cases e <;> simp [Rep] at h' ⊢
  exact h'
 | .str _,e,v,h,h'=>by
  simp only [Rep] at h; subst h;cases e <;> simp [Rep] at h' ⊢
  exact h'
 | .tup ds,e,v,h,h'=>by
  simp only [Rep] at h;obtain ⟨a,xs,rfl,h2,h3⟩:=h;cases e with
  | tup es=>
   simp only [Rep] at h';obtain ⟨a',ys,q,g2,g3⟩:=h';cases q;have:=I.tuple_inj h2 g2;subst this;rw [Inv.repL_inj I h3 g3]
  | lst es=>
   simp only [Rep] at h';obtain ⟨a',ys,q,g2,g3⟩:=h';cases q;exact (I.list_tuple g2 h2).elim
  | _=>simp [Rep] at h'
 | .lst ds,e,v,h,h'=>by
  simp only [Rep] at h;obtain ⟨a,xs,rfl,h2,h3⟩:=h;cases e with
  | lst es=>
   simp only [Rep] at h';obtain ⟨a',ys,q,g2,g3⟩:=h';cases q;have:=I.list_inj h2 g2;subst this;rw [Inv.repL_inj I h3 g3]
  | tup es=>
   simp only [Rep] at h';obtain ⟨a',ys,q,g2,g3⟩:=h';cases q;exact (I.list_tuple h2 g2).elim
  | _=>simp [Rep] at h'
theorem Inv.repL_inj (I:Inv X pins σ H s):∀ {d e:List D} {v:List V},RepL X.K H d v->RepL X.K H e v->d=e
 | [],e,v,h,h'=>by
  simp only [RepL] at h; subst h;cases e <;> simp [RepL] at h' ⊢
 | x::xs,e,v,h,h'=>by
  simp only [RepL] at h;obtain ⟨u,r,rfl,h1,h2⟩:=h;cases e with
  | nil=>simp [RepL] at h'
  | cons y ys=>
   simp only [RepL] at h';obtain ⟨u',r',q,g1,g2⟩:=h';cases q;rw [Inv.rep_inj I h1 g1,Inv.repL_inj I h2 g2]
end
end
def JcK {α β : Type} (f : α->β->Bool):List α->List β->Bool
 | [],[]=>true
 | x::xs,y::ys=>f x y&&JcK f xs ys
 | _,_=>false
def atB {α β : Type} (f : α->β->Bool) (xs:List α) (ys:List β) (j:Nat):Bool:=match xs[j]?,ys[j]? with
 | some x,some y=>f x y
 | _,_=>true
theorem JcL {α β : Type} (f : α->β->Bool):∀ (xs:List α) (ys:List β),
  ((List.range (min xs.length ys.length)).all (atB f xs ys)&&(xs.length == ys.length))=JcK f xs ys
 | [],[]=>by simp [JcK]
 | [],_::_=>by simp [JcK]
 | _::_,[]=>by simp [JcK]
 | x::xs,y::ys=>by
  have ih:=JcL f xs ys;simp only [JcK,length_cons];rw [<- ih,Nat.succ_min_succ,List.range_succ_eq_map,List.all_cons,List.all_map];have e:((List.range (min xs.length ys.length)).all (atB f (x::xs) (y::ys) ∘ Nat.succ))=(List.range (min xs.length ys.length)).all (atB f xs ys):=by
   congr 1
  rw [e];have e0:atB f (x::xs) (y::ys) 0=f x y:=by unfold atB; simp
  rw [e0,Bool.and_assoc]
  congr 2
  simp
theorem Jgh:∀ xs ys:List D,eqL xs ys=JcK eqD xs ys
 | [],[]=>by simp [eqL,JcK]
 | [],_::_=>by simp [eqL,JcK]
 | _::_,[]=>by simp [eqL,JcK]
 | x::xs,y::ys=>by simp only [eqL,JcK,Jgh xs ys]
theorem JgR:∀ {ds:List D} {d:D},d∈ds->depD d<=depL ds
 | [],_,h=>by simp at h
 | x::xs,d,h=>by
  simp only [depL];rcases mem_cons.mp h with rfl | h
  ·exact Nat.le_max_left ..
  ·exact Nat.le_trans (JgR h) (Nat.le_max_right ..)
def flatD:D->Bool
 | .tup _=>false
 | .lst _=>false
 | _=>true
def valD:D->V
 | .bl b=>.bl b
 | .int i=>.int i
 | .str x=>.str x
 | _=>.non
theorem Jfg {K:W.Frag} {H:Hp} {d:D} {v:V} (f:flatD d=true) (h:Rep K H d v):v=valD d:=by
 cases d <;> simp_all [flatD,Rep,valD]
theorem JgU {d:D} (f:flatD d=true):flatV (valD d)=true:=by
 cases d <;> simp_all [flatD,valD,flatV]
theorem Jkh {d e:D} (f:flatD d=true) (g:flatD e=true):eqV (valD d) (valD e)=eqD d e:=by
 cases d <;> cases e <;> simp_all [flatD,valD,eqV,eqD]
section
variable {X:Cx} {pins:List (Addr × Obj)} {σ : St} {H:Hp} {s:Shared}
theorem in1_units (A:Around):A.in1.units=A.units+1:=rfl
def EqP (X:Cx) (H:Hp) (s:Shared) (n:Nat):Prop:=∀ (d e:D) (A:Around) (x y:V) (u v:Value),depD d<=n->Rep X.K H d x->Rep X.K H e y->RelV x u->RelV y v->A.units+n<cLine->SeqAt.EqAt A s u v (eqD d e)
theorem JgY {n:Nat} (ih:EqP X H s n) {ds es:List D} {xs ys:List V} {its jts:List Value} (h3:RepL X.K H ds xs) (g3:RepL X.K H es ys) (vi:Vals xs its) (vj:Vals ys jts) (hds:depL ds<=n) {A:Around} (hA:A.units+n<cLine) :
  ∀ j (p1:j<its.toArray.size) (p2:j<jts.toArray.size),SeqAt.EqAt A s its.toArray[j] jts.toArray[j] (atB eqD ds es j):=by
 intro j p1 p2;have f:its.length=ds.length:=by rw [h3.length,vi.length]
 have c:jts.length=es.length:=by rw [g3.length,vj.length]
 have a:j<ds.length:=by rw [<- f]; simpa using p1
 have b:j<es.length:=by rw [<- c]; simpa using p2
 obtain ⟨v,o,t⟩:=h3.get (List.getElem?_eq_getElem a);obtain ⟨u,p,e⟩:=g3.get (List.getElem?_eq_getElem b);obtain ⟨k,h,m⟩:=vi.get o;obtain ⟨l,q,g⟩:=vj.get p;have r:its.toArray[j]=k:=by
  have:=h;rw [List.getElem?_eq_getElem (by simpa using p1)] at this;simpa using this
 have i:jts.toArray[j]=l:=by
  have:=q;rw [List.getElem?_eq_getElem (by simpa using p2)] at this;simpa using this
 rw [r,i];have d:atB eqD ds es j=eqD ds[j] es[j]:=by
  unfold atB;rw [List.getElem?_eq_getElem a,List.getElem?_eq_getElem b]
 rw [d];exact ih _ _ _ _ _ _ _ (Nat.le_trans (JgR (List.getElem_mem a)) hds) t e m g hA
theorem JlR (I:Inv X pins σ H s) {n:Nat} (ih:EqP X H s n) {ds es:List D} {a b:Addr} {xs ys:List V} (h2:SqT X.K H a xs) (h3:RepL X.K H ds xs) (g2:SqT X.K H b ys) (g3:RepL X.K H es ys) (hds:depL ds<=n) {A:Around} (hA:A.units+(n+1)<cLine) :
  SeqAt.RcAt A s (.ref a) (.ref b) (eqD (.tup ds) (.tup es))/\SeqAt.RcNeAt A s (.ref a) (.ref b) (!eqD (.tup ds) (.tup es)):=by
 obtain ⟨d,e,g,_⟩:=I.tuple h2;obtain ⟨c,i,h,_⟩:=I.tuple g2;have l:d.length=ds.length:=by rw [h3.length,e.length]
 have j:c.length=es.length:=by rw [g3.length,i.length]
 have f:=JgY ih h3 g3 e i hds (A:=A.in1) (by rw [in1_units]; ac_nf);have k:eqD (.tup ds) (.tup es)=((List.range (min d.toArray.size c.toArray.size)).all (atB eqD ds es)&&d.toArray.size == c.toArray.size):=by
  simp only [eqD,Jgh];rw [<- JcL];simp only [size_toArray,l,j]
 rw [k];exact ⟨SeqAt.RcAt.tuples g h ∅ f,SeqAt.RcNeAt.tuples g h ∅ f⟩
theorem Jlo (I:Inv X pins σ H s) {n:Nat} (ih:EqP X H s n) {ds es:List D} {a b:Addr} {xs ys:List V} (h2:SqL X.K H a xs) (h3:RepL X.K H ds xs) (g2:SqL X.K H b ys) (g3:RepL X.K H es ys) (hds:depL ds<=n) {A:Around} (hA:A.units+(n+1)<cLine) :
  SeqAt.RcAt A s (.ref a) (.ref b) (eqD (.lst ds) (.lst es))/\SeqAt.RcNeAt A s (.ref a) (.ref b) (!eqD (.lst ds) (.lst es)):=by
 obtain ⟨e,k,g,_⟩:=I.list h2;obtain ⟨j,m,h,_⟩:=I.list g2;have d:e.length=ds.length:=by rw [h3.length,k.length]
 have f:j.length=es.length:=by rw [g3.length,m.length]
 have l:=JgY ih h3 g3 k m hds (A:=A.in1) (by rw [in1_units]; ac_nf);by_cases c:ds.length=es.length
 ·have i:eqD (.lst ds) (.lst es)=(List.range e.toArray.size).all (atB eqD ds es):=by
   simp only [eqD,Jgh];rw [<- JcL];simp [d,c]
  rw [i];exact ⟨SeqAt.RcAt.lists g.isList h.isList (by simp [d,f,c]) ∅ l,SeqAt.RcNeAt.lists g.isList h.isList (by simp [d,f,c]) ∅ l⟩
 ·have i:eqD (.lst ds) (.lst es)=false:=by
   cases q:eqD (.lst ds) (.lst es) with
   | false=>rfl
   | true=>simp only [eqD] at q; exact absurd (JeK q) c
  rw [i];exact ⟨SeqAt.RcAt.lists_lengths g.isList h.isList (by simp [d,f,c]) ∅,SeqAt.RcNeAt.lists_lengths g.isList h.isList (by simp [d,f,c]) ∅⟩
theorem JcY {K:W.Frag} {d:D} {x:V} (h:Rep K H d x):(flatD d=true/\x=valD d)\/(∃ ds a xs,d=.tup ds/\x=.ref a/\SqT K H a xs/\RepL K H ds xs)\/∃ ds a xs,d=.lst ds/\x=.ref a/\SqL K H a xs/\RepL K H ds xs:=by
 cases d with
 | tup ds=>simp only [Rep] at h; obtain ⟨a,xs,e,c,b⟩:=h; exact .inr (.inl ⟨ds,a,xs,rfl,e,c,b⟩)
 | lst ds=>simp only [Rep] at h; obtain ⟨a,xs,e,c,b⟩:=h; exact .inr (.inr ⟨ds,a,xs,rfl,e,c,b⟩)
 | _=>exact .inl ⟨rfl,Jfg rfl h⟩
theorem JcR (I:Inv X pins σ H s) {d e:D} {x y:V} {u v:Value} (hd:Rep X.K H d x) (he:Rep X.K H e y) (ru:RelV x u) (rv:RelV y v) (m:flatD d=!flatD e) {A:Around} (hA:A.units<cLine) :
  eqD d e=false/\SeqAt.EqAt A s u v false/\SeqAt.RcAt A s u v false/\SeqAt.RcNeAt A s u v true:=by
 rcases JcY hd with ⟨fd,rfl⟩ | ⟨ds,a,xs,rfl,rfl,h2,h3⟩ | ⟨ds,a,xs,rfl,rfl,h2,h3⟩
 ·rcases JcY he with ⟨fe,rfl⟩ | ⟨es,b,ys,rfl,rfl,g2,g3⟩ | ⟨es,b,ys,rfl,rfl,g2,g3⟩
  ·rw [fd,fe] at m; cases m
  ·obtain rfl:v=Value.ref b:=rv;obtain ⟨f,g,c,_⟩:=I.tuple g2;refine ⟨by cases d <;> simp [eqD,flatD] at fd ⊢,?_⟩;cases d <;> simp only [valD,RelV] at ru <;> first | (simp [flatD] at fd; done) | skip
   ·subst ru; exact ⟨SeqAt.EqAt.none_tuple c hA,SeqAt.RcAt.none_tuple c hA,SeqAt.RcNeAt.none_tuple c hA⟩
   ·subst ru; exact ⟨SeqAt.EqAt.bool_tuple _ c hA,SeqAt.RcAt.bool_tuple _ c hA,SeqAt.RcNeAt.bool_tuple _ c hA⟩
   ·obtain ⟨t,rfl⟩:=ru; exact ⟨SeqAt.EqAt.int_tuple _ _ c hA,SeqAt.RcAt.int_tuple _ _ c hA,SeqAt.RcNeAt.int_tuple _ _ c hA⟩
   ·obtain ⟨t,rfl⟩:=ru; exact ⟨SeqAt.EqAt.str_tuple _ _ c hA,SeqAt.RcAt.str_tuple _ _ c hA,SeqAt.RcNeAt.str_tuple _ _ c hA⟩
  ·obtain rfl:v=Value.ref b:=rv;obtain ⟨f,g,c,_⟩:=I.list g2;have c:=c.isList;refine ⟨by cases d <;> simp [eqD,flatD] at fd ⊢,?_⟩;cases d <;> simp only [valD,RelV] at ru <;> first | (simp [flatD] at fd; done) | skip
   ·subst ru; exact ⟨SeqAt.EqAt.none_list c hA,SeqAt.RcAt.none_list c hA,SeqAt.RcNeAt.none_list c hA⟩
   ·subst ru; exact ⟨SeqAt.EqAt.bool_list _ c hA,SeqAt.RcAt.bool_list _ c hA,SeqAt.RcNeAt.bool_list _ c hA⟩
   ·obtain ⟨t,rfl⟩:=ru; exact ⟨SeqAt.EqAt.int_list _ _ c hA,SeqAt.RcAt.int_list _ _ c hA,SeqAt.RcNeAt.int_list _ _ c hA⟩
   ·obtain ⟨t,rfl⟩:=ru; exact ⟨SeqAt.EqAt.str_list _ _ c hA,SeqAt.RcAt.str_list _ _ c hA,SeqAt.RcNeAt.str_list _ _ c hA⟩
 ·rcases JcY he with ⟨fe,rfl⟩ | ⟨es,b,ys,rfl,rfl,g2,g3⟩ | ⟨es,b,ys,rfl,rfl,g2,g3⟩
  ·obtain rfl:u=Value.ref a:=ru;obtain ⟨f,g,c,_⟩:=I.tuple h2;refine ⟨by cases e <;> simp [eqD,flatD] at fe ⊢,?_⟩;cases e <;> simp only [valD,RelV] at rv <;> first | (simp [flatD] at fe; done) | skip
   ·subst rv; exact ⟨SeqAt.EqAt.tuple_none c hA,SeqAt.RcAt.tuple_none c hA,SeqAt.RcNeAt.tuple_none c hA⟩
   ·subst rv; exact ⟨SeqAt.EqAt.tuple_bool _ c hA,SeqAt.RcAt.tuple_bool _ c hA,SeqAt.RcNeAt.tuple_bool _ c hA⟩
   ·obtain ⟨t,rfl⟩:=rv; exact ⟨SeqAt.EqAt.tuple_int _ _ c hA,SeqAt.RcAt.tuple_int _ _ c hA,SeqAt.RcNeAt.tuple_int _ _ c hA⟩
   ·obtain ⟨t,rfl⟩:=rv; exact ⟨SeqAt.EqAt.tuple_str _ _ c hA,SeqAt.RcAt.tuple_str _ _ c hA,SeqAt.RcNeAt.tuple_str _ _ c hA⟩
  ·simp [flatD] at m
  ·simp [flatD] at m
 ·rcases JcY he with ⟨fe,rfl⟩ | ⟨es,b,ys,rfl,rfl,g2,g3⟩ | ⟨es,b,ys,rfl,rfl,g2,g3⟩
  ·obtain rfl:u=Value.ref a:=ru;obtain ⟨f,g,c,_⟩:=I.list h2;have c:=c.isList;refine ⟨by cases e <;> simp [eqD,flatD] at fe ⊢,?_⟩;cases e <;> simp only [valD,RelV] at rv <;> first | (simp [flatD] at fe; done) | skip
   ·subst rv; exact ⟨SeqAt.EqAt.list_none c hA,SeqAt.RcAt.list_none c hA,SeqAt.RcNeAt.list_none c hA⟩
   ·subst rv; exact ⟨SeqAt.EqAt.list_bool _ c hA,SeqAt.RcAt.list_bool _ c hA,SeqAt.RcNeAt.list_bool _ c hA⟩
   ·obtain ⟨t,rfl⟩:=rv; exact ⟨SeqAt.EqAt.list_int _ _ c hA,SeqAt.RcAt.list_int _ _ c hA,SeqAt.RcNeAt.list_int _ _ c hA⟩
   ·obtain ⟨t,rfl⟩:=rv; exact ⟨SeqAt.EqAt.list_str _ _ c hA,SeqAt.RcAt.list_str _ _ c hA,SeqAt.RcNeAt.list_str _ _ c hA⟩
  ·simp [flatD] at m
  ·simp [flatD] at m
theorem seq_eq (I:Inv X pins σ H s) {n:Nat} (ih:EqP X H s n) {d e:D} {x y:V} {u v:Value} (hn:depD d<=n+1) (hd:Rep X.K H d x) (he:Rep X.K H e y) (ru:RelV x u) (rv:RelV y v) (fd:flatD d=false) (fe:flatD e=false) {A:Around} (hA:A.units+(n+1)<cLine) :
  SeqAt.EqAt A s u v (eqD d e)/\SeqAt.RcAt A s u v (eqD d e)/\SeqAt.RcNeAt A s u v (!eqD d e):=by
 have k:=hd;have j:=he;rcases JcY hd with ⟨f,_⟩ | ⟨ds,a,xs,rfl,rfl,h2,h3⟩ | ⟨ds,a,xs,rfl,rfl,h2,h3⟩
 ·rw [f] at fd; cases fd
 ·obtain rfl:u=Value.ref a:=ru;have g:depL ds<=n:=by simp only [depD] at hn; ac_nf
  rcases JcY he with ⟨f,_⟩ | ⟨es,b,ys,rfl,rfl,g2,g3⟩ | ⟨es,b,ys,rfl,rfl,g2,g3⟩
  ·rw [f] at fe; cases fe
  ·obtain rfl:v=Value.ref b:=rv;have R:=JlR I ih h2 h3 g2 g3 g hA;refine ⟨?_,R.1,R.2⟩;by_cases c:a=b
   ·subst c;rw [I.rep_inj k j,JcQ];exact SeqAt.EqAt.same _
   ·exact SeqAt.EqAt.of_refs c R.1
  ·obtain rfl:v=Value.ref b:=rv;obtain ⟨m,_,h,_⟩:=I.tuple h2;obtain ⟨l,_,i,_⟩:=I.list g2;exact ⟨SeqAt.EqAt.tuple_list h i.isList ∅,SeqAt.RcAt.tuple_list h i.isList ∅,SeqAt.RcNeAt.tuple_list h i.isList ∅⟩
 ·obtain rfl:u=Value.ref a:=ru;have g:depL ds<=n:=by simp only [depD] at hn; ac_nf
  rcases JcY he with ⟨f,_⟩ | ⟨es,b,ys,rfl,rfl,g2,g3⟩ | ⟨es,b,ys,rfl,rfl,g2,g3⟩
  ·rw [f] at fe; cases fe
  ·obtain rfl:v=Value.ref b:=rv;obtain ⟨m,_,h,_⟩:=I.list h2;obtain ⟨l,_,i,_⟩:=I.tuple g2;exact ⟨SeqAt.EqAt.list_tuple h.isList i ∅,SeqAt.RcAt.list_tuple h.isList i ∅,SeqAt.RcNeAt.list_tuple h.isList i ∅⟩
  ·obtain rfl:v=Value.ref b:=rv;have R:=Jlo I ih h2 h3 g2 g3 g hA;refine ⟨?_,R.1,R.2⟩;by_cases c:a=b
   ·subst c;rw [I.rep_inj k j,JcQ];exact SeqAt.EqAt.same _
   ·exact SeqAt.EqAt.of_refs c R.1
theorem Inv.eqP (I:Inv X pins σ H s):∀ n,EqP X H s n
 | 0=>fun d e A x y u v hn hd he ru rv hA=>by
  have fd:flatD d=true:=by
   cases d <;> simp [depD,flatD] at hn ⊢
  cases fe:flatD e with
  | true=>
   have ex:=Jfg fd hd;have ey:=Jfg fe he;subst ex ey;rw [<- Jkh fd fe];exact JjI ru rv (JgU fd) (JgU fe)
  | false=>
   obtain ⟨e1,e2,_⟩:=JcR I hd he ru rv (by rw [fd,fe]; rfl) (A:=A) ∅;rw [e1];exact e2
 | n+1=>fun d e A x y u v hn hd he ru rv hA=>by
  cases fd:flatD d with
  | true=>
   have h0:depD d<=n:=by cases d <;> simp [depD,flatD] at fd ⊢
   exact Inv.eqP I n d e A x y u v h0 hd he ru rv ∅
  | false=>
   cases fe:flatD e with
   | true=>
    obtain ⟨e1,e2,_⟩:=JcR I hd he ru rv (by rw [fd,fe]; rfl) (A:=A) ∅;rw [e1];exact e2
   | false=>exact (seq_eq I (Inv.eqP I n) hn hd he ru rv fd fe hA).1
def rEqU (K:W.Frag):R2:=fun x y H Q=>match x,y with
 | .int i, .int j=>Q (.bl (decide (i=j))) H
 | .str i, .str j=>Q (.bl (decide (i=j))) H
 | .bl i, .bl j=>Q (.bl (decide (i=j))) H
 | .non, .non=>Q (.bl true) H
 | x,y=>∃ d e,Rep K H d x/\Rep K H e y/\depD d<=50/\(flatD d&&flatD e)=false/\Q (.bl (eqD d e)) H
def rNeU (K:W.Frag):R2:=fun x y H Q=>match x,y with
 | .int i, .int j=>Q (.bl (!decide (i=j))) H
 | .str i, .str j=>Q (.bl (!decide (i=j))) H
 | .bl i, .bl j=>Q (.bl (!decide (i=j))) H
 | .non, .non=>Q (.bl false) H
 | x,y=>∃ d e,Rep K H d x/\Rep K H e y/\depD d<=50/\(flatD d&&flatD e)=false/\Q (.bl (!eqD d e)) H
theorem JbP (hu:X.A.units+64<cLine):OpR X (compareOp .Eq) (rEqU X.K):=fun a s σ H x y v u Q I c b q=>by
 unfold rEqU at q;split at q
 ·rename_i i j; exact op_eq a s σ H _ _ v u Q I c b ⟨rfl,by rw [show decide (V.int i=V.int j)=decide (i=j) from by simp]; exact q⟩
 ·rename_i i j; exact op_eq a s σ H _ _ v u Q I c b ⟨rfl,by rw [show decide (V.str i=V.str j)=decide (i=j) from by simp]; exact q⟩
 ·rename_i i j; exact op_eq a s σ H _ _ v u Q I c b ⟨rfl,by rw [show decide (V.bl i=V.bl j)=decide (i=j) from by simp]; exact q⟩
 ·exact op_eq a s σ H _ _ v u Q I c b ⟨rfl,by simpa using q⟩
 ·obtain ⟨d,e,g,h,m,l,q⟩:=q;show wpAny (model X.prog X.w) X.A (richCompare .Eq v u) (EP X a σ Q) X.xe s;cases fd:flatD d with
  | true=>
   cases fe:flatD e with
   | true=>rw [fd,fe] at l; cases l
   | false=>
    obtain ⟨k,_,f,_⟩:=JcR I g h c b (by rw [fd,fe]; rfl) (A:=X.A) ∅;rw [k] at q;exact f _ _ _ _ ⟨V.bl _,H,I,rfl,q⟩
  | false=>
   cases fe:flatD e with
   | true=>
    obtain ⟨k,_,f,_⟩:=JcR I g h c b (by rw [fd,fe]; rfl) (A:=X.A) ∅;rw [k] at q;exact f _ _ _ _ ⟨V.bl _,H,I,rfl,q⟩
   | false=>exact (seq_eq I (I.eqP 49) m g h c b fd fe ∅).2.1 _ _ _ _ ⟨V.bl _,H,I,rfl,q⟩
theorem Jce (hu:X.A.units+64<cLine):OpR X (compareOp .NotEq) (rNeU X.K):=fun a s σ H x y v u Q I c b q=>by
 unfold rNeU at q;split at q
 ·rename_i i j; exact op_ne a s σ H _ _ v u Q I c b ⟨rfl,by rw [show decide (V.int i=V.int j)=decide (i=j) from by simp]; exact q⟩
 ·rename_i i j; exact op_ne a s σ H _ _ v u Q I c b ⟨rfl,by rw [show decide (V.str i=V.str j)=decide (i=j) from by simp]; exact q⟩
 ·rename_i i j; exact op_ne a s σ H _ _ v u Q I c b ⟨rfl,by rw [show decide (V.bl i=V.bl j)=decide (i=j) from by simp]; exact q⟩
 ·exact op_ne a s σ H _ _ v u Q I c b ⟨rfl,by simpa using q⟩
 ·obtain ⟨d,e,g,h,m,l,q⟩:=q;show wpAny (model X.prog X.w) X.A (richCompare .NotEq v u) (EP X a σ Q) X.xe s;cases fd:flatD d with
  | true=>
   cases fe:flatD e with
   | true=>rw [fd,fe] at l; cases l
   | false=>
    obtain ⟨k,_,_,f⟩:=JcR I g h c b (by rw [fd,fe]; rfl) (A:=X.A) ∅;rw [k] at q;exact f _ _ _ _ ⟨V.bl _,H,I,rfl,q⟩
  | false=>
   cases fe:flatD e with
   | true=>
    obtain ⟨k,_,_,f⟩:=JcR I g h c b (by rw [fd,fe]; rfl) (A:=X.A) ∅;rw [k] at q;exact f _ _ _ _ ⟨V.bl _,H,I,rfl,q⟩
   | false=>exact (seq_eq I (I.eqP 49) m g h c b fd fe ∅).2.2 _ _ _ _ ⟨V.bl _,H,I,rfl,q⟩
end
def DivOk (j:Int):Prop:=j≠0/\j.natAbs.log2<9000
section
variable {X:Cx}
def rAddU (K:W.Frag):R2:=fun x y H Q=>match x,y with
 | .int i, .int j=>Q (.int (i+j)) H
 | .str i, .str j=>i.length+j.length<=sizeLine/\Q (.str (i++j)) H
 | .ref a, .ref b=>rCat (.ref a) (.ref b) H Q\/rCatT K (.ref a) (.ref b) H Q
 | _,_=>False
theorem JaY:OpR X (binaryOp .Add) (rAddU X.K):=fun a s σ H x y v u Q I b c q=>by
 unfold rAddU at q;split at q
 ·exact Jls a s σ H _ _ v u Q I b c ⟨_,_,rfl,rfl,q⟩
 ·exact Jhx a s σ H _ _ v u Q I b c ⟨_,_,rfl,rfl,q.1,q.2⟩
 ·rcases q with q | q
  ·exact Jlt a s σ H _ _ v u Q I b c q
  ·exact JkD a s σ H _ _ v u Q I b c q
 ·exact q.elim
def rMulU:R2:=fun x y H Q=>match x,y with
 | .int i, .int j=>IntMulOk i j/\Q (.int (i*j)) H
 | _,_=>False
theorem JkF:OpR X (binaryOp .Mult) (rI IntMulOk fun i j=>.int (i*j)):=opI fun _ _ _ _ _ _ _ a q=>mul_int q a
theorem JkG:OpR X (binaryOp .Mult) rMulU:=fun a s σ H x y v u Q I b c q=>by
 unfold rMulU at q;split at q
 ·exact JkF a s σ H _ _ v u Q I b c ⟨_,_,rfl,rfl,q.1,q.2⟩
 ·exact q.elim
def JiB:R2:=fun x y H Q=>match x,y with
 | .int i, .int j=>DivOk j/\Q (.int (i.fdiv j)) H
 | _,_=>False
theorem Jjj:OpR X (binaryOp .FloorDiv) (rI (fun _ j=>DivOk j) fun i j=>.int (i.fdiv j)):=opI fun _ _ _ _ _ _ _ a q=>floordiv_int a.1 q (.inl (PyProof.noPylong_of_log2 a.2))
theorem Jat:OpR X (binaryOp .FloorDiv) JiB:=fun a s σ H x y v u Q I b c q=>by
 unfold JiB at q;split at q
 ·exact Jjj a s σ H _ _ v u Q I b c ⟨_,_,rfl,rfl,q.1,q.2⟩
 ·exact q.elim
def rModU:R2:=fun x y H Q=>match x,y with
 | .int i, .int j=>j≠0/\Q (.int (i.fmod j)) H
 | _,_=>False
theorem JaG:OpR X (binaryOp .Mod) rModU:=fun a s σ H x y v u Q I b c q=>by
 unfold rModU at q;split at q
 ·exact JkE a s σ H _ _ v u Q I b c ⟨_,_,rfl,rfl,q.1,q.2⟩
 ·exact q.elim
def rPowU:R2:=fun x y H Q=>match x,y with
 | .int i, .int j=>CPow i j/\Q (.int (i ^ j.toNat)) H
 | _,_=>False
theorem Jff:OpR X (binaryOp .Pow) rPowU:=fun a s σ H x y v u Q I b c q=>by
 unfold rPowU at q;split at q
 ·exact Jly a s σ H _ _ v u Q I b c ⟨_,_,rfl,rfl,q.1,q.2⟩
 ·exact q.elim
def rCmpU (p:Int->Int->Bool):R2:=fun x y H Q=>match x,y with
 | .int i, .int j=>Q (.bl (p i j)) H
 | _,_=>False
theorem Jgx {op:CmpOp} {p:Int->Int->Bool} (h:OpR X (compareOp op) (rI0 fun i j=>.bl (p i j))):OpR X (compareOp op) (rCmpU p):=fun a s σ H x y v u Q I b c q=>by
 unfold rCmpU at q;split at q
 ·exact h a s σ H _ _ v u Q I b c ⟨_,_,rfl,rfl,q⟩
 ·exact q.elim
theorem Jdf:OpR X (compareOp .Lt) (rCmpU fun i j=>decide (i<j)):=Jgx op_lt
theorem Jg2:OpR X (compareOp .Gt) (rCmpU fun i j=>decide (j<i)):=Jgx op_gt
theorem JjO:OpR X (compareOp .GtE) (rCmpU fun i j=>decide (j<=i)):=Jgx op_ge
def SqA (K:W.Frag) (H:Hp) (a:Addr) (xs:List V):Prop:=SqL K H a xs\/SqT K H a xs
def rIxU (K:W.Frag):R2:=fun x y H Q=>match x,y with
 | .ref p, .int i=>∃ xs v,SqA K H p xs/\atI xs i=some v/\Q v H
 | .str z, .int i=>∃ c,z.length<=sizeLine/\atI z.cps.toList i=some c/\Q (.str ⟨#[c]⟩) H
 | _,_=>False
theorem ix_U:IxR X (rIxU X.K):=fun a b d s σ H x y v u Q I g f q i=>by
 unfold rIxU at q;split at q
 ·obtain ⟨l,w,h | h,e,q⟩:=q
  ·exact Jkp a b d s σ H _ _ v u Q I g f ⟨_,_,_,_,rfl,rfl,h,e,q⟩ i
  ·exact Jli a b d s σ H _ _ v u Q I g f ⟨_,_,_,_,rfl,rfl,h,e,q⟩ i
 ·obtain ⟨c,k,j,q⟩:=q;exact Jlh a b d s σ H _ _ v u Q I g f ⟨_,_,_,rfl,rfl,k,j,q⟩ i
 ·exact q.elim
def rLen (K:W.Frag):List V->Hp->VK->Prop:=fun xs H Q=>match xs with
 | [.ref p]=>∃ ys,SqA K H p ys/\Q (.int ys.length) H
 | [.str z]=>z.length<=sizeLine/\Q (.int z.length) H
 | _=>False
theorem JaP:CallR X (.builtin "len") (rLen X.K):=fun a s σ H c b Q I r q=>by
 unfold rLen at q;split at q
 ·obtain ⟨d,h,q⟩:=q;exact JfC a s σ H _ b Q I r ⟨_,_,rfl,h,q⟩
 ·exact JfD a s σ H _ b Q I r ⟨_,rfl,q.1,q.2⟩
 ·exact q.elim
def rAbs:List V->Hp->VK->Prop:=fun xs H Q=>match xs with
 | [.int i]=>Q (.int (if i<0 then -i else i)) H
 | _=>False
theorem Jc8:CallR X (.builtin "abs") rAbs:=fun a s σ H c b Q I r q=>by
 unfold rAbs at q;split at q
 ·exact Ji3 a s σ H _ b Q I r ⟨_,rfl,q⟩
 ·exact q.elim
def rMin:List V->Hp->VK->Prop:=fun xs H Q=>match xs with
 | [.int i, .int j]=>Q (.int (if j<i then j else i)) H
 | _=>False
theorem JhN (hc:X.calm=true):CallR X (.builtin "min") rMin:=fun a s σ H c b Q I r q=>by
 unfold rMin at q;split at q
 ·exact JhM hc a s σ H _ b Q I r ⟨_,_,rfl,q⟩
 ·exact q.elim
def isiB (t T:String):Bool:=t == T||(t == "bool"&&T == "int")
def tyN (K:W.Frag) (H:Hp) (x:V) (t:String):Prop:=match x with
 | .int _=>t="int"
 | .str _=>t="str"
 | .bl _=>t="bool"
 | .non=>t="NoneType"
 | .ref a=>(t="list"/\∃ xs,SqL K H a xs)\/(t="tuple"/\∃ xs,SqT K H a xs)
 | _=>False
theorem kit_b (K:W.Frag) {t T:String} (ht:t∈["int","str","bool","NoneType","list","tuple"]) (hT:T∈["int","str","bool","list","tuple"]):W.kitOne K (.type t) (.type T)=some (isiB t T):=by
 simp only [mem_cons,not_mem_nil,or_false] at ht hT;rcases ht with rfl | rfl | rfl | rfl | rfl | rfl <;> rcases hT with rfl | rfl | rfl | rfl | rfl <;> with_unfolding_all rfl
def rIsi (K:W.Frag):List V->Hp->VK->Prop:=fun xs H Q=>match xs with
 | [x, .ty T]=>T∈["int","str","bool","list","tuple"]/\∃ t,tyN K H x t/\Q (.bl (isiB t T)) H
 | _=>False
theorem Jau:CallR X (.builtin "isinstance") (rIsi X.K):=fun g s σ H n v Q I r q=>by
 unfold rIsi at q;split at q
 ·rename_i x T;obtain ⟨e,t,d,q⟩:=q;obtain ⟨u,c,rfl,f,m⟩:=vals2 r;obtain rfl:c=Value.type T:=m;have b:∀ j,EP X g σ Q (.bool (isiB t T)) { s with toks:=j }:=fun j=>⟨V.bl _,H,I.tok j,rfl,q⟩;unfold tyN at d;split at d
  ·subst d; obtain ⟨_,rfl⟩:=f; exact W.kia_one W.kitx_int I.kIn True.intro (kit_b _ ⋯ e) (fun z=>nomatch z) b
  ·subst d; obtain ⟨_,rfl⟩:=f; exact W.kia_one W.kitx_str I.kIn True.intro (kit_b _ ⋯ e) (fun z=>nomatch z) b
  ·subst d; cases (show u=Value.bool _ from f); exact W.kia_one W.kitx_bool I.kIn True.intro (kit_b _ ⋯ e) (fun z=>nomatch z) b
  ·subst d; cases (show u=Value.none from f); exact W.kia_one W.kitx_none I.kIn True.intro (kit_b _ ⋯ e) (fun z=>nomatch z) b
  ·rename_i a;cases (show u=Value.ref a from f);rcases d with ⟨rfl,ys,h⟩ | ⟨rfl,ys,h⟩
   ·obtain ⟨l,_,p,_⟩:=I.list h;obtain ⟨o,_,k,i,_⟩:=p;exact W.kia_one W.kitx_list I.kIn ⟨o,k,i⟩ (kit_b _ ⋯ e) (fun z=>nomatch z) b
   ·obtain ⟨l,_,p,_⟩:=I.tuple h;obtain ⟨o,k,i,_⟩:=p;exact W.kia_one W.kitx_tuple I.kIn ⟨o,k,i⟩ (kit_b _ ⋯ e) (fun z=>nomatch z) b
  ·exact d.elim
 ·exact q.elim
end
section
variable {X:Cx} {tg:Expr}
def iAny (K:W.Frag) (tl:TE):TI:=fun σ H R=>tl σ H fun x H1=>∃ a,x=.ref a/\(((∃ xs,SqL K H1 a xs)/\R (Itl K a) H1)\/((∃ xs,SqT K H1 a xs)/\R (Itt K a) H1))
theorem pi_U {l:Expr} {tl:TE} (hl:PE X l tl):PI X tg l (iAny X.K tl):=fun d s σ H R I h=>by
 refine thn (hl d s σ H _ I h) fun v c ⟨x,i,I1,n,a,j,q⟩=>?_;subst j;cases n;rcases q with ⟨⟨xs,hq⟩,q⟩ | ⟨⟨xs,hq⟩,q⟩
 ·obtain ⟨f,k,p,m⟩:=I1.list hq;refine wpAny_pyIter_list p.isList ?_;refine ⟨c.heap.objs.size,[c.heap.objs.size],_,_,i,rfl,I1.kept (t':=c.toks) fun b o e=>Heap.get?_push_of_some _ e,JiV a _,⟨_,Heap.get?_push_size _ rfl,rfl,rfl⟩,fun b g=>?_,q⟩;have e:b=c.heap.objs.size:=by simpa using g
  subst e;exact I1.fpOk (Nat.le_refl _) (I1.hok.fresh (Nat.le_refl _))
 ·obtain ⟨f,k,p,m⟩:=I1.tuple hq;refine wpAny_pyIter_tuple (show c.heap.IsTuple a f.toArray from p) ?_;refine ⟨c.heap.objs.size,[c.heap.objs.size],_,_,i,rfl,I1.kept (t':=c.toks) fun b o e=>Heap.get?_push_of_some _ e,JhH a _,⟨_,Heap.get?_push_size _ rfl,rfl,rfl⟩,fun b g=>?_,q⟩;have e:b=c.heap.objs.size:=by simpa using g
  subst e;exact I1.fpOk (Nat.le_refl _) (I1.hok.fresh (Nat.le_refl _))
theorem Jkk {K:W.Frag} {a:Addr} {xs:List V} {g:TG} {tb:TS} {D:Ends} {σ : St} {H:Hp} (hA:SqA K H a xs) (Pv:Nat->St->Hp->Prop) (h0:Pv 0 σ H) (hl:∀ i σ H',i<=xs.length->Pv i σ H'->Same H H')
  (hs:∀ i x σ H,xs[i]?=some x->Pv i σ H->g x σ H fun σ2 H2=>tb { D with nx:=Pv (i+1),ct:=Pv (i+1),bk:=D.nx } σ2 H2) (hd:∀ σ H,Pv xs.length σ H->D.nx σ H) :
  ((∃ xs,SqL K H a xs)/\∃ W:Nat->Nat->St->Hp->Prop,(∃ m,W 0 m σ H)/\∀ i m σ H,W i m σ H ->
   ((Itl K a).stop i H/\D.nx σ H)\/((Itl K a).go i H/\∃ N:St->Hp->Prop,(∀ σ' H',N σ' H'->∃ m',m'<m/\W (i+1) m' σ' H')/\∀ x H',(Itl K a).yld i H x H'->g x σ H' fun σ2 H2=>tb { D with nx:=N,ct:=N,bk:=D.nx } σ2 H2)) \/
  ((∃ xs,SqT K H a xs)/\∃ W:Nat->Nat->St->Hp->Prop,(∃ m,W 0 m σ H)/\∀ i m σ H,W i m σ H ->
   ((Itt K a).stop i H/\D.nx σ H)\/((Itt K a).go i H/\∃ N:St->Hp->Prop,(∀ σ' H',N σ' H'->∃ m',m'<m/\W (i+1) m' σ' H')/\∀ x H',(Itt K a).yld i H x H'->g x σ H' fun σ2 H2=>tb { D with nx:=N,ct:=N,bk:=D.nx } σ2 H2)):=by
 rcases hA with hA | hA
 ·exact .inl ⟨⟨xs,hA⟩,Ji6 (xs:=xs) Pv h0 (fun i σ H' b c=>hA.same (hl i σ H' b c)) hs hd⟩
 ·exact .inr ⟨⟨xs,hA⟩,Jkl (xs:=xs) Pv h0 (fun i σ H' b c=>hA.same (hl i σ H' b c)) hs hd⟩
end
structure FunD (K:W.Frag) (x qual:Str) (st:Stmt) (dV:Value) (f:Addr) (fd:FuncData):Prop where
 ex:∃ (oc:Value) (od:Option Addr) (kV doc pm:Value) (an:Option Addr) (cdv ct:Value) (osl:Array (Option Value)),
  fd=W.fnOf x qual (Jam st) (Jal st) (Jae st) dV kV doc pm an cdv ct/\K.lookup f=some ⟨oc,od, .func fd,osl⟩/\W.codeIn K cdv qual=true
 kp:W.keepIn K (.ref f)=true
section
variable {P:Program} {w:World} {K:W.Frag} {mg:Str->Option Value} {base:Heap}
theorem FunD.okn {x qual:Str} {st:Stmt} {dV:Value} {f:Addr} {fd:FuncData} {N ps:List Str} {k:Nat} {sp:Sp} (F:FunD K x qual st dV f fd) (S:Jan N ps (Jae st)) (len:∀ vs H Q E,sp vs H Q E->vs.length=ps.length)
  (hbody:∀ (cdv:Value) (A:Around) (outer:List Env) (s:Shared) (H:Hp) (vs:List V) (Q:VK) (E:XK),Room k (A.deeper (envOfC qual (Jae st) s.heap.objs.size f cdv))->sp vs H Q E ->
   ∃ t,PSs (cxOf (CX1 P w) P w K mg base N qual (Jae st) f cdv A outer s H E).nox (Jal st) t/\t { nx:=fun _ H'=>Q .non H',rt:=Q } (start N vs) H):FnOk P w K mg base (CX1 P w) (k+1) f fd ps sp:=by
 obtain ⟨m,n,kV,e,l,j,cdv,i,g,rfl,c,a⟩:=F.ex;refine fn_of c a S len fun A outer s H vs Q E d b=>?_;obtain ⟨t,h,q⟩:=hbody cdv A outer s H vs Q E d b;exact ⟨t,h.nox,q⟩
theorem FunD.okx {x qual:Str} {st:Stmt} {dV:Value} {f:Addr} {fd:FuncData} {N ps:List Str} {k:Nat} {sp:Sp} (F:FunD K x qual st dV f fd) (S:Jan N ps (Jae st)) (len:∀ vs H Q E,sp vs H Q E->vs.length=ps.length)
  (hbody:∀ (cdv:Value) (A:Around) (outer:List Env) (s:Shared) (H:Hp) (vs:List V) (Q:VK) (E:XK),Room k (A.deeper (envOfC qual (Jae st) s.heap.objs.size f cdv))->sp vs H Q E ->
   ∃ t,PSs (cxOf (CX1 P w) P w K mg base N qual (Jae st) f cdv A outer s H E) (Jal st) t/\t { nx:=fun _ H'=>Q .non H',rt:=Q } (start N vs) H):FnOk P w K mg base (CX1 P w) (k+1) f fd ps sp:=by
 obtain ⟨l,m,kV,e,j,i,cdv,h,g,rfl,c,a⟩:=F.ex;exact fn_of c a S len fun A outer s H vs Q E d b=>hbody cdv A outer s H vs Q E d b
theorem FunD.binds {x qual:Str} {st:Stmt} {dV:Value} {f:Addr} {fd:FuncData} {ps:List Str} (F:FunD K x qual st dV f fd)
  (h:∀ (kV doc pm:Value) (an:Option Addr) (cdv ct:Value) (us:List Value),us.length=ps.length->bindArgs (W.fnOf x qual (Jam st) (Jal st) (Jae st) dV kV doc pm an cdv ct) ⟨us,[]⟩=pure (ps.zip us)):Binds K fd ps []:=by
 obtain ⟨c,e,kV,doc,pm,an,cdv,ct,a,rfl,d,b⟩:=F.ex;exact .all (h kV doc pm an cdv ct)
theorem Jao {x qual:Str} {st:Stmt} {dV:Value} {f:Addr} {oc:Value} {od an:Option Addr} {osl:Array (Option Value)} {kV doc pm cdv ct:Value} (l:K.lookup f=some ⟨oc,od, .func (W.fnOf x qual (Jam st) (Jal st) (Jae st) dV kV doc pm an cdv ct),osl⟩)
  (c:W.codeIn K cdv qual=true) (k:W.keepIn K (.ref f)=true):FunD K x qual st dV f (W.fnOf x qual (Jam st) (Jal st) (Jae st) dV kV doc pm an cdv ct):=⟨⟨oc,od,kV,doc,pm,an,cdv,ct,osl,rfl,l,c⟩,k⟩
end
structure Cal (P:Program) (w:World) (K:W.Frag) (mg:Str->Option Value) (base:Heap) (k:Nat) (x:Str) (ps:List Str) (dvs:List V) (sp:Sp):Prop where
 ex:∃ (f:Addr) (fd:FuncData) (ds:List Value),FnOk P w K mg base (CX1 P w) k f fd ps sp/\mg x=some (.ref f)/\W.keepIn K (.ref f)=true/\Binds K fd ps ds/\Vals dvs ds
section
variable {X:Cx} {k k':Nat} {x:Str} {ps:List Str} {dvs:List V} {sp:Sp} {E:XK} {p pos:Pos} {e:Expr} {es:List Expr} {t:TA}
theorem Cal.ev (G:Cal X.prog X.w X.K X.mg X.base k x ps dvs sp) (hr:Room k' X.A) (hk:k<=k') (hg:Gl X x) (hx:JbZ (CX1 X.prog X.w) X E) (ha:PA X (e::es) t)
  (hdb:(x == ("__debug__" : Str))=false:=by decide) (he:starEach (e::es) X.env=(false,eval e X.env)::starEach es X.env:=by rfl) (hpl:(backTo pos (starEach es X.env)).any (·.1)=false:=by rfl) :
  PE X (.Call (.Name x p) (e::es) [] pos) (tCall sp dvs E t):=by
 obtain ⟨f,g,h,F,a,c,b,d⟩:=G.ex;exact JkI F (hr.mono hk) hg a c b d hx ha hdb he hpl
theorem Cal.ev0 (G:Cal X.prog X.w X.K X.mg X.base k x ps dvs sp) (hr:Room k' X.A) (hk:k<=k') (hg:Gl X x) (hx:JbZ (CX1 X.prog X.w) X E) (hdb:(x == ("__debug__" : Str))=false:=by decide) :
  PE X (.Call (.Name x p) [] [] pos) (tCall sp dvs E tNil):=by
 obtain ⟨f,e,g,F,a,c,b,d⟩:=G.ex;exact Jjl F (hr.mono hk) hg a c b d hx hdb
end
end L2
namespace Mth
def g (a b:Int):Int:=(Int.gcd a b:Nat)
theorem JjL (a:Int):g a 0=(a.natAbs:Int):=by unfold g; rw [Int.gcd_zero_right]
theorem g_pos {a b:Int} (h:b≠0):0<g a b:=by
 unfold g;exact Int.natCast_pos.mpr (Int.gcd_pos_of_ne_zero_right a h)
theorem JcA (a b:Int):g a b∣a:=Int.gcd_dvd_left ..
theorem JbI (a b:Int):g a b∣b:=Int.gcd_dvd_right ..
theorem Jle (a b:Int):g b (a % b)=g a b:=by
 unfold g;rw [Int.gcd_comm b (a % b)];first
  | rw [Int.gcd_emod_left]
  | (rw [Int.emod_def]; simp [Int.gcd_comm])
theorem Bd5 (a b:Int):g (if a<0 then -a else a) (if b<0 then -b else b)=g a b:=by
 unfold g;split <;> split <;> simp [Int.neg_gcd,Int.gcd_neg]
theorem JjF (a:Int):0<=(if a<0 then -a else a):=by split <;> ac_nf
theorem g_le {a b:Int} (h:b≠0):g a b<=(b.natAbs:Int):=by
 unfold g;exact Int.ofNat_le.mpr (Nat.le_of_dvd ∅ (Int.natAbs_dvd_natAbs.mpr (by simpa using Int.gcd_dvd_right (a:=a) (b:=b)) |> fun z=>by simpa using z))
theorem fm {x y:Int} (h:0<y):0<=x.fmod y/\x.fmod y<y:=by
 rw [Int.fmod_eq_emod_of_nonneg _ ∅];exact ⟨Int.emod_nonneg _ ∅,Int.emod_lt_of_pos _ h⟩
theorem JhZ {x y:Int} (h:0<y):g y (x.fmod y)=g x y:=by
 rw [Int.fmod_eq_emod_of_nonneg _ ∅];exact Jle x y
def by_ (t b:Int):Int:=if b<0 then -(g t b) else g t b
def top (t b:Int):Int:=t.fdiv (by_ t b)
def bot (t b:Int):Int:=b.fdiv (by_ t b)
theorem by_ne {t b:Int} (h:b≠0):by_ t b≠0:=by
 have:=g_pos (a:=t) h;unfold by_; split <;> ac_nf
theorem Jkc (t b:Int):by_ t b∣t:=by
 unfold by_; split
 ·exact Int.neg_dvd.mpr (JcA t b)
 ·exact JcA t b
theorem Jkd (t b:Int):by_ t b∣b:=by
 unfold by_; split
 ·exact Int.neg_dvd.mpr (JbI t b)
 ·exact JbI t b
theorem JaM {a d:Int} (h:d∣a) (hd:d≠0):a.fdiv d*d=a:=by
 obtain ⟨k,rfl⟩:=h;rw [Int.mul_comm d k,Int.mul_fdiv_cancel _ hd]
theorem Jet {t b:Int} (h:b≠0):top t b*by_ t b=t:=JaM (Jkc t b) (by_ne h)
theorem JdV {t b:Int} (h:b≠0):bot t b*by_ t b=b:=JaM (Jkd t b) (by_ne h)
theorem JcV {t b:Int} (h:b≠0):1<=bot t b:=by
 have c:=JdV (t:=t) h;have d:=g_pos (a:=t) h;by_cases f:b<0
 ·have e:by_ t b = -(g t b):=by unfold by_; rw [if_pos f]
  rw [e] at c;have i:bot t b*g t b = -b:=by rw [Int.mul_neg] at c; ac_nf
  rcases Int.lt_trichotomy (bot t b) 0 with z | z | z
  ·have:=Int.mul_neg_of_neg_of_pos z d; ac_nf
  ·rw [z] at i; ac_nf
  ·ac_nf
 ·have e:by_ t b=g t b:=by unfold by_; rw [if_neg f]
  rw [e] at c;rcases Int.lt_trichotomy (bot t b) 0 with z | z | z
  ·have:=Int.mul_neg_of_neg_of_pos z d; ac_nf
  ·rw [z] at c; ac_nf
  ·ac_nf
theorem cross {t b:Int} (h:b≠0):top t b*b=t*bot t b:=by
 have a:=Jet (t:=t) h;have c:=JdV (t:=t) h
 calc top t b*b=top t b*(bot t b*by_ t b):=by rw [c]
  _=(top t b*by_ t b)*bot t b:=by rw [Int.mul_comm (bot t b),Int.mul_assoc]
  _=t*bot t b:=by rw [a]
theorem Jic (t b:Int):(by_ t b).natAbs=Int.gcd t b:=by
 unfold by_ g; split <;> simp
theorem g_low {t b:Int} (h:b≠0):g (top t b) (bot t b)=1:=by
 have a:0<Int.gcd t b:=Int.gcd_pos_of_ne_zero_right t h;have e:Int.gcd (top t b*by_ t b) (bot t b*by_ t b)=Int.gcd (top t b) (bot t b)*(by_ t b).natAbs:=Int.gcd_mul_right ..;rw [Jet h,JdV h,Jic] at e;have : Int.gcd (top t b) (bot t b)=1:=by
  rcases Nat.lt_trichotomy (Int.gcd (top t b) (bot t b)) 1 with z | z | z
  ·have : Int.gcd (top t b) (bot t b)=0:=by ac_nf
   rw [this] at e; ac_nf
  ·exact z
  ·have:=Nat.mul_le_mul_right (Int.gcd t b) z;ac_nf
 unfold g; rw [this]; rfl
theorem Jdr {a b d:Int} (g1:Int.gcd a b=1) (h:b∣a*d):b∣d:=by
 have e:b.natAbs∣a.natAbs*d.natAbs:=by rw [<- Int.natAbs_mul]; exact Int.natAbs_dvd_natAbs.mpr h
 have c:Nat.Coprime b.natAbs a.natAbs:=by
  unfold Nat.Coprime;rw [Nat.gcd_comm];exact g1
 exact Int.natAbs_dvd_natAbs.mp (c.dvd_of_dvd_mul_left e)
theorem Jdu {a b c d:Int} (hb:1<=b) (hd:1<=d) (h1:g a b=1) (h2:g c d=1) (e:a*d=c*b):a=c/\b=d:=by
 have k:Int.gcd a b=1:=by unfold g at h1; ac_nf
 have h:Int.gcd c d=1:=by unfold g at h2; ac_nf
 have i:b∣d:=by
  have : b∣a*d:=⟨c,by rw [e,Int.mul_comm]⟩;exact Jdr k this
 have j:d∣b:=by
  have : d∣c*b:=⟨a,by rw [<- e,Int.mul_comm]⟩;exact Jdr h this
 have f:b=d:=Int.dvd_antisymm ∅ ∅ i j;subst f;refine ⟨?_,rfl⟩;exact Int.eq_of_mul_eq_mul_right ∅ e
theorem JlQ {t b:Int} (h:b≠0):(top t b).natAbs<=t.natAbs:=by
 have c:=Jet (t:=t) h;have d:(by_ t b).natAbs≠0:=by have:=by_ne (t:=t) h; ac_nf
 have a:=congrArg Int.natAbs c;rw [Int.natAbs_mul] at a;rw [<- a];exact Nat.le_mul_of_pos_right _ ∅
theorem bot_le {t b:Int} (h:b≠0):(bot t b).natAbs<=b.natAbs:=by
 have c:=JdV (t:=t) h;have d:(by_ t b).natAbs≠0:=by have:=by_ne (t:=t) h; ac_nf
 have a:=congrArg Int.natAbs c;rw [Int.natAbs_mul] at a
 calc (bot t b).natAbs<=(bot t b).natAbs*(by_ t b).natAbs:=Nat.le_mul_of_pos_right _ ∅
  _=b.natAbs:=a
theorem JjM {t b:Int} (h:b≠0):(if b<0 then -t else t).fdiv (g (if b<0 then -t else t) (if b<0 then -b else b))=top t b/\(if b<0 then -b else b).fdiv (g (if b<0 then -t else t) (if b<0 then -b else b))=bot t b:=by
 have i:=Jet (t:=t) h;have d:=JdV (t:=t) h;have j:=g_pos (a:=t) h;by_cases c:b<0
 ·have e:by_ t b = -(g t b):=by unfold by_; rw [if_pos c]
  simp only [if_pos c];have f:g (-t) (-b)=g t b:=by unfold g; simp [Int.neg_gcd,Int.gcd_neg]
  rw [f];rw [e,Int.mul_neg] at i d;constructor
  ·have : -t=top t b*g t b:=by ac_nf
   rw [this,Int.mul_fdiv_cancel _ ∅]
  ·have : -b=bot t b*g t b:=by ac_nf
   rw [this,Int.mul_fdiv_cancel _ ∅]
 ·have e:by_ t b=g t b:=by unfold by_; rw [if_neg c]
  simp only [if_neg c];unfold top bot;rw [e];exact ⟨rfl,rfl⟩
theorem Jkx {n k:Nat} (h:n<2 ^ k) (hk:k<9000):n.log2<9000:=by
 by_cases z:n=0
 ·rw [z]; decide
 ·exact Nat.lt_trans ((Nat.log2_lt z).mpr h) hk
def Sz (n:Nat) (i:Int):Prop:=i.natAbs<2 ^ n
theorem Sz.mono {m n:Nat} {i:Int} (h:Sz m i) (k:m<=n):Sz n i:=Nat.lt_of_lt_of_le h (Nat.pow_le_pow_right ⋯ k)
theorem Sz.mul {m n:Nat} {i j:Int} (h:Sz m i) (k:Sz n j):Sz (m+n) (i*j):=by
 unfold Sz at *;rw [Int.natAbs_mul,Nat.pow_add];exact Nat.mul_lt_mul'' h k
theorem Sz.add {n:Nat} {i j:Int} (h:Sz n i) (k:Sz n j):Sz (n+1) (i+j):=by
 unfold Sz at *;have:=Int.natAbs_add_le i j;rw [Nat.pow_succ];ac_nf
theorem Sz.neg {n:Nat} {i:Int} (h:Sz n i):Sz n (-i):=by
 unfold Sz at *;rw [Int.natAbs_neg];exact h
theorem Sz.top {n:Nat} {t b:Int} (hb:b≠0) (h:Sz n t):Sz n (Mth.top t b):=Nat.lt_of_le_of_lt (JlQ hb) h
theorem Sz.bot {n:Nat} {t b:Int} (hb:b≠0) (h:Sz n b):Sz n (Mth.bot t b):=Nat.lt_of_le_of_lt (bot_le hb) h
theorem Sz.lit {n:Nat} {i:Int} (h1 : -(2 ^ n)<i) (h2:i<2 ^ n):Sz n i:=by
 unfold Sz;have e:((2 ^ n:Nat):Int)=2 ^ n:=by simp
 ac_nf
end Mth
namespace Mth
theorem Jcj {a b:Int} (h:g a b=1):Int.gcd a b=1:=by unfold g at h; ac_nf
theorem JdO {a b:Int} (h:Int.gcd a b=1):g a b=1:=by unfold g; rw [h]; rfl
theorem Jb0 {t x y:Int} (h1:Int.gcd t x=1) (h2:Int.gcd t y=1):Int.gcd t (x*y)=1:=by
 unfold Int.gcd at *;rw [Int.natAbs_mul];exact Nat.Coprime.mul_right h1 h2
theorem JeI {x y:Int} (h:∀ k:Int,k∣x->k∣y->k∣1):Int.gcd x y=1:=by
 have:=h (Int.gcd x y:Nat) (Int.gcd_dvd_left ..) (Int.gcd_dvd_right ..);have z:=Int.natAbs_dvd_natAbs.mpr this;simp at z;exact z
theorem JeJ {k x y:Int} (h:Int.gcd x y=1) (h1:k∣x) (h2:k∣y):k∣1:=by
 have z:=Int.dvd_coe_gcd h1 h2;rw [h] at z;exact z
theorem Jb7 {t u x:Int} (h:Int.gcd t x=1) (d:u∣t):Int.gcd u x=1:=JeI fun k a b=>JeJ h (Int.dvd_trans a d) b
theorem JaT {x y:Int} (h:Int.gcd x y=1):Int.gcd y x=1:=by rw [Int.gcd_comm]; exact h
theorem JhP {a b c d:Int} (h1:Int.gcd a b=1) (h2:Int.gcd d b=1):Int.gcd (a*d+c*b) b=1:=by
 have : Int.gcd b (a*d)=1:=Jb0 (JaT h1) (JaT h2);refine JeI fun k g f=>JeJ this f ?_;have : k∣(a*d+c*b)-c*b:=Int.dvd_sub g (Int.dvd_mul_of_dvd_right f);have e:(a*d+c*b)-c*b=a*d:=by ac_nf
 rwa [e] at this
theorem Jb1 {a d:Int} (h:d∣a) (hd:1<=d) (ha:1<=a):1<=a.fdiv d:=by
 have e:=JaM h ∅;rcases Int.lt_trichotomy (a.fdiv d) 0 with z | z | z
 ·have:=Int.mul_neg_of_neg_of_pos z (show 0<d by ac_nf); ac_nf
 ·rw [z] at e; ac_nf
 ·ac_nf
theorem JcP {b d s:Int} (hs:s=g b d) (p:1<=s):Int.gcd (b.fdiv s) (d.fdiv s)=1:=by
 have a:b.fdiv s*s=b:=JaM (by rw [hs]; exact JcA ..) ∅;have c:d.fdiv s*s=d:=JaM (by rw [hs]; exact JbI ..) ∅;have e:Int.gcd (b.fdiv s*s) (d.fdiv s*s)=Int.gcd (b.fdiv s) (d.fdiv s)*s.natAbs:=Int.gcd_mul_right ..;rw [a,c] at e;have f:Int.gcd b d=s.natAbs:=by rw [hs]; unfold g; simp
 rw [f] at e;rcases Nat.lt_trichotomy (Int.gcd (b.fdiv s) (d.fdiv s)) 1 with z | z | z
 ·have : Int.gcd (b.fdiv s) (d.fdiv s)=0:=by ac_nf
  rw [this] at e; ac_nf
 ·exact z
 ·have:=Nat.mul_le_mul_right s.natAbs z;ac_nf
theorem JkN {a b c d:Int} (hb:1<=b) (hd:1<=d) (h1:g a b=1) (h2:g c d=1) {s t r:Int} (hs:s=g b d) (ht:t=a*d.fdiv s+c*b.fdiv s) (hr:r=g t s) :
  t.fdiv r=top (a*d+c*b) (b*d)/\b.fdiv s*d.fdiv r=bot (a*d+c*b) (b*d):=by
 have n:1<=s:=by rw [hs]; have:=g_pos (a:=b) (b:=d) ∅; ac_nf
 have y:1<=r:=by rw [hr]; have:=g_pos (a:=t) (b:=s) ∅; ac_nf
 have w:s∣b:=by rw [hs]; exact JcA ..
 have l:s∣d:=by rw [hs]; exact JbI ..
 have C:r∣t:=by rw [hr]; exact JcA ..
 have B:r∣s:=by rw [hr]; exact JbI ..
 have A:r∣d:=Int.dvd_trans B l;have j:=JaM w ∅;have m:=JaM l ∅;have z:=JaM C ∅;have x:=JaM A ∅;have G:=JaM B ∅;have M:=Jb1 w n hb;have N:=Jb1 l n hd;have F:=Jb1 A y hd;have h:=JcP hs n;have q:Int.gcd (t.fdiv r) (s.fdiv r)=1:=JcP hr y;have p:d.fdiv r=d.fdiv s*s.fdiv r:=by
  refine Int.eq_of_mul_eq_mul_right (a:=r) ∅ ?_;rw [x,Int.mul_assoc,G,m]
 have L:Int.gcd a (b.fdiv s)=1:=JaT (Jb7 (JaT (Jcj h1)) ⟨s,j.symm⟩);have E:Int.gcd c (d.fdiv s)=1:=JaT (Jb7 (JaT (Jcj h2)) ⟨s,m.symm⟩);have J:Int.gcd t (b.fdiv s)=1:=by rw [ht]; exact JhP L (JaT h)
 have I:Int.gcd t (d.fdiv s)=1:=by rw [ht,Int.add_comm]; exact JhP E h
 have v:g (t.fdiv r) (b.fdiv s*d.fdiv r)=1:=JdO (by
  rw [p];have k:t.fdiv r∣t:=⟨r,z.symm⟩;exact Jb0 (Jb7 J k) (Jb0 (Jb7 I k) q))
 have e:b*d≠0:=Int.mul_ne_zero ∅ ∅;have i:=g_low (t:=a*d+c*b) e;have f:=JcV (t:=a*d+c*b) e;have u:=cross (t:=a*d+c*b) e;have o:1<=b.fdiv s*d.fdiv r:=by
  have:=Int.mul_pos (show 0<b.fdiv s by ac_nf) (show 0<d.fdiv r by ac_nf);ac_nf
 have D:t*s=a*d+c*b:=by
  rw [ht,Int.add_mul,Int.mul_assoc,Int.mul_assoc,m,j]
 have H:t.fdiv r*(b*d)=(a*d+c*b)*(b.fdiv s*d.fdiv r):=by
  have K:(t.fdiv r*(b*d))*r=((a*d+c*b)*(b.fdiv s*d.fdiv r))*r:=by
   calc (t.fdiv r*(b*d))*r=(t.fdiv r*r)*(b*d):=by ac_rfl
    _=t*((b.fdiv s*s)*d):=by rw [z,j]
    _=(t*s)*(b.fdiv s*d):=by ac_rfl
    _=(a*d+c*b)*(b.fdiv s*(d.fdiv r*r)):=by rw [D,x]
    _=((a*d+c*b)*(b.fdiv s*d.fdiv r))*r:=by ac_rfl
  exact Int.eq_of_mul_eq_mul_right ∅ K
 refine Jdu o f v i ?_;refine Int.eq_of_mul_eq_mul_right (a:=b*d) e ?_
 calc (t.fdiv r*bot (a*d+c*b) (b*d))*(b*d)=(t.fdiv r*(b*d))*bot (a*d+c*b) (b*d):=by ac_rfl
  _=((a*d+c*b)*bot (a*d+c*b) (b*d))*(b.fdiv s*d.fdiv r):=by rw [H]; ac_rfl
  _=(top (a*d+c*b) (b*d)*(b*d))*(b.fdiv s*d.fdiv r):=by rw [u]
  _=(top (a*d+c*b) (b*d)*(b.fdiv s*d.fdiv r))*(b*d):=by ac_rfl
theorem JdY {a d:Int} (h:d∣a) (hd:1<=d):(a.fdiv d).natAbs<=a.natAbs:=by
 have e:=congrArg Int.natAbs (JaM h (show d≠0 by ac_nf));rw [Int.natAbs_mul] at e
 calc (a.fdiv d).natAbs<=(a.fdiv d).natAbs*d.natAbs:=Nat.le_mul_of_pos_right _ ∅
  _=a.natAbs:=e
theorem Sz.fdiv {n:Nat} {a d:Int} (h:Sz n a) (k:d∣a) (hd:1<=d):Sz n (a.fdiv d):=Nat.lt_of_le_of_lt (JdY k hd) h
theorem g_neg {a b:Int}:g (-a) b=g a b:=by unfold g; simp [Int.neg_gcd]
end Mth
namespace Mth
theorem JjA {a b c d:Int} (hb:1<=b) (hd:1<=d) (h1:g a b=1) (h2:g c d=1) {u v:Int} (hu:u=g a d) (hv:v=g c b) :
  a.fdiv u*c.fdiv v=top (a*c) (b*d)/\b.fdiv v*d.fdiv u=bot (a*c) (b*d):=by
 have q:1<=u:=by rw [hu]; have:=g_pos (a:=a) (b:=d) ∅; ac_nf
 have s:1<=v:=by rw [hv]; have:=g_pos (a:=c) (b:=b) ∅; ac_nf
 have x:u∣a:=by rw [hu]; exact JcA ..
 have m:u∣d:=by rw [hu]; exact JbI ..
 have B:v∣c:=by rw [hv]; exact JcA ..
 have o:v∣b:=by rw [hv]; exact JbI ..
 have r:=JaM x ∅;have n:=JaM m ∅;have p:=JaM B ∅;have l:=JaM o ∅;have D:=Jb1 o s hb;have E:=Jb1 m q hd;have C:=JcP hu q;have w:=JcP hv s;have y:Int.gcd (a.fdiv u) (b.fdiv v)=1:=JaT (Jb7 (JaT (Jb7 (Jcj h1) ⟨u,r.symm⟩)) ⟨v,l.symm⟩);have z:Int.gcd (c.fdiv v) (d.fdiv u)=1:=JaT (Jb7 (JaT (Jb7 (Jcj h2) ⟨v,p.symm⟩)) ⟨u,n.symm⟩);have k:g (a.fdiv u*c.fdiv v) (b.fdiv v*d.fdiv u)=1:=JdO (JaT (Jb0 (JaT (Jb0 y C)) (JaT (Jb0 w z))));have e:b*d≠0:=Int.mul_ne_zero ∅ ∅;have h:=g_low (t:=a*c) e;have f:=JcV (t:=a*c) e;have j:=cross (t:=a*c) e;have i:1<=b.fdiv v*d.fdiv u:=by
  have:=Int.mul_pos (show 0<b.fdiv v by ac_nf) (show 0<d.fdiv u by ac_nf);ac_nf
 have A:(a.fdiv u*c.fdiv v)*(b*d)=(a*c)*(b.fdiv v*d.fdiv u):=by
  calc (a.fdiv u*c.fdiv v)*(b*d)=(a.fdiv u*c.fdiv v)*((b.fdiv v*v)*(d.fdiv u*u)):=by rw [l,n]
   _=((a.fdiv u*u)*(c.fdiv v*v))*(b.fdiv v*d.fdiv u):=by ac_rfl
   _=(a*c)*(b.fdiv v*d.fdiv u):=by rw [r,p]
 refine Jdu i f k h ?_;refine Int.eq_of_mul_eq_mul_right (a:=b*d) e ?_
 calc ((a.fdiv u*c.fdiv v)*bot (a*c) (b*d))*(b*d)=((a.fdiv u*c.fdiv v)*(b*d))*bot (a*c) (b*d):=by ac_rfl
  _=((a*c)*bot (a*c) (b*d))*(b.fdiv v*d.fdiv u):=by rw [A]; ac_rfl
  _=(top (a*c) (b*d)*(b*d))*(b.fdiv v*d.fdiv u):=by rw [j]
  _=(top (a*c) (b*d)*(b.fdiv v*d.fdiv u))*(b*d):=by ac_rfl
theorem Jky {t b:Int} (h:b<0):top (-t) (-b)=top t b/\bot (-t) (-b)=bot t b:=by
 have a:=JjM (t:=t) (b:=b) ∅;have c:=JjM (t:=-t) (b:=-b) ∅;rw [if_pos h,if_pos h] at a;rw [if_neg ∅,if_neg ∅] at c;exact ⟨c.1.symm.trans a.1,c.2.symm.trans a.2⟩
theorem Jld {a b:Int}:g a (-b)=g a b:=by unfold g; simp [Int.gcd_neg]
theorem JjK (a b:Int):g a b=g b a:=by unfold g; rw [Int.gcd_comm]
end Mth
namespace L2
open PySem PySem.Spec PyProof.Rows
section
variable {D:Ends} {σ : St} {H:Hp} {Q:VK} {t u:TS} {ta tb te:TE} {g:TG} {tA:TA} {r:R2} {E:XK} {sp:Sp} {K:W.Frag}
theorem y83y:tSeq t u D σ H=t { D with nx:=u D } σ H:=rfl
theorem y72y:tNext D σ H=D.nx σ H:=rfl
theorem y2by:tAsg te g D σ H=te σ H fun x H1=>g x σ H1 D.nx:=rfl
theorem y6dy {i:Nat} {v:V} {R:St->Hp->Prop}:gName i v σ H R=R (σ.set i (some v)) H:=rfl
theorem y80y:tRet te D σ H=te σ H D.rt:=rfl
theorem y81y:tRetN D σ H=D.rt .non H:=rfl
theorem y47y:tDrop te D σ H=te σ H fun _ H1=>D.nx σ H1:=rfl
theorem y2ey {v:V}:tC v σ H Q=Q v H:=rfl
theorem y79y:tOp r ta tb σ H Q=ta σ H fun x H1=>tb σ H1 fun y H2=>r x y H2 Q:=rfl
theorem y93y {f:V->Hp->VK->Prop}:tUn f ta σ H Q=ta σ H fun x H1=>f x H1 Q:=rfl
theorem y30y {f:List V->Hp->VK->Prop}:tCB f tA σ H Q=tA σ H fun vs H1=>f vs H1 Q:=rfl
theorem y3cy {R:List V->Hp->Prop}:tCons ta tA σ H R=ta σ H fun x H1=>tA σ H1 fun xs H2=>R (x::xs) H2:=rfl
theorem y73y {R:List V->Hp->Prop}:tNil σ H R=R [] H:=rfl
theorem y2fy {dvs:List V}:tCall sp dvs E tA σ H Q=tA σ H fun vs H1=>sp (vs++dvs) H1 Q E:=rfl
theorem y89y {R:Bool->Hp->Prop}:tTest te σ H R=te σ H fun x H'=>∃ k,x=.bl k/\R k H':=rfl
theorem y23y {R:Bool->Hp->Prop}:tB te σ H R=te σ H fun x H'=>∃ k,x=.bl k/\R k H':=rfl
theorem y29y {a b:TT} {R:Bool->Hp->Prop}:tAnd a b σ H R=a σ H fun c H1=>if c=true then b σ H1 R else R false H1:=rfl
theorem y7ay {a b:TT} {R:Bool->Hp->Prop}:tOr a b σ H R=a σ H fun c H1=>if c=true then R true H1 else b σ H1 R:=rfl
theorem y75y {a:TT} {R:Bool->Hp->Prop}:tNot a σ H R=a σ H fun c H1=>R (!c) H1:=rfl
theorem y2ay:tAndV ta tb σ H Q=ta σ H fun x H1=>∃ c,x=.bl c/\if c=true then tb σ H1 Q else Q (.bl false) H1:=rfl
theorem y7by:tOrV ta tb σ H Q=ta σ H fun x H1=>∃ c,x=.bl c/\if c=true then Q (.bl true) H1 else tb σ H1 Q:=rfl
theorem y77y:tNotV ta σ H Q=ta σ H fun x H1=>∃ c,x=.bl c/\Q (.bl (!c)) H1:=rfl
theorem y5by {c:TT}:tIfS c t u D σ H=c σ H fun b H1=>if b=true then t D σ H1 else u D σ H1:=rfl
theorem y95y {i:Nat}:tVar i σ H Q=∃ v,σ[i]?=some (some v)/\Q v H:=rfl
theorem y26y {i j:Int}:rAddU K (.int i) (.int j) H Q=Q (.int (i+j)) H:=rfl
theorem y27y {i j:Str}:rAddU K (.str i) (.str j) H Q=(i.length+j.length<=sizeLine/\Q (.str (i++j)) H):=rfl
theorem y87y {f:Int->Int->V} {i j:Int}:rI0 f (.int i) (.int j) H Q=Q (f i j) H:=by
 unfold rI0; simp
theorem y71y {f:Int->V} {i:Int}:rU f (.int i) H Q=Q (f i) H:=by
 unfold rU; simp
theorem y6ay {i j:Int}:rMulU (.int i) (.int j) H Q=(IntMulOk i j/\Q (.int (i*j)) H):=rfl
theorem y4cy {i j:Int}:JiB (.int i) (.int j) H Q=(DivOk j/\Q (.int (i.fdiv j)) H):=rfl
theorem y69y {i j:Int}:rModU (.int i) (.int j) H Q=(j≠0/\Q (.int (i.fmod j)) H):=rfl
theorem y7ey {i j:Int}:rPowU (.int i) (.int j) H Q=(CPow i j/\Q (.int (i ^ j.toNat)) H):=rfl
theorem y33y {p:Int->Int->Bool} {i j:Int}:rCmpU p (.int i) (.int j) H Q=Q (.bl (p i j)) H:=rfl
theorem y4ay {i j:Int}:rEqU K (.int i) (.int j) H Q=Q (.bl (decide (i=j))) H:=rfl
theorem y6fy {i j:Int}:rNeU K (.int i) (.int j) H Q=Q (.bl (!decide (i=j))) H:=rfl
theorem y4by {i j:Str}:rEqU K (.str i) (.str j) H Q=Q (.bl (decide (i=j))) H:=rfl
theorem y70y {i j:Str}:rNeU K (.str i) (.str j) H Q=Q (.bl (!decide (i=j))) H:=rfl
theorem y49y {i j:Bool}:rEqU K (.bl i) (.bl j) H Q=Q (.bl (decide (i=j))) H:=rfl
theorem y6ey {i j:Bool}:rNeU K (.bl i) (.bl j) H Q=Q (.bl (!decide (i=j))) H:=rfl
theorem y8ey:tTup tA σ H Q=tA σ H fun xs H1=>xs.length<=sizeLine/\∀ p,H1 p=none->Q (.ref p) (upd H1 p (.tup xs)):=rfl
theorem y65y:tLst tA σ H Q=tA σ H fun xs H1=>xs.length<=sizeLine/\∀ p,H1 p=none->Q (.ref p) (upd H1 p (.lst xs)):=rfl
theorem y61y {x:V} {T:String}:rIsi K [x, .ty T] H Q=(T∈["int","str","bool","list","tuple"]/\∃ t,tyN K H x t/\Q (.bl (isiB t T)) H):=rfl
theorem y25y {i:Int}:rAbs [.int i] H Q=Q (.int (if i<0 then -i else i)) H:=rfl
theorem y68y {i j:Int}:rMin [.int i, .int j] H Q=Q (.int (if j<i then j else i)) H:=rfl
theorem y90y {i:Int} {s:String}:tyN K H (.int i) s=(s="int"):=rfl
theorem y92y {i:Str} {s:String}:tyN K H (.str i) s=(s="str"):=rfl
theorem y8fy {i:Bool} {s:String}:tyN K H (.bl i) s=(s="bool"):=rfl
theorem y91y {s:String}:tyN K H .non s=(s="NoneType"):=rfl
end
theorem JgO:bootBuiltins "abs"=some (.builtin "abs"):=by decide +kernel
theorem Jbd:bootBuiltins "len"=some (.builtin "len"):=by decide +kernel
theorem Jk7:bootBuiltins "min"=some (.builtin "min"):=by decide +kernel
theorem Jk9:bootBuiltins "sum"=some (.builtin "sum"):=by decide +kernel
theorem JfA:bootBuiltins "sorted"=some (.builtin "sorted"):=by decide +kernel
theorem JaC:bootBuiltins "isinstance"=some (.builtin "isinstance"):=by decide +kernel
theorem Jk6:bootBuiltins "all"=some (.builtin "all"):=by decide +kernel
theorem JgP:bootBuiltins "int"=some (.type "int"):=by decide +kernel
theorem Jk8:bootBuiltins "str"=some (.type "str"):=by decide +kernel
theorem JhK:bootBuiltins "bool"=some (.type "bool"):=by decide +kernel
theorem JeV:bootBuiltins "list"=some (.type "list"):=by decide +kernel
theorem JcM:bootBuiltins "tuple"=some (.type "tuple"):=by decide +kernel
theorem Jkb:bootBuiltins "dict"=some (.type "dict"):=by decide +kernel
theorem Ji2:bootBuiltins "range"=some (.type "range"):=by decide +kernel
theorem yby:isiB "int" "int"=true:=by decide
theorem ydy:isiB "int" "str"=false:=by decide
theorem yay:isiB "int" "bool"=false:=by decide
theorem ycy:isiB "int" "list"=false:=by decide
theorem yey:isiB "int" "tuple"=false:=by decide
theorem y15y:isiB "str" "int"=false:=by decide
theorem y17y:isiB "str" "str"=true:=by decide
theorem y14y:isiB "str" "bool"=false:=by decide
theorem y16y:isiB "str" "list"=false:=by decide
theorem y18y:isiB "str" "tuple"=false:=by decide
theorem y6y:isiB "bool" "int"=true:=by decide
theorem y8y:isiB "bool" "str"=false:=by decide
theorem y5y:isiB "bool" "bool"=true:=by decide
theorem y7y:isiB "bool" "list"=false:=by decide
theorem y9y:isiB "bool" "tuple"=false:=by decide
theorem y1y:isiB "NoneType" "int"=false:=by decide
theorem y3y:isiB "NoneType" "str"=false:=by decide
theorem y0y:isiB "NoneType" "bool"=false:=by decide
theorem y2y:isiB "NoneType" "list"=false:=by decide
theorem y4y:isiB "NoneType" "tuple"=false:=by decide
theorem y10y:isiB "list" "int"=false:=by decide
theorem y12y:isiB "list" "str"=false:=by decide
theorem yfy:isiB "list" "bool"=false:=by decide
theorem y11y:isiB "list" "list"=true:=by decide
theorem y13y:isiB "list" "tuple"=false:=by decide
theorem y1ay:isiB "tuple" "int"=false:=by decide
theorem y1cy:isiB "tuple" "str"=false:=by decide
theorem y19y:isiB "tuple" "bool"=false:=by decide
theorem y1by:isiB "tuple" "list"=false:=by decide
theorem y1dy:isiB "tuple" "tuple"=true:=by decide
theorem y1fy:("int"∈["int","str","bool","list","tuple"])=True:=by simp
theorem y21y:("str"∈["int","str","bool","list","tuple"])=True:=by simp
theorem y1ey:("bool"∈["int","str","bool","list","tuple"])=True:=by simp
theorem y20y:("list"∈["int","str","bool","list","tuple"])=True:=by simp
theorem y22y:("tuple"∈["int","str","bool","list","tuple"])=True:=by simp
theorem y24y {CX:CXT} {P:Program} {w:World} {K:W.Frag} {mg:Str->Option Value} {base:Heap} {N:List Str} {qual:Str} {scope:Scope} {f:Addr} {cd:Value} {A:Around} {outer:List Env} {s:Shared} {H:Hp} {E:XK}:(cxOf CX P w K mg base N qual scope f cd A outer s H E).K=K:=rfl
def ForR (lo:Int) (n:Nat) (g:TG) (tb:TS) (D:Ends) (σ : St) (H:Hp):Prop:=∃ W:Nat->Nat->St->Hp->Prop,(∃ m,W 0 m σ H)/\∀ i m σ H,W i m σ H ->
 ((Itr lo n).stop i H/\D.nx σ H)\/((Itr lo n).go i H/\∃ N:St->Hp->Prop,(∀ σ' H',N σ' H'->∃ m',m'<m/\W (i+1) m' σ' H')/\∀ x H',(Itr lo n).yld i H x H'->g x σ H' fun σ2 H2=>tb { D with nx:=N,ct:=N,bk:=D.nx } σ2 H2)
def ForA (K:W.Frag) (a:Addr) (g:TG) (tb:TS) (D:Ends) (σ : St) (H:Hp):Prop :=
 ((∃ xs,SqL K H a xs)/\∃ W:Nat->Nat->St->Hp->Prop,(∃ m,W 0 m σ H)/\∀ i m σ H,W i m σ H ->
  ((Itl K a).stop i H/\D.nx σ H)\/((Itl K a).go i H/\∃ N:St->Hp->Prop,(∀ σ' H',N σ' H'->∃ m',m'<m/\W (i+1) m' σ' H')/\∀ x H',(Itl K a).yld i H x H'->g x σ H' fun σ2 H2=>tb { D with nx:=N,ct:=N,bk:=D.nx } σ2 H2)) \/
 ((∃ xs,SqT K H a xs)/\∃ W:Nat->Nat->St->Hp->Prop,(∃ m,W 0 m σ H)/\∀ i m σ H,W i m σ H ->
  ((Itt K a).stop i H/\D.nx σ H)\/((Itt K a).go i H/\∃ N:St->Hp->Prop,(∀ σ' H',N σ' H'->∃ m',m'<m/\W (i+1) m' σ' H')/\∀ x H',(Itt K a).yld i H x H'->g x σ H' fun σ2 H2=>tb { D with nx:=N,ct:=N,bk:=D.nx } σ2 H2))
theorem y4fy {ta:TA} {g:TG} {tb:TS} {D:Ends} {σ : St} {H:Hp}:tFor (iRng1 ta) g tb D σ H=ta σ H fun vs H1=>∃ j:Int,vs=[.int j]/\-(2 ^ 62)<=j/\j<2 ^ 62/\ForR 0 j.toNat g tb D σ H1:=rfl
theorem y50y {ta:TA} {g:TG} {tb:TS} {D:Ends} {σ : St} {H:Hp}:tFor (iRng2 ta) g tb D σ H=ta σ H fun vs H1=>∃ i j:Int,vs=[.int i, .int j]/\(-(2 ^ 62)<=i/\i<2 ^ 62/\-(2 ^ 62)<=j/\j<2 ^ 62)/\ForR i (j-i).toNat g tb D σ H1:=rfl
theorem y51y {K:W.Frag} {tl:TE} {g:TG} {tb:TS} {D:Ends} {σ : St} {H:Hp}:tFor (iAny K tl) g tb D σ H=tl σ H fun x H1=>∃ a,x=.ref a/\ForA K a g tb D σ H1:=rfl
theorem ForR.by {lo:Int} {n:Nat} {g:TG} {tb:TS} {D:Ends} {σ : St} {H:Hp} (Pv:Nat->St->Hp->Prop) (h0:Pv 0 σ H)
  (hs:∀ i σ H,i<n->Pv i σ H->g (.int (lo+i)) σ H fun σ2 H2=>tb { D with nx:=Pv (i+1),ct:=Pv (i+1),bk:=D.nx } σ2 H2) (hd:∀ σ H,Pv n σ H->D.nx σ H):ForR lo n g tb D σ H:=JhX Pv h0 hs hd
theorem ForA.by {K:W.Frag} {a:Addr} {xs:List V} {g:TG} {tb:TS} {D:Ends} {σ : St} {H:Hp} (hA:SqA K H a xs) (Pv:Nat->St->Hp->Prop) (h0:Pv 0 σ H) (hl:∀ i σ H',i<=xs.length->Pv i σ H'->Same H H')
  (hs:∀ i x σ H,xs[i]?=some x->Pv i σ H->g x σ H fun σ2 H2=>tb { D with nx:=Pv (i+1),ct:=Pv (i+1),bk:=D.nx } σ2 H2) (hd:∀ σ H,Pv xs.length σ H->D.nx σ H):ForA K a g tb D σ H:=Jkk hA Pv h0 hl hs hd
theorem Jd9 {H:Hp} {o:HO} {R:V->Hp->Prop} (h:∀ p H1,Same H H1->H1 p=some o->R (.ref p) H1):∀ p,H p=none->R (.ref p) (upd H p o):=fun p a=>
 h p _ (fun b u q=>by rw [Jag (Jai q a)]; exact q) Jak
theorem newS {H H':Hp} {p:Addr} {o:HO} (h:H p=none) (e:upd H p o=H'):Same H H':=fun b u q=>by rw [<- e,Jag (Jai q h)]; exact q
theorem newE {H H':Hp} {p:Addr} {o:HO} (e:upd H p o=H'):H' p=some o:=by rw [<- e,Jak]
theorem JeT {n:Nat} {i:Int} (h:Mth.Sz n i):Builtin.Int.intBits i<=n:=by
 unfold Builtin.Int.intBits;split
 ·exact Nat.zero_le _
 ·rename_i z;have : i.natAbs.log2<n:=(Nat.log2_lt (by simpa using z)).mpr h;ac_nf
theorem mulOk {m n:Nat} {i j:Int} (h:Mth.Sz m i) (k:Mth.Sz n j) (hm:m<=2 ^ 20:=by decide) (hn:n<=2 ^ 20:=by decide):IntMulOk i j:=IntMulOk.of_bits (Nat.le_trans (JeT h) hm) (Nat.le_trans (JeT k) hn)
theorem JjN {i j:Int} (h:Mth.Sz 64 j):IntMulOk i j:=IntMulOk.of_right (JeT h)
theorem divOk {n:Nat} {j:Int} (h:j≠0) (k:Mth.Sz n j) (hn:n<9000:=by decide):DivOk j:=⟨h,Mth.Jkx k hn⟩
theorem len0:([]:List V).length<=sizeLine:=by decide
theorem len2 {a b:V}:[a,b].length<=sizeLine:=by show 2<=sizeLine; decide
theorem len5 {a b c d e:V}:[a,b,c,d,e].length<=sizeLine:=by show 5<=sizeLine; decide
theorem JaV {j:Int} (h:decide (j≠0/\j.natAbs<2 ^ 64)=true):DivOk j:=by
 have z:=of_decide_eq_true h;exact divOk z.1 (n:=64) z.2
theorem JaW {i j:Int} (h:decide (j.natAbs<2 ^ 64)=true):IntMulOk i j:=by
 have z:j.natAbs<2 ^ 64:=of_decide_eq_true h;exact JjN z
theorem JaH {i j:Int} (h:decide (i.natAbs<2 ^ 64)=true):IntMulOk i j:=by
 have z:i.natAbs<2 ^ 64:=of_decide_eq_true h;exact IntMulOk.of_left (JeT (n:=64) z)
theorem JaX {i j:Int} (h:decide (0<=j/\j<=1000000/\i.natAbs<2 ^ 64)=true):CPow i j:=by
 have z:0<=j/\j<=1000000/\i.natAbs<2 ^ 64:=of_decide_eq_true h;exact z
def FrV (K:W.Frag) (H:Hp) (v:V) (a b:Int):Prop:=∃ p,v=.ref p/\SqT K H p [.int a, .int b]
theorem FrV.same {K:W.Frag} {H H':Hp} {v:V} {a b:Int} (S:Same H H') (h:FrV K H v a b):FrV K H' v a b:=by
 obtain ⟨p,e,q⟩:=h;exact ⟨p,e,q.same S⟩
theorem FrV.of {K:W.Frag} {H:Hp} {p:Addr} {a b:Int} (h:H p=some (.tup [.int a, .int b])):FrV K H (.ref p) a b:=⟨p,rfl,SqT.of h⟩
theorem ixT0 {K:W.Frag} {H:Hp} {p:Addr} {x:V} {r:List V} {Q:VK} (h:SqT K H p (x::r)) (q:Q x H):rIxU K (.ref p) (.int 0) H Q:=⟨_,x, .inr h,JdU (j:=0) rfl,q⟩
theorem ixT1 {K:W.Frag} {H:Hp} {p:Addr} {x y:V} {r:List V} {Q:VK} (h:SqT K H p (x::y::r)) (q:Q y H):rIxU K (.ref p) (.int 1) H Q:=⟨_,y, .inr h,JdU (j:=1) rfl,q⟩
theorem ixF0 {K:W.Frag} {H:Hp} {v:V} {a b:Int} {Q:VK} (h:FrV K H v a b) (q:Q (.int a) H):rIxU K v (.int 0) H Q:=by
 obtain ⟨p,rfl,z⟩:=h;exact ixT0 z q
theorem ixF1 {K:W.Frag} {H:Hp} {v:V} {a b:Int} {Q:VK} (h:FrV K H v a b) (q:Q (.int b) H):rIxU K v (.int 1) H Q:=by
 obtain ⟨p,rfl,z⟩:=h;exact ixT1 z q
theorem FrV.rep {K:W.Frag} {H:Hp} {v:V} {a b:Int} (h:FrV K H v a b):Rep K H (.tup [.int a, .int b]) v:=by
 obtain ⟨p,rfl,z⟩:=h;simp only [Rep,RepL];exact ⟨p,_,rfl,z,_,_,rfl,rfl,_,_,rfl,rfl,rfl⟩
theorem FrV.ty {K:W.Frag} {H:Hp} {v:V} {a b:Int} (h:FrV K H v a b):tyN K H v "tuple":=by
 obtain ⟨p,rfl,z⟩:=h;exact .inr ⟨rfl,_,z⟩
theorem lenF {K:W.Frag} {H:Hp} {v:V} {a b:Int} {Q:VK} (h:FrV K H v a b) (q:Q (.int 2) H):rLen K [v] H Q:=by
 obtain ⟨p,rfl,z⟩:=h;exact ⟨_, .inr z,q⟩
theorem eqF {K:W.Frag} {H:Hp} {x y:V} {a b c d:Int} {Q:VK} (h:FrV K H x a b) (g:FrV K H y c d) (q:Q (.bl (decide (a=c)&&decide (b=d))) H):rEqU K x y H Q:=by
 have e:eqD (.tup [.int a, .int b]) (.tup [.int c, .int d])=(decide (a=c)&&decide (b=d)):=by
  simp only [eqD,eqL,Bool.and_true]
  congr 1 <;> simp [BEq.beq]
 have i:=h.rep;have f:=g.rep;obtain ⟨p,rfl,_⟩:=h;obtain ⟨j,rfl,_⟩:=g;exact ⟨_,_,i,f,by simp [depD,depL],rfl,by rw [e]; exact q⟩
theorem neF {K:W.Frag} {H:Hp} {x y:V} {a b c d:Int} {Q:VK} (h:FrV K H x a b) (g:FrV K H y c d) (q:Q (.bl (!(decide (a=c)&&decide (b=d)))) H):rNeU K x y H Q:=by
 have e:eqD (.tup [.int a, .int b]) (.tup [.int c, .int d])=(decide (a=c)&&decide (b=d)):=by
  simp only [eqD,eqL,Bool.and_true]
  congr 1 <;> simp [BEq.beq]
 have i:=h.rep;have f:=g.rep;obtain ⟨p,rfl,_⟩:=h;obtain ⟨j,rfl,_⟩:=g;exact ⟨_,_,i,f,by simp [depD,depL],rfl,by rw [e]; exact q⟩
theorem ixT {K:W.Frag} {H:Hp} {p:Addr} {xs:List V} {i:Nat} {v:V} {Q:VK} (h:SqT K H p xs) (e:xs[i]?=some v) (q:Q v H):rIxU K (.ref p) (.int (i:Int)) H Q:=⟨xs,v, .inr h,JdU e,q⟩
theorem ixL {K:W.Frag} {H:Hp} {p:Addr} {xs:List V} {i:Nat} {v:V} {Q:VK} (h:SqL K H p xs) (e:xs[i]?=some v) (q:Q v H):rIxU K (.ref p) (.int (i:Int)) H Q:=⟨xs,v, .inl h,JdU e,q⟩
section
open PySem.W PySem.Builtin PySem.Builtin.ObjectAttr PySem.Builtin.Getset_descriptor
variable {prog:Program} {w:World} {A:Around} {E:Value->Shared->Prop} {s:Shared} {K:Frag} {x D:Addr} {ox:Obj}
end
section
variable {X:Cx}
def Jk1 (r r' r'':R2) (ta tb tc td:TE):TE:=fun σ H Q=>ta σ H fun x H1=>tb σ H1 fun y H2=>r x y H2 fun z H3=>∃ k,z=.bl k /\
 (if k=true then tc σ H3 fun w' H4=>r' y w' H4 fun z' H5=>∃ k',z'=.bl k'/\(if k'=true then td σ H5 fun u' H6=>r'' w' u' H6 Q else Q (.bl false) H5) else Q (.bl false) H3)
def rFmt:V->Hp->VK->Prop:=fun x H Q=>match x with
 | .int i=>i.natAbs.log2<1920/\Q (.str (toString i)) H
 | _=>False
def TJ:=St->Hp->Str->VK->Prop
def jNil:TJ:=fun _ H acc Q=>acc.length<=sizeLine/\Q (.str acc) H
def jCons (te:TE) (t:TJ):TJ:=fun σ H acc Q=>te σ H fun x H1=>∃ y,x=.str y/\(acc++y).length<=sizeLine/\t σ H1 (acc++y) Q
def tFstr (t:TJ):TE:=fun σ H Q=>t σ H Str.empty Q
def rStrI:List V->Hp->VK->Prop:=fun xs H Q=>match xs with
 | [.int i]=>i.natAbs.log2<1920/\Q (.str (toString i)) H
 | _=>False
end
section
variable {En:Ends} {σ : St} {H:Hp} {Q:VK} {t u:TS} {ta tb te tc td:TE} {g:TG} {gs:TGs} {tA:TA} {E:XK} {sp:Sp} {K:W.Frag}
theorem y85y {r:V->Option Int->Option Int->Hp->VK->Prop} {tl th:TO}:tSl r te tl th σ H Q=te σ H fun x H1=>tl σ H1 fun l H2=>th σ H2 fun u H3=>r x l u H3 Q:=rfl
theorem y7dy {R:Option Int->Hp->Prop}:tPart te σ H R=te σ H fun x H1=>∃ i,x=.int i/\R (some i) H1:=rfl
theorem y74y {R:Option Int->Hp->Prop}:Jk2 σ H R=R none H:=rfl
theorem y31y {r r':R2}:JlM r r' ta tb tc σ H Q=ta σ H fun x H1=>tb σ H1 fun y H2=>r x y H2 fun z H3=>∃ k,z=.bl k/\(if k=true then tc σ H3 fun w' H4=>r' y w' H4 Q else Q (.bl false) H3):=rfl
theorem y32y {r r' r'':R2}:Jk1 r r' r'' ta tb tc td σ H Q=ta σ H fun x H1=>tb σ H1 fun y H2=>r x y H2 fun z H3=>∃ k,z=.bl k /\
 (if k=true then tc σ H3 fun w' H4=>r' y w' H4 fun z' H5=>∃ k',z'=.bl k'/\(if k'=true then td σ H5 fun u' H6=>r'' w' u' H6 Q else Q (.bl false) H5) else Q (.bl false) H3):=rfl
theorem y55y {tj:TJ}:tFstr tj σ H Q=tj σ H Str.empty Q:=rfl
theorem y63y {tj:TJ} {acc:Str}:jCons te tj σ H acc Q=te σ H fun x H1=>∃ y,x=.str y/\(acc++y).length<=sizeLine/\tj σ H1 (acc++y) Q:=rfl
theorem y64y {acc:Str}:jNil σ H acc Q=(acc.length<=sizeLine/\Q (.str acc) H):=rfl
theorem y4ey {i:Int}:rFmt (.int i) H Q=(i.natAbs.log2<1920/\Q (.str (toString i)) H):=rfl
theorem y86y {i:Int}:rStrI [.int i] H Q=(i.natAbs.log2<1920/\Q (.str (toString i)) H):=rfl
theorem y8cy {D0:Addr} {i:Nat} {tx:St->Hp->VK->XK->Prop} {ts:TS}:JlO K D0 i tx ts En σ H=tx σ H (fun _ H1=>En.nx σ H1) fun cls _ H1=>∃ C,cls=.ref C/\JhI K C D0 /\
 ∀ ea,H1 ea=none->ts { nx:=fun σ' H'=>En.nx (σ'.set i none) H',rt:=En.rt,bk:=fun σ' H'=>En.bk (σ'.set i none) H',ct:=fun σ' H'=>En.ct (σ'.set i none) H' } (σ.set i (some (.ref ea))) (upd H1 ea (ExcO ea C)):=rfl
theorem y96y {dvs:List V} {Qx:VK} {Ex:XK}:xCall sp dvs tA σ H Qx Ex=tA σ H fun vs H1=>sp (vs++dvs) H1 Qx Ex:=rfl
theorem y7fy {C:Addr}:JjY E C tA En σ H=tA σ H fun vs H1=>vs.length<=sizeLine/\E (.ref C) none H1:=rfl
end
def Its (x:Str):It:=⟨fun i _=>i<x.cps.size,fun i H v H'=>H'=H/\∃ c,x.cps[i]?=some c/\v=.str ⟨#[c]⟩,fun i _=>i=x.cps.size⟩
theorem Jf4 {P:Program} {w:World} {K:W.Frag} {tg:Expr} {it:Addr} {x:Str} {n:String} {St:Nat->Heap->Prop} (hn:["enumerate","zip","dict_itemiterator","dict_reverseitemiterator","odict_iterator","itertools.zip_longest","itertools.pairwise"].contains n=false)
  (hst:∀ i h,St i h->∃ o vs,h.get? it=some o/\o.cls=.type n/\o.data=.fields vs) (mk:∀ A:Around,A.handled=none->Walks P w A it [it] [it] x.cps.size (SignAt x) St)
  (hself:∀ (A:Around) (i:Nat) (s:Shared) (Q:Value->Shared->Prop) (E:Value->Shared->Prop),St i s.heap->Q (.ref it) s->wpAny (model P w) A (pyIter (.ref it)) Q E s):Turn P w K tg (Its x) [it] it St where
 mem:=by simp
 obj:=fun i h g b a=>by
  obtain rfl:b=it:=by simpa using a
  obtain ⟨o,vs,e,_,d⟩:=hst i h g;exact ⟨o,e,fun v z=>by rw [d] at z; cases z⟩
 keep:=fun i h j g k=>(mk {} rfl).frame i h j g fun b a o e=>k b a o e
 item:=by
  intro X L J N G i f s σ H E I m g y;subst L J N;obtain ⟨M,t,U,q,F,B⟩:=m it (by simp);refine (mk X.A (I.ok.hd G)).item i s _ _ y g fun v j C R l D=>?_;obtain ⟨c,u,r,rfl⟩:=R;have I1:Inv X f σ H { s with heap:=j,toks:=C }:=I.turned (fun b o a e=>D b o (by simpa using a) e) M t q F B;obtain ⟨o,vs,S,T,O⟩:=hst _ _ l;exact ⟨_,rfl,go_of (s:={ s with heap:=j,toks:=C }) S T O hn ⟨.str ⟨#[c]⟩,H,I1,⟨u,rfl⟩,⟨rfl,c,r,rfl⟩,l,fun b a=>(m b a).1⟩⟩
 done:=by
  intro X L J N G i f s σ H E I m g y;subst L J N;obtain ⟨M,t,U,q,F,B⟩:=m it (by simp);have p:i=x.cps.size:=y;subst p;exact (mk X.A (I.ok.hd G)).done s _ _ g fun j C D=>⟨rfl,I.turned (fun b o a e=>D b o (by simpa using a) e) M t q F B⟩
 self:=hself
section
variable {X:Cx} {tg:Expr}
def iStr (tl:TE):TI:=fun σ H R=>tl σ H fun x H1=>∃ z,x=.str z/\R (Its z) H1
theorem JlB {l:Expr} {tl:TE} (hl:PE X l tl):PI X tg l (iStr tl):=fun f s σ H R I h=>by
 refine thn (hl f s σ H _ I h) fun v d ⟨x,r,I1,y,z,k,q⟩=>?_;subst k;obtain ⟨t,rfl⟩:=y;have key:∀ (n:String),(n="str_ascii_iterator"\/n="str_iterator")->PIE X f σ tg R (.ref d.heap.objs.size) { d with heap:=d.heap.push { cls:=.type n,data:=.fields #[.str z t, .int 0 0] } }:=fun n u=>by
  have p:Turn X.prog X.w X.K tg (Its z) [d.heap.objs.size] d.heap.objs.size (fun i h=>h.IsStrIter d.heap.objs.size n z t i):=by
   rcases u with rfl | rfl
   ·exact Jf4 (n:="str_ascii_iterator") ⋯ (fun i h g=>let ⟨o,a,b,c⟩:=g; ⟨o,_,a,b,c⟩) (fun A j=>Walks.strAscii j _ z t) fun A i s Q E g q=>wpAny_pyIter_striter_ascii g q
   ·exact Jf4 (n:="str_iterator") ⋯ (fun i h g=>let ⟨o,a,b,c⟩:=g; ⟨o,_,a,b,c⟩) (fun A j=>Walks.strWide j _ z t) fun A i s Q E g q=>wpAny_pyIter_striter_wide g q
  refine ⟨d.heap.objs.size,[d.heap.objs.size],_,_,r,rfl,I1.kept (t':=d.toks) fun b o e=>Heap.get?_push_of_some _ e,p,⟨_,Heap.get?_push_size _ rfl,rfl,rfl⟩,fun b m=>?_,q⟩;obtain rfl:b=d.heap.objs.size:=by simpa using m
  exact I1.fpOk (Nat.le_refl _) (I1.hok.fresh (Nat.le_refl _))
 cases ha:z.cps.all (· < 128)
 ·exact wpAny_pyIter_wide ha (key _ (.inr rfl))
 ·exact wpAny_pyIter_ascii ha (key _ (.inl rfl))
end
abbrev Cx.inc (X:Cx) (N':List Str) (scope:Scope) (cl:List (Str × Addr)) (fp:List Addr) (s2:Shared) (H2:Hp) (C:Addr):Cx :=
 { X with N:=N',s₀:=s2,H₀:=H2,env:=compEnvC scope cl C X.env,outer:=X.stack,ex:=fp,fn:=fun _=>false,pn:=[],xe:=fun _ _=>False }
section
variable {X:Cx} {pins:List (Addr × Obj)} {σ : St} {H2:Hp} {s2:Shared} {N':List Str} {scope:Scope} {cl:List (Str × Addr)} {fp:List Addr} {C:Addr}
theorem Inv.incOk (I:Inv X pins σ H2 s2) (hf:∀ b∈fp,FpOk X pins H2 b) (hfp:∀ b∈fp,b<s2.heap.objs.size) (hk:scope.kind=.function) (hC:s2.heap.objs.size<=C) (hcl:∀ x c,cl.lookup x=some c->X.env.cells.lookup x=some c)
  (hhas:∀ y,((relabel scope X.env).names.lookup y=some .cell\/(relabel scope X.env).names.lookup y=some .free)->∃ c,cl.lookup y=some c):(X.inc N' scope cl fp s2 H2 C).Ok where
 mod:=I.ok.mod
 kind:=hk
 glob:=I.ok.glob
 blt:=I.ok.blt
 above:=hC
 inj:=fun x y c i f=>I.ok.inj x y c (hcl x c i) (hcl y c f)
 has:=fun y g=>hhas y g
 cab:=fun x c h=>by cases h
 hd:=I.ok.hd
 frames:=I.ok.frames
 stk:=.inl rfl
 exf:=fun b a=>⟨Nat.ne_of_lt (Nat.lt_of_lt_of_le (hfp b a) hC),fun x c e=>(hf b a).2.2.2.2.1 x c (hcl x c e)⟩
 bs:=I.bs
 bsz:=Nat.le_trans I.ok.bsz I.sz
 noex:=fun b o e a=>by
  rcases (hf b a).2.2.2.1 with z | z
  ·exact I.ok.noex b o e z
  ·exact absurd (Nat.lt_of_lt_of_le (Nat.lt_of_lt_of_le (Heap.lt_size e) I.ok.bsz) z) (Nat.lt_irrefl _)
 exfs:=fun b a d=>by
  rcases mem_cons.mp (I.stkSub b d) with z | z
  ·exact (hf b a).2.1 z
  ·exact (hf b a).2.2.1 z
 funs:=I.stack
 frf:=I.stkFree
def JaD (cs:List (Nat × Str)) (σ : St):St:=cs.map fun p=>(σ[p.1]?).join
theorem Inv.capsLoc {s4:Shared} {m:Str->Option Value} {own:List Str} {cs:List (Nat × Str)} (I:Inv X pins σ H2 s2) (ok:(X.inc (own++cs.map (·.2)) scope cl fp s2 H2 C).Ok) (kept:∀ c v,(∃ x,cl.lookup x=some c)->s2.heap.IsCell c v->s4.heap.IsCell c v)
  (hcl:∀ x c,cl.lookup x=some c->X.env.cells.lookup x=some c) (hcs:∀ p∈cs,X.N[p.1]?=some p.2/\X.env.scope.names.lookup p.2=some .cell/\(relabel scope X.env).names.lookup p.2=some .cell) :
  ∀ (i:Nat) (x:Str) (v:V),(own++cs.map (·.2))[i]?=some x->(List.replicate own.length none++JaD cs σ)[i]?=some (some v)->∃ u,RelV v u/\Look (compEnvC scope cl C X.env) s4.heap m x u:=fun i x v w d=>by
  by_cases l:i<own.length
  ·rw [List.getElem?_append_left (by simpa using l),List.getElem?_replicate,if_pos l] at d;cases d
  ·have b:(JaD cs σ)[i-own.length]?=some (some v):=by rw [List.getElem?_append_right (by simp; ac_nf)] at d; simpa using d
   have a:(cs.map (·.2))[i-own.length]?=some x:=by
    rwa [List.getElem?_append_right ∅] at w
   unfold JaD at b;rw [List.getElem?_map] at a b;cases q:cs[i-own.length]? with
   | none=>rw [q] at a; cases a
   | some p=>
    rw [q] at a b;obtain rfl:p.2=x:=by simpa using a
    have e:(σ[p.1]?).join=some v:=by simpa using b
    have g : σ[p.1]?=some (some v):=by
     cases z : σ[p.1]? with
     | none=>rw [z] at e; cases e
     | some o=>rw [z] at e; exact congrArg some e
    obtain ⟨t,h,j⟩:=hcs p (List.mem_of_getElem? q);obtain ⟨y,_,r⟩:=I.loc;obtain ⟨u,s,n⟩:=r p.1 p.2 v t g (.inr (.inl h));refine ⟨u,s, .inr ⟨.inl j,?_⟩⟩;obtain ⟨c,f⟩:=ok.has p.2 (.inl j);refine ⟨c,f,?_⟩;rcases n with ⟨k,_⟩ | ⟨_,c',e',hcell⟩
    ·have k:X.env.scope.names.lookup p.2=some .local:=k;rw [h] at k; cases k
    ·rw [hcl _ _ f] at e';cases e';exact kept _ _ ⟨_,f⟩ hcell
theorem Inv.incStart {s4:Shared} {m:Str->Option Value} {own:List Str} {cs:List (Nat × Str)} (I:Inv X pins σ H2 s2) (ok:(X.inc (own++cs.map (·.2)) scope cl fp s2 H2 C).Ok) (kept:∀ b o,s2.heap.get? b=some o->s4.heap.get? b=some o) (hos:s4.os=s2.os) (hg:s4.gens=s2.gens) (hm:s4.heap.Ns C m)
  (hC:s2.heap.objs.size<=C) (hcl:∀ x c,cl.lookup x=some c->X.env.cells.lookup x=some c)
  (hcs:∀ p∈cs,X.N[p.1]?=some p.2/\X.env.scope.names.lookup p.2=some .cell/\(relabel scope X.env).names.lookup p.2=some .cell) :
  Inv (X.inc (own++cs.map (·.2)) scope cl fp s2 H2 C) [] (List.replicate own.length none++JaD cs σ) H2 s4 where
 ok:=ok
 os:=hos
 bare:=by rw [hg]; exact I.bare
 base:=Un.kept kept
 loc:=⟨m,hm,fun i x v h f _=>I.capsLoc (m:=m) ok (fun c v _ ⟨o,d,a⟩=>⟨o,kept _ _ d,a⟩) hcl hcs i x v h f⟩
 cell:=fun x c e=>by
  obtain ⟨v,o,d,a⟩:=I.cell x c (hcl x c e);exact ⟨v,o,kept _ _ d,a⟩
 free:=I.hok.fresh hC
 freeC:=fun x c e=>I.freeC x c (hcl x c e)
 pin:=fun p g=>by simp at g
 hok:=I.hok.kept kept
 len:=by simp [JaD]
theorem Inv.incAgain {s':Shared} {H':Hp} {σ':St} {pl:List (Addr × Obj)} {own:List Str} {cs:List (Nat × Str)} (I:Inv X pins σ H2 s2) (J:Inv (X.inc (own++cs.map (·.2)) scope cl fp s2 H2 C) pl σ' H' s')
  (hf:∀ b∈fp,FpOk X pins H2 b) (hcl:∀ x c,cl.lookup x=some c->X.env.cells.lookup x=some c) (hcs:∀ p∈cs,X.N[p.1]?=some p.2/\X.env.scope.names.lookup p.2=some .cell/\(relabel scope X.env).names.lookup p.2=some .cell) :
  Inv (X.inc (own++cs.map (·.2)) scope cl fp s2 H2 C) [] (List.replicate own.length none++JaD cs σ) H' s' where
 ok:=J.ok
 os:=J.os
 bare:=J.bare
 base:=J.base
 loc:=by
  obtain ⟨m,a,_⟩:=J.loc;refine ⟨m,a,fun i x v k h _=>I.capsLoc (m:=m) J.ok (fun c v ⟨x,d⟩ ⟨o,g,f⟩=>?_) hcl hcs i x v k h⟩;have e:c∉fp:=fun z=>(hf c z).2.2.2.2.1 x c (hcl x c d) rfl;by_cases a:c∈frs X.stack
  ·obtain ⟨l,z⟩:=J.base.slot c o g (I.freeC x c (hcl x c d)) a e;exact ⟨_,z,f⟩
  ·exact ⟨o,J.base.keep c o g (I.freeC x c (hcl x c d)) a e,f⟩
 cell:=J.cell
 free:=J.free
 freeC:=J.freeC
 pin:=fun p j=>by simp at j
 hok:=J.hok
 len:=by simp [JaD]
end
section
variable {prog:Program} {w:World} {A:Around} {E:Value->Shared->Prop} {R:Result->Shared->Prop} {s:Shared}
theorem Jhj {elt target iter:Expr} {scope:Scope} {pos:Pos} {it acc:Value} {env:Env} (J:Nat->Shared->Prop)
  (turn:∀ n s,J n s->wpAny (model prog w) A (pyNext it) (fun r s1=>match r with
   | none=>R (.ok .next) s1
   | some v=>wpAny (model prog w) A (letOwnedTupleGo target it v) (fun _ s2=>wpAny (model prog w) A (assign target env v) (fun _ s3=>wpAny (model prog w) A (eval elt env) (fun x s4=>
     wpAny (model prog w) A (call (.builtin "list.append") [acc,x]) (fun _ s5=>∃ m,m<n/\J m s5) (fun _ _=>False) s4) (fun _ _=>False) s3) (fun _ _=>False) s2) (fun _ _=>False) s1) (fun _ _=>False) s) (n:Nat) (h:J n s) :
  codeAny (model prog w) A (.compLoop (.ListComp elt [⟨target,iter,[],0⟩] scope pos) 0 it acc env) R s:=by
 refine codeAny_loop rfl J (fun n s d=>?_) n h;show wpAny _ A ((compTurn (.ListComp elt [⟨target,iter,[],0⟩] scope pos) 0 it acc env).onRaise (fun y=>do noteFrame y env; theTreesLotGoes y)) _ _ s
 (refine wpAny_noted ?_; rw [compTurn_list])
 refine wpAny_bind (wpAny_standAt (wpAny_bind (wpAny_mono (turn n s d) (fun r s1 a=>?_) fun _ _ z=>z.elim)));cases r with
 | none=>exact wpAny_pure a
 | some v=>
  refine wpAny_bind (wpAny_mono a (fun _ s2 c=>wpAny_bind (wpAny_mono c (fun _ s3 b=>?_) fun _ _ z=>z.elim)) fun _ _ z=>z.elim);refine wpAny_bind (wpAny_tests_nil ?_);exact wpAny_bind (wpAny_bind (wpAny_mono b (fun x s4 f=>(wpAny_bind (wpAny_mono f (fun _ s5 e=>(wpAny_pure (wpAny_pure ⟨rfl,e⟩))) fun _ _ z=>z.elim))) fun _ _ z=>z.elim))
end
def tComp (k:Nat) (cs:List (Nat × Str)) (wi:TI) (g:TG) (te:TE):TE:=fun σ H Q=>wi σ H fun J H1=>∃ W:Nat->Nat->List V->Hp->Prop,(∃ m,W 0 m [] H1)/\∀ i m ys H2,W i m ys H2->ys.length<=sizeLine /\
  ((J.stop i H2/\∀ p,H2 p=none->Q (.ref p) (upd H2 p (.lst ys))) \/
   (J.go i H2/\∀ x H3,J.yld i H2 x H3->g x (List.replicate k none++JaD cs σ) H3 fun σ4 H4=>te σ4 H4 fun y H5=>∃ m',m'<m/\W (i+1) m' (ys++[y]) H5))
theorem lstP {us:List Value} {v:Value}:(us.toArray.push v)=(us++[v]).toArray:=by simp
section
variable {X:Cx} {tg:Expr}
theorem Jej {iter elt:Expr} {scope:Scope} {pos:Pos} {own:List Str} {cl:List (Str × Addr)} {cs:List (Nat × Str)} {wi:TI} {g:TG} {te:TE} (hc:X.calm=true) (hi:PI X tg iter wi)
  (hg:∀ fp s2 H2 C,PG (X.inc (own++cs.map (·.2)) scope cl fp s2 H2 C) tg g) (he:∀ fp s2 H2 C,PE (X.inc (own++cs.map (·.2)) scope cl fp s2 H2 C) elt te)
  (hclos:closureFor scope X.env=pure cl) (hcell:∀ y∈scope.names,y.2≠.cell) (hkind:scope.kind=.function) (hnames:∀ y∈scope.names,y.2=.local->scope.names.lookup y.1=some .local)
  (hcl:∀ x c,cl.lookup x=some c->X.env.cells.lookup x=some c) (hhas:∀ y,((relabel scope X.env).names.lookup y=some .cell\/(relabel scope X.env).names.lookup y=some .free)->∃ c,cl.lookup y=some c)
  (hcs:∀ p∈cs,X.N[p.1]?=some p.2/\X.env.scope.names.lookup p.2=some .cell/\(relabel scope X.env).names.lookup p.2=some .cell)
  (hs:∀ x,foldedSetIterable iter X.env x=pure x:=by intro _; rfl):PE X (.ListComp elt [⟨tg,iter,[],0⟩] scope pos) (tComp own.length cs wi g te):=by
 intro E s σ H Q I h;rw [eval_ListComp];refine wpAny_comprehension_free (use:=none) rfl hs hclos hkind hnames (thn (hi E s σ H _ I h) fun v s1 h1=>thn h1 fun b8 s2 h2=>?_);obtain ⟨it,fp,tn,J,H2,rfl,I2,T,S,U,W,⟨m0,w0⟩,a5⟩:=h2;have F:∀ b∈fp,b<s2.heap.objs.size:=fun b d=>by
  obtain ⟨o,e,_⟩:=T.obj _ _ S b d;exact Heap.lt_size e
 refine wpAny_newObj_type (wpAny_newFunctionEnv hcell (by intro y hy; simp at hy) (fun h4 l k=>?_) hkind);dsimp only at l k ⊢;generalize hH3:s2.heap.push { cls:=.type "list",dict:=none,data:=.seq ([]:List Value).toArray }=H3 at l k ⊢;have a9:H3.objs.size=s2.heap.objs.size+1:=by rw [<- hH3,Heap.size_push]
 have hC:s2.heap.objs.size<=H3.objs.size:=by ac_nf
 have t:s2.heap.objs.size≠H3.objs.size:=by ac_nf
 have V:∀ b o,s2.heap.get? b=some o->h4.get? b=some o:=fun b o e=>k.extBut b o (by have:=Heap.lt_size e; exact Nat.ne_of_lt (Nat.lt_of_lt_of_le this hC)) (Heap.get?_push_of_some _ (hH3 ▸ Heap.get?_push_of_some _ e));have a3:h4.get? s2.heap.objs.size=some { cls:=.type "list",data:=.seq ([]:List Value).toArray }:=k.extBut _ _ t (Heap.get?_push_of_some _ (hH3 ▸ Heap.get?_push_size _ rfl));obtain ⟨D,f⟩:∃ D,D=s2.heap.objs.size:=⟨_,rfl⟩;obtain ⟨C,b2⟩:∃ C,C=H3.objs.size:=⟨_,rfl⟩;rw [<- b2] at a9 l k hC t ⊢;rw [<- f] at F a9 hC t a3 ⊢;have G:=I2.incOk (N':=own++cs.map (·.2)) (C:=C) U (fun b d=>by rw [<- f]; exact F b d) hkind (by rw [<- f]; exact hC) hcl hhas;have I4:Inv (X.inc (own++cs.map (·.2)) scope cl fp s2 H2 C) [] (List.replicate own.length none++JaD cs σ) H2 { s2 with heap:=h4,toks:=s2.toks+([]:List (Str × Value)).length } :=
  I2.incStart (s4:={ s2 with heap:=h4,toks:=s2.toks+([]:List (Str × Value)).length }) G V rfl rfl l (by rw [<- f]; exact hC) hcl hcs
 have Dfree:H2 D=none:=I2.hok.fresh (Nat.le_of_eq f.symm);have K:∀ b o,s2.heap.get? b=some o->b≠D:=fun b o e=>by
  rw [f];exact Nat.ne_of_lt (Heap.lt_size e)
 have b5:∀ b o,s2.heap.get? b=some o->b≠C:=fun b o e=>Nat.ne_of_lt (Nat.lt_of_lt_of_le (by rw [f]; exact Heap.lt_size e) hC);have Dfs:D∉frs X.stack:=fun hm=>by
  obtain ⟨_,o,e,_⟩:=I2.stack.mem hm;exact K _ _ e rfl
 have L:∀ {σ':St} {H':Hp} {s':Shared} {us:List Value} {n:Nat} {pl:List (Addr × Obj)},Inv (X.inc (own++cs.map (·.2)) scope cl fp s2 H2 C) pl σ' H' s'->s'.heap.get? D=some { cls:=.type "list",data:=.seq us.toArray n }->H' D=none ->
   Inv (X.inc (own++cs.map (·.2)) scope cl fp s2 H2 C) [(D,{ cls:=.type "list",data:=.seq us.toArray n })] σ' H' s':=fun {σ' H' s' us n pl} J' e n'=>J'.pins_of fun p Y=>by
  rcases mem_singleton.mp Y with rfl
  exact ⟨e,n',t,Dfs,fun v z=>by cases z⟩
 have B:∀ {H':Hp} {o:Obj},(∀ b∈fp,H' b=none)->∀ b∈fp,FpOk (X.inc (own++cs.map (·.2)) scope cl fp s2 H2 C) [(D,o)] H' b:=fun {H' o} hn b d=>by
  refine ⟨hn b d,(G.exf b d).1,G.exfs b d, .inl d,(G.exf b d).2,fun p Y=>?_⟩;rcases mem_singleton.mp Y with rfl
  exact Nat.ne_of_gt (F b d)
 have P:∀ s3:Shared,s3={ s2 with heap:=h4,toks:=s2.toks+([]:List (Str × Value)).length } ->
   codeAny (model X.prog X.w) X.A (.compLoop (.ListComp elt [⟨tg,iter,[],0⟩] scope pos) 0 (.ref it) (.ref D) (compEnvC scope cl C X.env)) (compPost (model X.prog X.w) X.A X.xe none (EP X E σ Q) (.ref D) C) s3:=by
  rintro s3 rfl;refine Jhj (fun n s'=>∃ i ys us Z H',Inv (X.inc (own++cs.map (·.2)) scope cl fp s2 H2 C) [(D,{ cls:=.type "list",data:=.seq us.toArray Z })] (List.replicate own.length none++JaD cs σ) H' s'/\tn i s'.heap/\(∀ b∈fp,H' b=none)/\Vals ys us/\W i n ys H') ?_ m0
   ⟨0,[],[],0,H2,L (us:=[]) (n:=0) I4 a3 Dfree,T.keep _ _ _ S fun b d o e=>V b o e,fun b d=>(U b d).1, .nil,w0⟩
  rintro n s5 ⟨i,ys,us,Z,R,I5,a6,a4,vy,w5⟩;obtain ⟨hz,⟨a8,qn⟩ | ⟨go,a7⟩⟩:=a5 i n ys R w5
  ·refine wpAny_mono (T.done (X.inc (own++cs.map (·.2)) scope cl fp s2 H2 C) rfl rfl rfl hc i _ s5 _ R (fun _ _=>False) I5 (B a4) a6 a8) (fun r s6 z=>?_) fun _ _ z=>z;obtain ⟨rfl,I6⟩:=z;obtain ⟨m6,b7,_⟩:=id I6.loc;refine ⟨m6,b7,fun h7 b6=>?_⟩;obtain ⟨pD,pN,_,_,_⟩:=I6.pin (D,{ cls:=.type "list",data:=.seq us.toArray Z }) (by simp);have j:∀ b,b≠C->h7.get? b=s6.heap.get? b:=fun b d=>b6.2 b d;have a1:=b5;have u7:Un (frs X.stack) fp H2 R s2.heap h7:=⟨fun b o e n1 n2 n3=>(j b (a1 b o e)).trans (I6.base.keep b o e n1 n2 n3),fun b o e n1 n2 n3=>by
     obtain ⟨sl,z⟩:=I6.base.slot b o e n1 n2 n3;exact ⟨sl,(j b (a1 b o e)).trans z⟩,I6.base.free,fun b o e n1=>by
     obtain ⟨o',z⟩:=I6.base.there b o e n1;exact ⟨o',(j b (a1 b o e)).trans z⟩,I6.base.tups,I6.base.frzs,I6.base.tbls⟩
   have Cfree:R C=none:=I6.free;have a2:HOk X.prog X.w R h7:=fun a o e=>by
    refine (I6.hok a o e).stay (fun c v b0 q=>(j c ?_).trans q) (fun _ q=>q) fun _ _ q=>q;rintro rfl;rcases b0 with z | z
    ·rw [<- z] at e; rw [Cfree] at e; cases e
    ·rw [Cfree] at z; cases z
   have I7:Inv X E σ R { s6 with heap:=h7 }:=I2.call' (s':={ s6 with heap:=h7 }) I6.os u7 a2 I6.bare fun b d=>⟨(U b d).2.2.2.1,(U b d).2.1,(U b d).2.2.2.2.1,(U b d).2.2.2.2.2⟩;have I8:=I7.track (a:=D) (o:=.lst ys) pN (Heap.get?_none_of_le (by rw [f]; exact I2.sz)) (by rw [f]; exact Nat.ne_of_gt I2.lt) (fun x c e z=>by
     obtain ⟨v,o,ho,_⟩:=I2.cell x c e;exact K _ _ ho z) (fun p Y z=>K _ _ (I2.pin p Y).1 z) ⟨hz,us,Z,vy,(j D t).trans pD⟩
   exact ⟨.ref D,_,I8,rfl,qn D pN⟩
  ·refine wpAny_mono (T.item (X.inc (own++cs.map (·.2)) scope cl fp s2 H2 C) rfl rfl rfl hc i _ s5 _ R (fun _ _=>False) I5 (B a4) a6 go) (fun r s6 z=>?_) fun _ _ z=>z;obtain ⟨u,rfl,z⟩:=z;refine wpAny_mono z (fun _ s7 ⟨x,H7,I7,r7,y7,a0,b1⟩=>?_) fun _ _ z=>z;have I7':=I7.pinned (B b1) (T.obj _ _ a0);refine wpAny_mono (hg fp s2 H2 C _ s7 _ H7 x u _ I7' r7 (a7 x H7 y7)) (fun _ s8 ⟨σ8,H8,I8,q8⟩=>?_) fun _ _ z=>z;refine wpAny_mono (he fp s2 H2 C _ s8 σ8 H8 _ I8 q8) (fun uy s9 ⟨y,H9,I9,r9,m',b3,w9⟩=>?_) fun _ _ z=>z;obtain ⟨pD,pN,_,_,_⟩:=I9.pin (D,{ cls:=.type "list",data:=.seq us.toArray Z }) (by simp);refine append_at (its:=us.toArray) (n:=Z) pD (fun b4 O M=>?_) (by rw [size_toArray, <- vy.length]; exact hz);have m:∀ b∈fp, ∀ o,s7.heap.get? b=some o->s9.heap.get? b=some o/\H9 b=none:=fun b d o e=>by
    have z:=I9.pin (b,o) (mem_append_right _ (mem_append_right _ (Jcd d e)));exact ⟨z.1,z.2.1⟩
   have I9':Inv (X.inc (own++cs.map (·.2)) scope cl fp s2 H2 C) [] (List.replicate own.length none++JaD cs σ) H9 s9:=I2.incAgain I9 U hcl hcs;have I10:Inv (X.inc (own++cs.map (·.2)) scope cl fp s2 H2 C) [] (List.replicate own.length none++JaD cs σ) H9 { s9 with heap:=b4 }:=I9'.turned (it:=D) (t':=s9.toks) (fun b o d e=>(O.2 b d).trans e) pN t (.inr (Nat.le_of_eq f.symm)) (fun x c e z=>by
     obtain ⟨v,o,ho,_⟩:=I2.cell x c (hcl x c e);exact K _ _ ho z) fun p Y=>by simp at Y
   rw [lstP] at M;refine ⟨m',b3,i+1,ys++[y],us++[uy],Z+1,H9,L I10 M pN,T.keep _ _ _ a0 fun b d o e=>?_,fun b d=>?_,vy.append (.cons r9 .nil),w9⟩
   ·exact (O.2 b (Nat.ne_of_lt (F b d))).trans (m b d o e).1
   ·obtain ⟨o,e,_⟩:=T.obj _ _ a0 b d;exact (m b d o e).2
 exact codeAny_compStart_list (P _ rfl) (T.self _ 0 _ _ _ (T.keep _ _ _ S fun b d o e=>V b o e) (P _ rfl))
end
section
variable {X:Cx}
def rInU (K:W.Frag):R2:=fun x y H Q=>match x,y with
 | .str i, .str j=>Q (.bl (!(Builtin.Str.occurrences j i 0 j.length 1).isEmpty)) H
 | x,y=>rIn K false x y H Q
theorem Jlv:OpR X (compareOp .In) (rInU X.K):=fun a s σ H x y v u Q I b c q=>by
 unfold rInU at q;split at q
 ·exact Jil a s σ H _ _ v u Q I b c ⟨_,_,rfl,rfl,q⟩
 ·exact Jik a s σ H _ _ v u Q I b c q
theorem JjP {K:W.Frag} (hK:X.K=K):OpR X (compareOp .In) (rInU K):=hK ▸ Jlv
theorem ix_UK {K:W.Frag} (hK:X.K=K):IxR X (rIxU K):=hK ▸ ix_U
theorem Jlu {K:W.Frag} (hK:X.K=K) (hu:X.A.units+64<cLine):OpR X (compareOp .Eq) (rEqU K):=hK ▸ JbP hu
theorem Jlx {K:W.Frag} (hK:X.K=K) (hu:X.A.units+64<cLine):OpR X (compareOp .NotEq) (rNeU K):=hK ▸ Jce hu
theorem y5dy {K:W.Frag} {i j:Str} {H:Hp} {Q:VK}:rInU K (.str i) (.str j) H Q=Q (.bl (!(Builtin.Str.occurrences j i 0 j.length 1).isEmpty)) H:=rfl
theorem all_range:∀ bs:List Bool,(List.range bs.length).all (fun i=>bs.getD i false)=bs.all id:=fun bs=>by
 rw [Bool.eq_iff_iff];simp only [List.all_eq_true,List.mem_range,id];constructor
 ·intro h x b;obtain ⟨i,a,rfl⟩:=List.mem_iff_getElem.mp b;have:=h i a;simpa [List.getD_eq_getElem?_getD,a] using this
 ·intro h i a;have:=h bs[i] (List.getElem_mem a);simpa [List.getD_eq_getElem?_getD,a] using this
def rAll (K:W.Frag):List V->Hp->VK->Prop:=fun xs H Q=>∃ (p:Addr) (bs:List Bool),xs=[.ref p]/\SqL K H p (bs.map V.bl)/\Q (.bl (bs.all id)) H
theorem JhL (hc:X.calm=true):CallR X (.builtin "all") (rAll X.K):=fun j s σ H M N Q I r q=>by
 obtain ⟨p,c,rfl,y,q⟩:=q;obtain ⟨a,f,g,J⟩:=I.list y;obtain ⟨u,rfl,w⟩:=vals1 r;cases (show u=Value.ref p from w);refine call_all_walk (wpAny_pyIter_list g.isList ?_);have h:p<s.heap.objs.size:=by
  obtain ⟨_,e,_⟩:=g.isList;exact Heap.lt_size e
 refine ⟨s.heap.objs.size,_,_,a.toArray.size,_,_,fun i=>c.getD i false,rfl,Walks.list (by show X.A.handled=none; exact I.ok.hd hc) s.heap.objs.size p (Nat.ne_of_lt h) a.toArray,⟨⟨_,Heap.get?_push_size _ rfl,rfl,rfl⟩,g.isList.push _⟩,?_,?_⟩
 ·intro i v F Q' E' o t;have d:a[i]?=some v:=by simpa using o
  have m:i<c.length:=by
   obtain ⟨E,_⟩:=List.getElem?_eq_some_iff.mp d;have l:=f.length;rw [length_map] at l;ac_nf
  obtain ⟨L,n,D⟩:=f.get (i:=i) (x:=.bl c[i]) (by simp [m]);rw [d] at n;cases n;cases (show v=Value.bool c[i] from D);refine wpAny_truthy_bool ?_;simpa [List.getD_eq_getElem?_getD,m] using t
 ·intro G z k;have l:=f.length;rw [length_map] at l;have B:(List.range a.toArray.size).all (fun i=>c.getD i false)=c.all id:=by rw [size_toArray, <- l]; exact all_range c
  rw [B];exact ⟨.bl _,H,I.kept (t':=z) fun b C e=>k b C (by have:=Heap.lt_size e; simp; exact Nat.ne_of_lt this) (Heap.get?_push_of_some _ e),rfl,q⟩
end
theorem hcl0 {X:Cx}:∀ (x:Str) (c:Addr),([]:List (Str × Addr)).lookup x=some c->X.env.cells.lookup x=some c:=fun _ _ h=>by simp at h
theorem hcs0 {X:Cx} {scope:Scope}:∀ p∈([]:List (Nat × Str)),X.N[p.1]?=some p.2/\X.env.scope.names.lookup p.2=some .cell/\(relabel scope X.env).names.lookup p.2=some .cell:=fun _ h=>by simp at h
theorem hhas0 {X:Cx} {scope:Scope} (h:scope.names.all (fun p=>p.2 != .free&&p.2 != .cell)=true):∀ y,((relabel scope X.env).names.lookup y=some .cell\/(relabel scope X.env).names.lookup y=some .free)->∃ c,([]:List (Str × Addr)).lookup y=some c:=fun y a=>by
 exfalso;have g:=List.all_eq_true.mp h;have f:∀ k,(relabel scope X.env).names.lookup y=some k->k≠.cell/\k≠.free:=fun k e=>by
  have m:=PySem.mem_of_lookup e;obtain ⟨⟨n,d⟩,j,i⟩:=mem_map.mp (show (y,k)∈scope.names.map _ from m);have z:=g _ j;simp only [bne_iff_ne,ne_eq,Bool.and_eq_true] at z;have b:(if (d == NameKind.free&&X.env.scope.kind == .function&&X.env.kindOf n == some .cell)=true then (n,NameKind.cell) else (n,d))=(y,k):=i;split at b
  ·rename_i c;rw [Bool.and_eq_true,Bool.and_eq_true] at c;exact absurd (beq_iff_eq.mp c.1.1) z.1
  ·cases b;exact ⟨z.2,z.1⟩
 rcases a with a | a
 ·exact (f _ a).1 rfl
 ·exact (f _ a).2 rfl
def tyD:D->String
 | .non=>"NoneType"
 | .bl _=>"bool"
 | .int _=>"int"
 | .str _=>"str"
 | .tup _=>"tuple"
 | .lst _=>"list"
theorem Rep.tyN {K:W.Frag} {H:Hp} {d:D} {x:V} (h:Rep K H d x):L2.tyN K H x (tyD d):=by
 cases d <;> simp only [Rep] at h
 ·subst h; rfl
 ·subst h; rfl
 ·subst h; rfl
 ·subst h; rfl
 ·obtain ⟨a,b,rfl,q,_⟩:=h; exact .inr ⟨rfl,b,q⟩
 ·obtain ⟨a,b,rfl,q,_⟩:=h; exact .inl ⟨rfl,b,q⟩
mutual
def szD:D->Prop
 | .int i=>Mth.Sz 4000 i
 | .str s=>s.length<=1000
 | .tup xs=>szL xs
 | .lst xs=>szL xs
 | _=>True
def szL:List D->Prop
 | []=>True
 | x::xs=>szD x/\szL xs
end
def lowB (c:Nat):Bool:=decide (97<=c/\c<=122)
def nameS (s:Str):Bool:=(decide (1<=s.length)&&decide (s.length<=8))&&s.cps.toList.all lowB
def nameB:D->Bool
 | .str s=>nameS s
 | _=>false
def Jci:D->Bool
 | .int _=>true
 | _=>false
def fracB:D->Bool
 | .tup [.int a, .int b]=>decide (1<=b)&&decide (Mth.g a b=1)
 | _=>false
def JcS:D->Bool
 | .non=>true
 | d=>fracB d
def JcT (d e:D):Bool:=nameB d&&nameB e&&!eqD d e
def lessD:D->D->Bool
 | .tup [.int a, .int b], .tup [.int c, .int d]=>decide (a*d<c*b)
 | _,_=>false
def JeU (l g:D):Bool:=JcS l&&JcS g&&!lessD g l
def tieB:D->Bool
 | .tup [n,s,e,l,g]=>nameB n&&JcT s e&&JeU l g
 | _=>false
theorem Jho:(Str.ofString "abcdefghijklmnopqrstuvwxyz").cps.toList=List.range' 97 26:=by decide
theorem Jhm (c:Nat):(!(Builtin.Str.occurrences (Str.ofString "abcdefghijklmnopqrstuvwxyz") ⟨#[c]⟩ 0 (Str.ofString "abcdefghijklmnopqrstuvwxyz").length 1).isEmpty)=lowB c:=by
 rw [StrLaws.found_one,Jho];unfold lowB
 congr 1
 rw [List.mem_range'];refine propext ⟨fun ⟨i,a,e⟩=>by ac_nf,fun h=>⟨c-97,by ac_nf,by ac_nf⟩⟩
structure KCal (P:Program) (w:World) (K:W.Frag) (mg:Str->Option Value) (base:Heap) (k:Nat) (x:Str) (C:Addr) (ps:List Str) (sp:Sp):Prop where
 ex:∃ (f:Addr) (fd:FuncData),FnOk P w K mg base (CX1 P w) k f fd ps sp/\mg x=some (.ref C)/\Mk K C f/\Binds K fd ps []
structure MCal (P:Program) (w:World) (K:W.Frag) (mg:Str->Option Value) (base:Heap) (k:Nat) (m:Str) (Cs:Addr->Prop) (ps:List Str) (sp:Sp):Prop where
 ex:∃ (f:Addr) (fd:FuncData),FnOk P w K mg base (CX1 P w) k f fd ps sp/\(∀ C,Cs C->Cls K C/\Meth K C m f)/\W.keepIn K (.ref f)=true/\Binds K fd ps []
def JiQ (Cs:Addr->Prop) (m:Str) (sp:Sp) (E:XK) (ta:TE) (t:TA):TE:=fun σ H Q=>ta σ H fun x H1=>∃ a C dx fs,x=.ref a/\H1 a=some (.ins C dx fs)/\Cs C/\fs.lookup m=none/\t σ H1 fun vs H2=>sp (x::vs) H2 Q E
section
variable {X:Cx} {k k':Nat} {x mn:Str} {C:Addr} {Cs:Addr->Prop} {ps:List Str} {sp:Sp} {E:XK} {p pos apos:Pos} {e o:Expr} {es:List Expr} {t:TA} {ta:TE}
theorem KCal.ev (G:KCal X.prog X.w X.K X.mg X.base k x C ps sp) (hr:Room k' X.A) (hk:k+1<=k') (hg:Gl X x) (hx:JbZ (CX1 X.prog X.w) X E) (ha:PA X (e::es) t)
  (hdb:(x == ("__debug__" : Str))=false:=by decide) (he:starEach (e::es) X.env=(false,eval e X.env)::starEach es X.env:=by rfl) (hpl:(backTo pos (starEach es X.env)).any (·.1)=false:=by rfl) :
  PE X (.Call (.Name x p) (e::es) [] pos) (tMake C sp [] E t):=by
 obtain ⟨f,c,F,a,M,b⟩:=G.ex;exact JkL M F (hr.mono hk) hg a b .nil hx ha hdb he hpl
theorem MCal.m {pl:Sem Bool} (G:MCal X.prog X.w X.K X.mg X.base k mn Cs ps sp) (hr:Room k' X.A) (hk:k<=k') (hx:JbZ (CX1 X.prog X.w) X E) (ho:PE X o ta) (ha:PA X (e::es) t)
  (hst:starEach (e::es) X.env=(false,eval e X.env)::starEach es X.env:=by rfl) (hpl:(backTo pos (starEach es X.env)).any (·.1)=false:=by rfl)
  (ht:eval (.Call (.Attribute o mn apos) (e::es) [] pos) X.env=(do
   let ov <- eval o X.env
   standAt apos.atName
   let (f,first) <- holding [ov] (getMethod ov mn pl)
   callWith pos f first (backTo pos (starEach (e::es) X.env)) (backToKw pos (keywordEach [] X.env))):=by rfl) :
  PE X (.Call (.Attribute o mn apos) (e::es) [] pos) (JiQ Cs mn sp E ta t):=by
 obtain ⟨f,D,F,c,n,i⟩:=G.ex;intro b s σ H Q I h;refine W.methodCall_KW (pl:=pl) (thn (ho b s σ H _ I h) fun u z ⟨x,y,I1,j,a,C,L,J,g,p,d,l,q⟩=>?_) ht;subst g;obtain rfl:u=Value.ref a:=j;refine JeL I1 p (c C d).1 (c C d).2 l ?_;refine W.callWith_K (first:=[.ref a]) (h₀:=X.base) I.ok.mod.kin n (thn (ha pos b z σ y _ I1 q) fun us B ⟨vs,M,I2,r,v⟩=>⟨I2.kIn,?_⟩) hst hpl;exact Jg8 (us:=.ref a::us) (vs:=.ref a::vs) F (hr.mono hk) i .nil hx I2 (.cons rfl r) (by simpa using v)
theorem MCal.m0 {pl:Sem Bool} (G:MCal X.prog X.w X.K X.mg X.base k mn Cs ps sp) (hr:Room k' X.A) (hk:k<=k') (hx:JbZ (CX1 X.prog X.w) X E) (ho:PE X o ta)
  (ht:eval (.Call (.Attribute o mn apos) [] [] pos) X.env=(do
   let ov <- eval o X.env
   standAt apos.atName
   let (f,first) <- holding [ov] (getMethod ov mn pl)
   callWith pos f first (backTo pos (starEach [] X.env)) (backToKw pos (keywordEach [] X.env))):=by rfl) :
  PE X (.Call (.Attribute o mn apos) [] [] pos) (JiQ Cs mn sp E ta tNil):=by
 obtain ⟨f,p,F,c,j,g⟩:=G.ex;intro b s σ H Q I h;refine W.methodCall_KW (pl:=pl) (thn (ho b s σ H _ I h) fun u v ⟨x,n,I1,i,a,C,t,r,e,m,d,l,q⟩=>?_) ht;subst e;obtain rfl:u=Value.ref a:=i;refine JeL I1 m (c C d).1 (c C d).2 l ?_;exact W.callWith_K0 (first:=[.ref a]) I1.kIn j (Jg8 (us:=[.ref a]) (vs:=[.ref a]) F (hr.mono hk) g .nil hx I1 (.cons rfl .nil) (show sp ([.ref a]++[]) n Q E from q))
def rMulS:R2:=fun x y H Q=>match x,y with
 | .str z, .int n=>0<n/\n<1000/\z.length<=1000/\∀ z':Str,z'.cps.toList=(List.replicate n.toNat z.cps.toList).flatten->Q (.str z') H
 | x,y=>rMulU x y H Q
theorem JeW:∀ (l:List (Array Nat)) (acc:Array Nat),(l.foldl (· ++ ·) acc).toList=acc.toList++(l.map (·.toList)).flatten
 | [],acc=>by simp
 | x::l,acc=>by
  rw [List.foldl_cons,JeW l];simp
theorem Jim:OpR X (binaryOp .Mult) rMulS:=fun a s σ H x y v u Q I d b q=>by
 unfold rMulS at q;split at q
 ·rename_i z n;obtain ⟨h,k,f,q⟩:=q;obtain ⟨t,rfl⟩:=d;obtain ⟨j,rfl⟩:=b;have i:z.cps.size=z.length:=rfl;have g:z.length*n.toNat<=1000*1000:=Nat.mul_le_mul f ∅;refine PySem.P.mul_str (by simp; ac_nf) (fun _ _=>?_) (fun _ _=>?_) ?_
  ·have : (1000:Int)<=(2 ^ 63-1)/n:=by
    rw [Int.le_ediv_iff_mul_le h];ac_nf
   ac_nf
  ·unfold Builtin.Str.tooLong;simp;have : (1000*1000:Nat)<=sizeLine:=by decide
   ac_nf
  ·rw [if_neg ∅];split
   ·rename_i c;refine ⟨.str z,H,I,⟨_,rfl⟩,q z ?_⟩;rcases Bool.or_eq_true _ _ |>.mp c with c | c
    ·obtain rfl:n=1:=by simpa using c
     simp
    ·have e:z.cps.toList=[]:=by
      have : z.length=0:=by simpa using c
      exact List.eq_nil_of_length_eq_zero (by rw [Array.length_toList]; exact this)
     rw [e];simp
   ·refine ⟨?_, .str _,H,I.tok _,⟨_,rfl⟩,q _ ?_⟩
    ·show (Array.size _)<=sizeLine;rw [<- Array.length_toList,JeW];simp;have : (1000*1000:Nat)<=sizeLine:=by decide
     rw [Nat.mul_comm,i];ac_nf
    ·rw [JeW];simp
 ·exact JkG a s σ H _ _ v u Q I d b q
def rIsN:R2:=fun x y H Q=>y=.non/\Q (.bl (decide (x=.non))) H
def rNotN:R2:=fun x y H Q=>y=.non/\Q (.bl (!decide (x=.non))) H
theorem Jeg:OpR X (compareOp .Is) rIsN:=Jlw
theorem Jfe:OpR X (compareOp .IsNot) rNotN:=JkH
def JlG (K:W.Frag):List V->Hp->VK->Prop:=fun xs H Q=>∃ p ys,xs=[.ref p]/\(SqL K H p ys\/SqT K H p ys)/\∀ l,H l=none->Q (.ref l) (upd H l (.lst ys))
theorem JeF:CallR X (.type "list") (JlG X.K):=JfE
end
section
variable {K:W.Frag} {H:Hp} {Q:VK}
theorem y60y {x:V}:rIsN x .non H Q=Q (.bl (decide (x=.non))) H:=by simp [rIsN]
theorem y76y {x:V}:rNotN x .non H Q=Q (.bl (!decide (x=.non))) H:=by simp [rNotN]
theorem y66y {C:Addr} {sp:Sp} {dvs:List V} {E:XK} {t:TA} {σ : St}:tMake C sp dvs E t σ H Q=t σ H fun vs H1=>∀ x dx,H1 x=none->H1 dx=none->dx≠x->sp (.ref x::(vs++dvs)) (upd (upd H1 dx (.own x)) x (.ins C dx [])) (fun v H2=>v=.non/\Q (.ref x) H2) E:=rfl
theorem y67y {Cs:Addr->Prop} {mn:Str} {sp:Sp} {E:XK} {ta:TE} {t:TA} {σ : St}:JiQ Cs mn sp E ta t σ H Q=ta σ H fun x H1=>∃ a C dx fs,x=.ref a/\H1 a=some (.ins C dx fs)/\Cs C/\fs.lookup mn=none/\t σ H1 fun vs H2=>sp (x::vs) H2 Q E:=rfl
theorem y4dy {ta:TE} {f:Str} {σ : St}:tFld K ta f σ H Q=ta σ H fun x H1=>∃ a C dx fs v,x=.ref a/\H1 a=some (.ins C dx fs)/\Cls K C/\JaU K C f/\fs.lookup f=some v/\Q v H1:=rfl
theorem y84y {ta tv:TE} {f:Str} {σ : St} {En:Ends}:sFld K ta tv f En σ H=tv σ H fun y H1=>ta σ H1 fun x H2=>∃ a C dx fs,x=.ref a/\H2 a=some (.ins C dx fs)/\Cls K C/\JaU K C f/\fs.length<1000/\En.nx σ (upd H2 a (.ins C dx (putF f y fs))):=rfl
theorem y2cy {T:String} {r:V->List V->Hp->VK->Prop} {to:TE} {t:TA} {σ : St}:tBM K T r to t σ H Q=to σ H fun x H1=>tyV K T x H1/\t σ H1 fun vs H2=>r x vs H2 Q:=rfl
theorem y57y {g:TG} {gs:TGs} {v:V} {r:List V} {σ : St} {R:St->Hp->Prop}:gCons g gs (v::r) σ H R=g v σ H fun σ' H'=>gs r σ' H' R:=by
 unfold gCons;refine propext ⟨fun ⟨a,b,e,h⟩=>?_,fun h=>⟨v,r,rfl,h⟩⟩;cases e;exact h
theorem y59y {σ : St} {R:St->Hp->Prop}:gNil [] σ H R=R σ H:=by unfold gNil; simp
theorem FrV.of_rep {x:V} {a b:Int} (h:Rep K H (.tup [.int a, .int b]) x):FrV K H x a b:=by
 simp only [Rep,RepL] at h;obtain ⟨p,d,rfl,q,v,r,rfl,rfl,c,e,rfl,rfl,rfl⟩:=h;exact ⟨p,rfl,q⟩
theorem Jds {d:D} (h:fracB d=true):∃ a b,d=.tup [.int a, .int b]/\1<=b/\Mth.g a b=1:=by
 unfold fracB at h;split at h
 ·rw [Bool.and_eq_true] at h;exact ⟨_,_,rfl,by simpa using h.1,by simpa using h.2⟩
 ·cases h
theorem JeP {d:D} (h:nameB d=true):∃ z,d=.str z/\nameS z=true:=by
 cases d <;> first | exact ⟨_,rfl,h⟩ | (simp [nameB] at h)
theorem Rep.str {d:Str} {x:V} (h:Rep K H (.str d) x):x=.str d:=by simpa only [Rep] using h
def nonD:D->Bool
 | .non=>true
 | _=>false
theorem Jif {d:D} (h:d≠.non):nonD d=false:=by cases d <;> first | rfl | exact absurd rfl h
theorem Rep.nonV {d:D} {x:V} (hx:Rep K H d x):decide (x=.non)=nonD d:=by
 cases d <;> simp only [Rep] at hx
 ·subst hx; rfl
 ·subst hx; rfl
 ·subst hx; rfl
 ·subst hx; rfl
 ·obtain ⟨a,b,rfl,_⟩:=hx; rfl
 ·obtain ⟨a,b,rfl,_⟩:=hx; rfl
theorem putE {H':Hp} {l:Addr} {o:HO} (e:upd H l o=H'):H' l=some o:=by rw [<- e,Jak]
end
section
variable {En:Ends} {σ : St} {H:Hp} {Q:VK} {ta tb te tc td:TE} {K:W.Frag}
end
def Jbt (cells:List (Str × Addr)):List (Str × NameKind)->List (Str × Addr)->List (Str × Addr)
 | [],acc=>acc
 | (n,k)::r,acc=>Jbt cells r (if k == .free then (n,(cells.lookup n).getD 0)::acc else acc)
theorem Jgc {env:Env}:∀ (names:List (Str × NameKind)) (acc:List (Str × Addr)),(∀ p∈names,p.2=.free->∃ c,env.cells.lookup p.1=some c) ->
  (forIn names acc fun (p:Str × NameKind) cs=>(if p.2 == .free then do let c <- cellOf env p.1; pure (ForInStep.yield ((p.1,c)::cs)) else pure (ForInStep.yield cs):Sem (ForInStep (List (Str × Addr)))))=(pure (Jbt env.cells names acc):Sem (List (Str × Addr)))
 | [],acc,_=>by simp [Jbt]
 | (n,k)::r,acc,h=>by
  rw [List.forIn_cons];by_cases c:(k == .free)=true
  ·obtain ⟨a,ha⟩:=h (n,k) mem_cons_self (beq_iff_eq.mp c);have e:cellOf env n=pure a:=by unfold cellOf; rw [ha]
   simp only [c,if_true,e,pure_bind];have:=Jgc (env:=env) r ((n,a)::acc) fun p hp=>h p (mem_cons_of_mem _ hp);simp only [Jbt,c,if_true,ha,Option.getD_some];exact this
  ·have c':(k == .free)=false:=by simpa using c
   simp only [c',Bool.false_eq_true,if_false,pure_bind];have:=Jgc (env:=env) r acc fun p hp=>h p (mem_cons_of_mem _ hp);simp only [Jbt,c',Bool.false_eq_true,if_false];exact this
theorem Jgb {scope:Scope} {env:Env} (h:∀ p∈scope.names,p.2=.free->∃ c,env.cells.lookup p.1=some c):closureFor scope env=pure (Jbt env.cells scope.names []):=by
 have:=Jgc (env:=env) scope.names [] h;unfold closureFor;simp only [pure_bind];refine Eq.trans ?_ (congrArg (fun m:Sem (List (Str × Addr))=>m >>= pure) this |>.trans (by simp));first | rfl | (congr 1)
theorem JcO {cells:List (Str × Addr)}:∀ (names:List (Str × NameKind)) (acc:List (Str × Addr)),(∀ x c,acc.lookup x=some c->cells.lookup x=some c)->(∀ p∈names,p.2=.free->∃ c,cells.lookup p.1=some c) ->
  ∀ x c,(Jbt cells names acc).lookup x=some c->cells.lookup x=some c
 | [],acc,ha,_,x,c,h=>ha x c h
 | (n,k)::r,acc,ha,hf,x,c,h=>by
  simp only [Jbt] at h;refine JcO r _ ?_ (fun p hp=>hf p (mem_cons_of_mem _ hp)) x c h;intro y d hy;by_cases f:(k == .free)=true
  ·rw [if_pos f] at hy;obtain ⟨a,e⟩:=hf (n,k) mem_cons_self (beq_iff_eq.mp f);rw [List.lookup_cons] at hy;by_cases q:(y == n)=true
   ·rw [q] at hy;have q':y=n:=beq_iff_eq.mp q;subst q';have e':cells.lookup y=some a:=e;rw [e'] at hy ⊢;simpa using hy
   ·have q':(y == n)=false:=by simpa using q
    rw [q'] at hy;exact ha y d hy
  ·rw [if_neg f] at hy;exact ha y d hy
theorem JcN {cells:List (Str × Addr)}:∀ (names:List (Str × NameKind)) (acc:List (Str × Addr)) (y:Str),((∃ c,acc.lookup y=some c)\/(y,NameKind.free)∈names)->∃ c,(Jbt cells names acc).lookup y=some c
 | [],acc,y,h=>by
  rcases h with h | h
  ·exact h
  ·simp at h
 | (n,k)::r,acc,y,h=>by
  simp only [Jbt];refine JcN r _ y ?_;rcases h with ⟨c,h⟩ | h
  ·refine .inl ?_;split
   ·rw [List.lookup_cons];cases (y == n)
    ·exact ⟨c,h⟩
    ·exact ⟨_,rfl⟩
   ·exact ⟨c,h⟩
  ·rcases mem_cons.mp h with e | h
   ·cases e;refine .inl ?_;rw [if_pos ⋯,List.lookup_cons];simp
   ·exact .inr h
section
variable {X:Cx} {tg:Expr}
theorem Jjm {iter elt:Expr} {scope:Scope} {pos:Pos} {own:List Str} {cs:List (Nat × Str)} {wi:TI} {g:TG} {te:TE} (hc:X.calm=true) (hi:PI X tg iter wi)
  (hg:∀ fp s2 H2 C,PG (X.inc (own++cs.map (·.2)) scope (Jbt X.env.cells scope.names []) fp s2 H2 C) tg g) (he:∀ fp s2 H2 C,PE (X.inc (own++cs.map (·.2)) scope (Jbt X.env.cells scope.names []) fp s2 H2 C) elt te)
  (hfree:∀ p∈scope.names,p.2=.free->X.env.scope.names.lookup p.1=some .cell) (hcell:∀ y∈scope.names,y.2≠.cell) (hkind:scope.kind=.function) (hnames:∀ y∈scope.names,y.2=.local->scope.names.lookup y.1=some .local)
  (hcs:∀ p∈cs,X.N[p.1]?=some p.2/\X.env.scope.names.lookup p.2=some .cell/\(relabel scope X.env).names.lookup p.2=some .cell)
  (hs:∀ x,foldedSetIterable iter X.env x=pure x:=by intro _; rfl):PE X (.ListComp elt [⟨tg,iter,[],0⟩] scope pos) (tComp own.length cs wi g te):=by
 intro a s σ H Q I h;have o:∀ p∈scope.names,p.2=.free->∃ c,X.env.cells.lookup p.1=some c:=fun p r f=>I.ok.has p.1 (.inl (hfree p r f));refine Jej hc hi hg he (Jgb o) hcell hkind hnames (JcO scope.names [] (fun _ _ z=>by simp at z) o) (fun y b=>JcN scope.names [] y (.inr ?_)) hcs hs a s σ H Q I h;have j:∀ k,(k=.cell\/k=.free)->(relabel scope X.env).names.lookup y=some k->(y,NameKind.free)∈scope.names:=fun k f e=>by
  have m:=PySem.mem_of_lookup e;obtain ⟨⟨n,l⟩,d,q⟩:=mem_map.mp (show (y,k)∈scope.names.map _ from m);have i:(if (l == NameKind.free&&X.env.scope.kind == .function&&X.env.kindOf n == some .cell)=true then (n,NameKind.cell) else (n,l))=(y,k):=q;split at i
  ·rename_i c;rw [Bool.and_eq_true,Bool.and_eq_true] at c;have:=beq_iff_eq.mp c.1.1;subst this;cases i;exact d
  ·cases i;rcases f with rfl | rfl
   ·exact absurd rfl (hcell _ d)
   ·exact d
 rcases b with b | b
 ·exact j _ (.inl rfl) b
 ·exact j _ (.inr rfl) b
theorem JdF {scope sc:Scope} (h:scope.names.all (fun p=>p.2 != .free||(sc.names.lookup p.1 == some .cell))=true):∀ p∈scope.names,p.2=.free->sc.names.lookup p.1=some .cell:=fun p b a=>by
 have z:=List.all_eq_true.mp h p b;rw [a] at z;simpa using z
end
theorem hcs1 {X:Cx} {scope:Scope} {i:Nat} {x:Str} (a:X.N[i]?=some x) (b:X.env.scope.names.lookup x=some .cell) (c:(relabel scope X.env).names.lookup x=some .cell) :
  ∀ p∈[(i,x)],X.N[p.1]?=some p.2/\X.env.scope.names.lookup p.2=some .cell/\(relabel scope X.env).names.lookup p.2=some .cell:=fun p d=>by
 rcases mem_singleton.mp d with rfl
 exact ⟨a,b,c⟩
theorem hcs2 {X:Cx} {scope:Scope} {i j:Nat} {x y:Str} (a:X.N[i]?=some x) (b:X.env.scope.names.lookup x=some .cell) (c:(relabel scope X.env).names.lookup x=some .cell)
  (a':X.N[j]?=some y) (b':X.env.scope.names.lookup y=some .cell) (c':(relabel scope X.env).names.lookup y=some .cell) :
  ∀ p∈[(i,x),(j,y)],X.N[p.1]?=some p.2/\X.env.scope.names.lookup p.2=some .cell/\(relabel scope X.env).names.lookup p.2=some .cell:=fun p d=>by
 rcases mem_cons.mp d with rfl | d
 ·exact ⟨a,b,c⟩
 ·rcases mem_singleton.mp d with rfl
  exact ⟨a',b',c'⟩
section
variable {X:Cx} {tg:Expr}
theorem JhY {X:Cx} {scope:Scope} (hcell:∀ y∈scope.names,y.2≠.cell) {y:Str} (hy:(relabel scope X.env).names.lookup y=some .cell\/(relabel scope X.env).names.lookup y=some .free):(y,NameKind.free)∈scope.names:=by
 have f:∀ k,(k=.cell\/k=.free)->(relabel scope X.env).names.lookup y=some k->(y,NameKind.free)∈scope.names:=fun k g e=>by
  have m:=PySem.mem_of_lookup e;obtain ⟨⟨n,d⟩,a,h⟩:=mem_map.mp (show (y,k)∈scope.names.map _ from m);have b:(if (d == NameKind.free&&X.env.scope.kind == .function&&X.env.kindOf n == some .cell)=true then (n,NameKind.cell) else (n,d))=(y,k):=h;split at b
  ·rename_i c;rw [Bool.and_eq_true,Bool.and_eq_true] at c;have:=beq_iff_eq.mp c.1.1;subst this;cases b;exact a
  ·cases b;rcases g with rfl | rfl
   ·exact absurd rfl (hcell _ a)
   ·exact a
 rcases hy with hy | hy
 ·exact f _ (.inl rfl) hy
 ·exact f _ (.inr rfl) hy
end
section
variable {prog:Program} {w:World} {A:Around} {E:Value->Shared->Prop} {R:Result->Shared->Prop} {s:Shared}
theorem Jgd {elt target iter tst:Expr} {scope:Scope} {pos:Pos} {it acc:Value} {env:Env} (J:Nat->Shared->Prop)
  (turn:∀ n s,J n s->wpAny (model prog w) A (pyNext it) (fun r s1=>match r with
   | none=>R (.ok .next) s1
   | some v=>wpAny (model prog w) A (letOwnedTupleGo target it v) (fun _ s2=>wpAny (model prog w) A (assign target env v) (fun _ s3=>wpAny (model prog w) A (isTrue tst env (eval tst env)) (fun b s3'=>if b=true then wpAny (model prog w) A (eval elt env) (fun x s4=>
     wpAny (model prog w) A (call (.builtin "list.append") [acc,x]) (fun _ s5=>∃ m,m<n/\J m s5) (fun _ _=>False) s4) (fun _ _=>False) s3' else ∃ m,m<n/\J m s3') (fun _ _=>False) s3) (fun _ _=>False) s2) (fun _ _=>False) s1) (fun _ _=>False) s) (n:Nat) (h:J n s) :
  codeAny (model prog w) A (.compLoop (.ListComp elt [⟨target,iter,[tst],0⟩] scope pos) 0 it acc env) R s:=by
 refine codeAny_loop rfl J (fun n s i=>?_) n h;show wpAny _ A ((compTurn (.ListComp elt [⟨target,iter,[tst],0⟩] scope pos) 0 it acc env).onRaise (fun y=>do noteFrame y env; theTreesLotGoes y)) _ _ s
 (refine wpAny_noted ?_; rw [compTurn_list])
 refine wpAny_bind (wpAny_standAt (wpAny_bind (wpAny_mono (turn n s i) (fun r s1 c=>?_) fun _ _ z=>z.elim)));cases r with
 | none=>exact wpAny_pure c
 | some v=>
  refine wpAny_bind (wpAny_mono c (fun _ s2 g=>wpAny_bind (wpAny_mono g (fun _ s3 f=>?_) fun _ _ z=>z.elim)) fun _ _ z=>z.elim);refine wpAny_bind (wpAny_tests_one (wpAny_mono f (fun b s3' a=>?_) fun _ _ z=>z.elim));cases b with
  | true=>exact wpAny_bind (wpAny_bind (wpAny_mono a (fun x s4 e=>(wpAny_bind (wpAny_mono e (fun _ s5 d=>(wpAny_pure (wpAny_pure ⟨rfl,d⟩))) fun _ _ z=>z.elim))) fun _ _ z=>z.elim))
  | false=>exact wpAny_bind (wpAny_pure (wpAny_pure ⟨rfl,a⟩))
end
def Jf2 (k:Nat) (cs:List (Nat × Str)) (wi:TI) (g:TG) (tt:TT) (te:TE):TE:=fun σ H Q=>wi σ H fun J H1=>∃ W:Nat->Nat->List V->Hp->Prop,(∃ m,W 0 m [] H1)/\∀ i m ys H2,W i m ys H2->ys.length<=sizeLine /\
  ((J.stop i H2/\∀ p,H2 p=none->Q (.ref p) (upd H2 p (.lst ys))) \/
   (J.go i H2/\∀ x H3,J.yld i H2 x H3->g x (List.replicate k none++JaD cs σ) H3 fun σ4 H4=>tt σ4 H4 fun b H5=>if b=true then te σ4 H5 fun y H6=>∃ m',m'<m/\W (i+1) m' (ys++[y]) H6 else ∃ m',m'<m/\W (i+1) m' ys H5))
section
variable {X:Cx} {tg:Expr}
theorem JdX {iter elt tst:Expr} {scope:Scope} {pos:Pos} {own:List Str} {cl:List (Str × Addr)} {cs:List (Nat × Str)} {g:TG} {te:TE} {tt:TT} {pins:List (Addr × Obj)} {s2:Shared} {σ : St} {H2:Hp} {it:Addr} {fp:List Addr} {tn:Nat->Heap->Prop} {J:It}
  {W:Nat->Nat->List V->Hp->Prop} {m0:Nat} {QN:List V->Hp->Prop} {RR:Value->Addr->Result->Shared->Prop} {E:Value->Shared->Prop} (hc:X.calm=true)
  (hg:∀ fp s2 H2 C,PG (X.inc (own++cs.map (·.2)) scope cl fp s2 H2 C) tg g) (ht:∀ fp s2 H2 C,PT (X.inc (own++cs.map (·.2)) scope cl fp s2 H2 C) tst tt) (he:∀ fp s2 H2 C,PE (X.inc (own++cs.map (·.2)) scope cl fp s2 H2 C) elt te)
  (hcell:∀ y∈scope.names,y.2≠.cell) (hkind:scope.kind=.function)
  (hcl:∀ x c,cl.lookup x=some c->X.env.cells.lookup x=some c) (hhas:∀ y,((relabel scope X.env).names.lookup y=some .cell\/(relabel scope X.env).names.lookup y=some .free)->∃ c,cl.lookup y=some c)
  (hcs:∀ p∈cs,X.N[p.1]?=some p.2/\X.env.scope.names.lookup p.2=some .cell/\(relabel scope X.env).names.lookup p.2=some .cell)
  (I2:Inv X pins σ H2 s2) (T:Turn X.prog X.w X.K tg J fp it tn) (st2:tn 0 s2.heap) (f2:∀ b∈fp,FpOk X pins H2 b) (w0:W 0 m0 [] H2)
  (turn:∀ i m ys H2,W i m ys H2->ys.length<=sizeLine/\((J.stop i H2/\QN ys H2)\/(J.go i H2/\∀ x H3,J.yld i H2 x H3->g x (List.replicate own.length none++JaD cs σ) H3 fun σ4 H4=>tt σ4 H4 fun b H5=>if b=true then te σ4 H5 fun y H6=>∃ m',m'<m/\W (i+1) m' (ys++[y]) H6 else ∃ m',m'<m/\W (i+1) m' ys H5)))
  (hRR:∀ (D C:Addr) (s6:Shared) (H5:Hp) (ys:List V),(∀ h7,Heap.SameBut C s6.heap h7->Inv X pins σ (upd H5 D (.lst ys)) { s6 with heap:=h7 })->H5 D=none->H5 C=none->D≠C->(∃ m,s6.heap.Ns C m)->s2.heap.objs.size<=C->QN ys H5->RR (.ref D) C (.ok .next) s6) :
  wpAny (model X.prog X.w) X.A (newList []) (fun acc s₃=>wpAny (model X.prog X.w) X.A (newFunctionEnv scope X.env.globals cl [] X.env.qual none .none (some X.env)) (fun cenv s₄=>
   codeAny (model X.prog X.w) X.A (.compStart (.ListComp elt [⟨tg,iter,[tst],0⟩] scope pos) 0 (.ref it) acc { cenv with scope:=relabel scope X.env }) (RR acc cenv.locals) s₄) E s₃) E s2:=by
 have H:∀ b∈fp,b<s2.heap.objs.size:=fun b d=>by
  obtain ⟨o,e,_⟩:=T.obj _ _ st2 b d;exact Heap.lt_size e
 refine wpAny_newObj_type (wpAny_newFunctionEnv hcell (by intro y hy; simp at hy) (fun h4 t k=>?_) hkind);dsimp only at t k ⊢;generalize hH3:s2.heap.push { cls:=.type "list",dict:=none,data:=.seq ([]:List Value).toArray }=H3 at t k ⊢;have a9:H3.objs.size=s2.heap.objs.size+1:=by rw [<- hH3,Heap.size_push]
 have U:s2.heap.objs.size<=H3.objs.size:=by ac_nf
 have l:s2.heap.objs.size≠H3.objs.size:=by ac_nf
 have Y:∀ b o,s2.heap.get? b=some o->h4.get? b=some o:=fun b o e=>k.extBut b o (by have:=Heap.lt_size e; exact Nat.ne_of_lt (Nat.lt_of_lt_of_le this U)) (Heap.get?_push_of_some _ (hH3 ▸ Heap.get?_push_of_some _ e));have a4:h4.get? s2.heap.objs.size=some { cls:=.type "list",data:=.seq ([]:List Value).toArray }:=k.extBut _ _ l (Heap.get?_push_of_some _ (hH3 ▸ Heap.get?_push_size _ rfl));obtain ⟨D,h⟩:∃ D,D=s2.heap.objs.size:=⟨_,rfl⟩;obtain ⟨C,b2⟩:∃ C,C=H3.objs.size:=⟨_,rfl⟩;rw [<- b2] at a9 t k U l ⊢;rw [<- h] at H a9 U l a4 ⊢;have I:=I2.incOk (N':=own++cs.map (·.2)) (C:=C) f2 (fun b d=>by rw [<- h]; exact H b d) hkind (by rw [<- h]; exact U) hcl hhas;have I4:Inv (X.inc (own++cs.map (·.2)) scope cl fp s2 H2 C) [] (List.replicate own.length none++JaD cs σ) H2 { s2 with heap:=h4,toks:=s2.toks+([]:List (Str × Value)).length } :=
  I2.incStart (s4:={ s2 with heap:=h4,toks:=s2.toks+([]:List (Str × Value)).length }) I Y rfl rfl t (by rw [<- h]; exact U) hcl hcs
 have Dfree:H2 D=none:=I2.hok.fresh (Nat.le_of_eq h.symm);have O:∀ b o,s2.heap.get? b=some o->b≠D:=fun b o e=>by
  rw [h];exact Nat.ne_of_lt (Heap.lt_size e)
 have b4:∀ b o,s2.heap.get? b=some o->b≠C:=fun b o e=>Nat.ne_of_lt (Nat.lt_of_lt_of_le (by rw [h]; exact Heap.lt_size e) U);have Dfs:D∉frs X.stack:=fun hm=>by
  obtain ⟨_,o,e,_⟩:=I2.stack.mem hm;exact O _ _ e rfl
 have B:∀ {σ':St} {H':Hp} {s':Shared} {us:List Value} {n:Nat} {pl:List (Addr × Obj)},Inv (X.inc (own++cs.map (·.2)) scope cl fp s2 H2 C) pl σ' H' s'->s'.heap.get? D=some { cls:=.type "list",data:=.seq us.toArray n }->H' D=none ->
   Inv (X.inc (own++cs.map (·.2)) scope cl fp s2 H2 C) [(D,{ cls:=.type "list",data:=.seq us.toArray n })] σ' H' s':=fun {σ' H' s' us n pl} J' e n'=>J'.pins_of fun p Z=>by
  rcases mem_singleton.mp Z with rfl
  exact ⟨e,n',l,Dfs,fun v z=>by cases z⟩
 have F:∀ {H':Hp} {o:Obj},(∀ b∈fp,H' b=none)->∀ b∈fp,FpOk (X.inc (own++cs.map (·.2)) scope cl fp s2 H2 C) [(D,o)] H' b:=fun {H' o} hn b d=>by
  refine ⟨hn b d,(I.exf b d).1,I.exfs b d, .inl d,(I.exf b d).2,fun p Z=>?_⟩;rcases mem_singleton.mp Z with rfl
  exact Nat.ne_of_gt (H b d)
 have R:∀ s3:Shared,s3={ s2 with heap:=h4,toks:=s2.toks+([]:List (Str × Value)).length } ->
   codeAny (model X.prog X.w) X.A (.compLoop (.ListComp elt [⟨tg,iter,[tst],0⟩] scope pos) 0 (.ref it) (.ref D) (compEnvC scope cl C X.env)) (RR (.ref D) C) s3:=by
  rintro s3 rfl;refine Jgd (fun n s'=>∃ i ys us M H',Inv (X.inc (own++cs.map (·.2)) scope cl fp s2 H2 C) [(D,{ cls:=.type "list",data:=.seq us.toArray M })] (List.replicate own.length none++JaD cs σ) H' s'/\tn i s'.heap/\(∀ b∈fp,H' b=none)/\Vals ys us/\W i n ys H') ?_ m0
   ⟨0,[],[],0,H2,B (us:=[]) (n:=0) I4 a4 Dfree,T.keep _ _ _ st2 fun b d o e=>Y b o e,fun b d=>(f2 b d).1, .nil,w0⟩
  rintro n s5 ⟨i,ys,us,M,H5,I5,a7,a5,vy,w5⟩;obtain ⟨hz,⟨stop,qn⟩ | ⟨go,a8⟩⟩:=turn i n ys H5 w5
  ·refine wpAny_mono (T.done (X.inc (own++cs.map (·.2)) scope cl fp s2 H2 C) rfl rfl rfl hc i _ s5 _ H5 (fun _ _=>False) I5 (F a5) a7 stop) (fun r s6 z=>?_) fun _ _ z=>z;obtain ⟨rfl,I6⟩:=z;obtain ⟨m6,b6,_⟩:=id I6.loc;obtain ⟨pD,S,_,_,_⟩:=I6.pin (D,{ cls:=.type "list",data:=.seq us.toArray M }) (by simp);have Cfree:H5 C=none:=I6.free;refine hRR D C s6 H5 ys (fun h7 b5=>?_) S Cfree l ⟨m6,b6⟩ (by rw [<- h]; exact U) qn;have j:∀ b,b≠C->h7.get? b=s6.heap.get? b:=fun b d=>b5.2 b d;have a1:=b4;have u7:Un (frs X.stack) fp H2 H5 s2.heap h7:=⟨fun b o e n1 n2 n3=>(j b (a1 b o e)).trans (I6.base.keep b o e n1 n2 n3),fun b o e n1 n2 n3=>by
     obtain ⟨sl,z⟩:=I6.base.slot b o e n1 n2 n3;exact ⟨sl,(j b (a1 b o e)).trans z⟩,I6.base.free,fun b o e n1=>by
     obtain ⟨o',z⟩:=I6.base.there b o e n1;exact ⟨o',(j b (a1 b o e)).trans z⟩,I6.base.tups,I6.base.frzs,I6.base.tbls⟩
   have a3:HOk X.prog X.w H5 h7:=fun a o e=>by
    refine (I6.hok a o e).stay (fun c v b0 q=>(j c ?_).trans q) (fun _ q=>q) fun _ _ q=>q;rintro rfl;rcases b0 with z | z
    ·rw [<- z] at e; rw [Cfree] at e; cases e
    ·rw [Cfree] at z; cases z
   have I7:Inv X pins σ H5 { s6 with heap:=h7 }:=I2.call' (s':={ s6 with heap:=h7 }) I6.os u7 a3 I6.bare fun b d=>⟨(f2 b d).2.2.2.1,(f2 b d).2.1,(f2 b d).2.2.2.2.1,(f2 b d).2.2.2.2.2⟩;exact I7.track (a:=D) (o:=.lst ys) S (Heap.get?_none_of_le (by rw [h]; exact I2.sz)) (by rw [h]; exact Nat.ne_of_gt I2.lt) (fun x c e z=>by
     obtain ⟨v,o,ho,_⟩:=I2.cell x c e;exact O _ _ ho z) (fun p Z z=>O _ _ (I2.pin p Z).1 z) ⟨hz,us,M,vy,(j D l).trans pD⟩
  ·refine wpAny_mono (T.item (X.inc (own++cs.map (·.2)) scope cl fp s2 H2 C) rfl rfl rfl hc i _ s5 _ H5 (fun _ _=>False) I5 (F a5) a7 go) (fun r s6 z=>?_) fun _ _ z=>z;obtain ⟨u,rfl,z⟩:=z;refine wpAny_mono z (fun _ s7 ⟨x,H7,I7,r7,y7,G,b1⟩=>?_) fun _ _ z=>z;have I7':=I7.pinned (F b1) (T.obj _ _ G);refine wpAny_mono (hg fp s2 H2 C _ s7 _ H7 x u _ I7' r7 (a8 x H7 y7)) (fun _ s8 ⟨σ8,H8,I8,q8⟩=>?_) fun _ _ z=>z;refine wpAny_mono (ht fp s2 H2 C _ s8 σ8 H8 _ I8 q8) (fun bb a2 ⟨L,I8',a6⟩=>?_) fun _ _ z=>z;cases bb with
   | true=>
    refine wpAny_mono (he fp s2 H2 C _ a2 σ8 L _ I8' a6) (fun uy s9 ⟨y,H9,I9,r9,m',a0,w9⟩=>?_) fun _ _ z=>z;obtain ⟨pD,S,_,_,_⟩:=I9.pin (D,{ cls:=.type "list",data:=.seq us.toArray M }) (by simp);refine append_at (its:=us.toArray) (n:=M) pD (fun b3 Q P=>?_) (by rw [size_toArray, <- vy.length]; exact hz);have f:∀ b∈fp, ∀ o,s7.heap.get? b=some o->s9.heap.get? b=some o/\H9 b=none:=fun b d o e=>by
     have z:=I9.pin (b,o) (mem_append_right _ (mem_append_right _ (Jcd d e)));exact ⟨z.1,z.2.1⟩
    have I9':Inv (X.inc (own++cs.map (·.2)) scope cl fp s2 H2 C) [] (List.replicate own.length none++JaD cs σ) H9 s9:=I2.incAgain I9 f2 hcl hcs;have I10:Inv (X.inc (own++cs.map (·.2)) scope cl fp s2 H2 C) [] (List.replicate own.length none++JaD cs σ) H9 { s9 with heap:=b3 }:=I9'.turned (it:=D) (t':=s9.toks) (fun b o d e=>(Q.2 b d).trans e) S l (.inr (Nat.le_of_eq h.symm)) (fun x c e z=>by
      obtain ⟨v,o,ho,_⟩:=I2.cell x c (hcl x c e);exact O _ _ ho z) fun p Z=>by simp at Z
    rw [lstP] at P;refine ⟨m',a0,i+1,ys++[y],us++[uy],M+1,H9,B I10 P S,T.keep _ _ _ G fun b d o e=>?_,fun b d=>?_,vy.append (.cons r9 .nil),w9⟩
    ·exact (Q.2 b (Nat.ne_of_lt (H b d))).trans (f b d o e).1
    ·obtain ⟨o,e,_⟩:=T.obj _ _ G b d;exact (f b d o e).2
   | false=>
    obtain ⟨m',a0,w9⟩:=a6;obtain ⟨pD,S,_,_,_⟩:=I8'.pin (D,{ cls:=.type "list",data:=.seq us.toArray M }) (by simp);have f:∀ b∈fp, ∀ o,s7.heap.get? b=some o->a2.heap.get? b=some o/\L b=none:=fun b d o e=>by
     have z:=I8'.pin (b,o) (mem_append_right _ (mem_append_right _ (Jcd d e)));exact ⟨z.1,z.2.1⟩
    have I9':Inv (X.inc (own++cs.map (·.2)) scope cl fp s2 H2 C) [] (List.replicate own.length none++JaD cs σ) L a2:=I2.incAgain I8' f2 hcl hcs;refine ⟨m',a0,i+1,ys,us,M,L,B I9' pD S,T.keep _ _ _ G fun b d o e=>(f b d o e).1,fun b d=>?_,vy,w9⟩;obtain ⟨o,e,_⟩:=T.obj _ _ G b d;exact (f b d o e).2
 exact codeAny_compStart_list (R _ rfl) (T.self _ 0 _ _ _ (T.keep _ _ _ st2 fun b d o e=>Y b o e) (R _ rfl))
theorem JcX {iter elt tst:Expr} {scope:Scope} {pos spos py:Pos} {y:Str} {j:Nat} {own:List Str} {cs:List (Nat × Str)} {wi:TI} {g:TG} {te:TE} {tt:TT} (hN:X.N.Nodup) (hj:X.N[j]?=some y) (hy:Loc X.env.scope y) (hc:X.calm=true) (hi:PI X tg iter wi)
  (hg:∀ fp s2 H2 C,PG (X.inc (own++cs.map (·.2)) scope (Jbt X.env.cells scope.names []) fp s2 H2 C) tg g) (ht:∀ fp s2 H2 C,PT (X.inc (own++cs.map (·.2)) scope (Jbt X.env.cells scope.names []) fp s2 H2 C) tst tt) (he:∀ fp s2 H2 C,PE (X.inc (own++cs.map (·.2)) scope (Jbt X.env.cells scope.names []) fp s2 H2 C) elt te)
  (hfree:∀ p∈scope.names,p.2=.free->X.env.scope.names.lookup p.1=some .cell) (hcell:∀ y∈scope.names,y.2≠.cell) (hkind:scope.kind=.function) (hnames:∀ y∈scope.names,y.2=.local->scope.names.lookup y.1=some .local)
  (hcs:∀ p∈cs,X.N[p.1]?=some p.2/\X.env.scope.names.lookup p.2=some .cell/\(relabel scope X.env).names.lookup p.2=some .cell)
  (hsw:swapsWith (.ListComp elt [⟨tg,iter,[tst],0⟩] scope pos) (some (.Name y py)) spos.line X.env=pure true:=by rfl)
  (hs:∀ x,foldedSetIterable iter X.env x=pure x:=by intro _; rfl) (hf:X.fn y=true\/X.env.scope.names.lookup y=some .local:=by first | exact .inl rfl | exact .inr rfl) :
  PS X (.Assign [.Name y py] (.ListComp elt [⟨tg,iter,[tst],0⟩] scope pos) spos) (tAsg (Jf2 own.length cs wi g tt te) (gName j)):=by
 intro d s σ H D I h;have i:∀ p∈scope.names,p.2=.free->∃ c,X.env.cells.lookup p.1=some c:=fun p n V=>I.ok.has p.1 (.inl (hfree p n V));have u:=JcO (cells:=X.env.cells) scope.names [] (fun _ _ z=>by simp at z) i;rw [exec_Assign_Name_used _ _ _ _ hsw];refine wpAny_bind (wpAny_standAt (wpAny_bind ?_));show wpAny _ X.A (do let _ <- comprehension (.ListComp elt [⟨tg,iter,[tst],0⟩] scope pos) scope X.env _ (newList []) false (eval iter X.env) (some (assign (.Name y py) X.env))) _ _ s;refine wpAny_bind (wpAny_mono (wpAny_comprehension_free (use:=some (assign (.Name y py) X.env)) (Q:=fun _ L=>SP X d D .next L) rfl hs (Jgb i) hkind hnames
  (thn (hi d s σ H _ I h) fun v s1 Z=>thn Z fun a0 s2 R=>?_)) (fun _ L hq=>wpAny_pure (wpAny_pure hq)) fun _ _ e=>e)
 obtain ⟨it,fp,tn,J,H2,rfl,I2,T,F,f2,W,⟨m0,w0⟩,k⟩:=R;refine JdX (QN:=fun K l=>∀ p,l p=none->D.nx (σ.set j (some (.ref p))) (upd l p (.lst K))) hc hg ht he hcell hkind u (fun z hz=>JcN scope.names [] z (.inr (JhY hcell hz))) hcs I2 T F f2 w0 k ?_;intro D' C w l K m Y M dc O f q;obtain ⟨m6,B⟩:=O;have I8:Inv X d σ (upd l D' (.lst K)) w:=m w.heap (Heap.SameBut.refl _ _);show wpAny _ X.A (assign (.Name y py) X.env (.ref D')) _ _ w;refine wpAny_assign_Name (Jf1 (v:=.ref D') I8 hN hj hy rfl (fun s7 I7 r=>?_) hf);obtain ⟨a,P,E⟩:=r;have S:C≠a:=by
  rcases E with rfl | E
  ·exact Nat.ne_of_gt (Nat.lt_of_lt_of_le I2.lt f)
  ·obtain ⟨v,o,G,_⟩:=I2.cell y a E;exact Nat.ne_of_gt (Nat.lt_of_lt_of_le (Heap.lt_size G) f)
 refine ⟨m6,B.sameBut P S,fun h8 t=>⟨_,_,?_,q D' Y⟩⟩;exact I7.turned (it:=C) (t':=s7.toks) (fun b o U e=>(t.2 b U).trans e) (by rw [Jag (Ne.symm dc)]; exact M) (Nat.ne_of_gt (Nat.lt_of_lt_of_le I2.lt f)) (.inr (Nat.le_trans I2.sz f)) (fun x c e z=>by
  obtain ⟨v,o,G,_⟩:=I2.cell x c e;exact absurd (Nat.lt_of_lt_of_le (Heap.lt_size G) f) (by rw [z]; exact Nat.lt_irrefl _)) (fun p n z=>absurd (Nat.lt_of_lt_of_le (Heap.lt_size (I2.pin p n).1) f) (by rw [z]; exact Nat.lt_irrefl _))
end
section
variable {X:Cx} {pins:List (Addr × Obj)} {σ : St} {H:Hp} {s:Shared} {h':Heap}
end
def Itz (K:W.Frag) (a b:Addr):It :=
  ⟨fun i H=>∃ xs ys x y,SqL K H a xs/\SqL K H b ys/\xs[i]?=some x/\ys[i]?=some y,
   fun i H v H'=>∃ p x y,(∀ xs,SqL K H a xs->xs[i]?=some x)/\(∀ ys,SqL K H b ys->ys[i]?=some y)/\H p=none/\v=.ref p/\H'=upd H p (.tup [x,y]),
   fun i H=>∃ xs ys,SqL K H a xs/\SqL K H b ys/\(xs.length<=i\/ys.length<=i)⟩
section
variable {X:Cx} {elts:List Expr} {x1:Nat} {tp:Pos}
def iZip (K:W.Frag) (ta:TA):TI:=fun σ H R=>ta σ H fun vs H1=>∃ a b,vs=[.ref a, .ref b]/\(∃ xs,SqL K H1 a xs)/\(∃ ys,SqL K H1 b ys)/\R (Itz K a b) H1
end
section
variable {σ : St} {H:Hp} {Q:VK} {td ty tv tx:TE} {K:W.Frag} {En:Ends}
theorem y3dy:tDGet td ty σ H Q=td σ H fun x H1=>ty σ H1 fun y H2=>∃ a v,x=.ref a/\DGet H2 a y (some v)/\Q v H2:=rfl
theorem y46y:sDPut td ty tv En σ H=tv σ H fun v H1=>td σ H1 fun x H2=>ty σ H2 fun y H3=>∃ a H4,x=.ref a/\DPut H3 a y v H4/\En.nx σ H4:=rfl
theorem y43y:JlN σ H Q=∀ p,H p=none->Q (.ref p) (upd H p (.dT [])):=rfl
theorem y42y:JjX σ H Q=∀ p,H p=none->Q (.ref p) (upd H p (.dK [])):=rfl
end
theorem hu1 {a b:Nat} (h:a+64<b):a+1<b:=by ac_nf
section
variable {X:Cx}
def rMul0:R2:=fun x y H Q=>match x,y with
 | .str z, .int n=>0<=n/\n<1000/\z.length<=1000/\∀ z':Str,z'.cps.toList=(List.replicate n.toNat z.cps.toList).flatten->Q (.str z') H
 | x,y=>rMulS x y H Q
theorem JaB:OpR X (binaryOp .Mult) rMul0:=fun a s σ H x y v u Q I c b q=>by
 unfold rMul0 at q;split at q
 ·rename_i z n;obtain ⟨g,e,d,q⟩:=q;by_cases f:n=0
  ·subst f;obtain ⟨t,rfl⟩:=c;obtain ⟨h,rfl⟩:=b;exact PySem.P.mul_str_none ⋯ ⋯ ⟨.str _,H,I.tok _,⟨_,rfl⟩,q Str.empty rfl⟩
  ·exact Jim a s σ H _ _ v u Q I c b ⟨by ac_nf,e,d,q⟩
 ·exact Jim a s σ H _ _ v u Q I c b q
end
section
variable {K:W.Frag} {H:Hp} {Q:VK} {σ : St} {td ty:TE}
theorem y6by {i j:Int}:rMul0 (.int i) (.int j) H Q=(IntMulOk i j/\Q (.int (i*j)) H):=rfl
theorem y3ey:JjV td ty σ H Q=td σ H fun x H1=>∃ a,x=.ref a/\IsD H1 a/\ty σ H1 fun y H2=>∃ o,DGet H2 a y o/\Q (o.getD .non) H2:=rfl
end
theorem ForA.byL {K:W.Frag} {a:Addr} {xs:List V} {g:TG} {tb:TS} {D:Ends} {σ : St} {H:Hp} (hA:SqL K H a xs) (Pv:Nat->St->Hp->Prop) (h0:Pv 0 σ H) (hl:∀ i σ H',Pv i σ H'->SqL K H' a xs)
  (hs:∀ i x σ H,xs[i]?=some x->Pv i σ H->g x σ H fun σ2 H2=>tb { D with nx:=Pv (i+1),ct:=Pv (i+1),bk:=D.nx } σ2 H2) (hd:∀ σ H,Pv xs.length σ H->D.nx σ H):ForA K a g tb D σ H:=by
 refine .inl ⟨⟨xs,hA⟩,fun i m σ H=>Pv i σ H/\i<=xs.length/\m=xs.length-i,⟨_,h0,Nat.zero_le _,rfl⟩,?_⟩;rintro i m σ H ⟨c,h,rfl⟩;have d:=hl i σ H c;by_cases b:i<xs.length
 ·refine .inr ⟨⟨xs,xs[i],d,List.getElem?_eq_getElem b⟩,Pv (i+1),fun σ' H' p=>⟨_,Nat.sub_lt_sub_left b (Nat.lt_succ_self i),p,b,rfl⟩,?_⟩;rintro x H' ⟨rfl,f⟩;exact hs i x σ _ (f xs d) c
 ·have e:i=xs.length:=by ac_nf
  subst e;exact .inl ⟨⟨xs,d,Nat.le_refl _⟩,hd σ H c⟩
def ForJ (J:It) (g:TG) (tb:TS) (D:Ends) (σ : St) (H:Hp):Prop:=∃ W:Nat->Nat->St->Hp->Prop,(∃ m,W 0 m σ H)/\∀ i m σ H,W i m σ H ->
 (J.stop i H/\D.nx σ H)\/(J.go i H/\∃ N:St->Hp->Prop,(∀ σ' H',N σ' H'->∃ m',m'<m/\W (i+1) m' σ' H')/\∀ x H',J.yld i H x H'->g x σ H' fun σ2 H2=>tb { D with nx:=N,ct:=N,bk:=D.nx } σ2 H2)
theorem y54y {K:W.Frag} {ta:TA} {g:TG} {tb:TS} {D:Ends} {σ : St} {H:Hp}:tFor (iZip K ta) g tb D σ H=ta σ H fun vs H1=>∃ a b,vs=[.ref a, .ref b]/\(∃ xs,SqL K H1 a xs)/\(∃ ys,SqL K H1 b ys)/\ForJ (Itz K a b) g tb D σ H1:=rfl
theorem compL {K:W.Frag} {cs:List (Nat × Str)} {k:Nat} {g:TG} {te:TE} {σ : St} {a:Addr} {xs:List V} {H1:Hp} {Q:VK} (Pv:Nat->List V->Hp->Prop) (h0:Pv 0 [] H1) (hl:∀ i ys H',i<=xs.length->Pv i ys H'->SqL K H' a xs/\ys.length<=sizeLine)
  (hs:∀ i x ys H2,xs[i]?=some x->Pv i ys H2->g x (List.replicate k none++JaD cs σ) H2 fun σ4 H4=>te σ4 H4 fun y H5=>Pv (i+1) (ys++[y]) H5) (hd:∀ ys H2,Pv xs.length ys H2->∀ p,H2 p=none->Q (.ref p) (upd H2 p (.lst ys))) :
  ∃ W:Nat->Nat->List V->Hp->Prop,(∃ m,W 0 m [] H1)/\∀ i m ys H2,W i m ys H2->ys.length<=sizeLine/\(((Itl K a).stop i H2/\∀ p,H2 p=none->Q (.ref p) (upd H2 p (.lst ys))) \/
   ((Itl K a).go i H2/\∀ x H3,(Itl K a).yld i H2 x H3->g x (List.replicate k none++JaD cs σ) H3 fun σ4 H4=>te σ4 H4 fun y H5=>∃ m',m'<m/\W (i+1) m' (ys++[y]) H5)):=by
 refine ⟨fun i m ys H2=>Pv i ys H2/\i<=xs.length/\m=xs.length-i,⟨_,h0,Nat.zero_le _,rfl⟩,?_⟩;rintro i m ys H2 ⟨c,f,rfl⟩;obtain ⟨d,j⟩:=hl i ys H2 f c;refine ⟨j,?_⟩;by_cases b:i<xs.length
 ·refine .inr ⟨⟨xs,xs[i],d,List.getElem?_eq_getElem b⟩,?_⟩;rintro x H3 ⟨rfl,h⟩;have e:(fun (σ4:St) (H4:Hp)=>te σ4 H4 fun y H5=>Pv (i+1) (ys++[y]) H5)=fun σ4 H4=>te σ4 H4 fun y H5=>∃ m',m'<xs.length-i/\Pv (i+1) (ys++[y]) H5/\i+1<=xs.length/\m'=xs.length-(i+1):=by
   funext σ4 H4
   congr 1
   funext y H5
   exact propext ⟨fun q=>⟨_,Nat.sub_lt_sub_left b (Nat.lt_succ_self i),q,b,rfl⟩,fun ⟨_,_,q,_⟩=>q⟩
  rw [<- e];exact hs i x ys _ (h xs d) c
 ·have e:i=xs.length:=by ac_nf
  subst e;exact .inl ⟨⟨xs,d,Nat.le_refl _⟩,hd ys H2 c⟩
theorem Jla {K:W.Frag} {cs:List (Nat × Str)} {k:Nat} {g:TG} {tt:TT} {te:TE} {σ : St} {a:Addr} {xs:List V} {H1:Hp} {Q:VK} (Pv:Nat->List V->Hp->Prop) (h0:Pv 0 [] H1) (hl:∀ i ys H',i<=xs.length->Pv i ys H'->SqL K H' a xs/\ys.length<=sizeLine)
  (hs:∀ i x ys H2,xs[i]?=some x->Pv i ys H2->g x (List.replicate k none++JaD cs σ) H2 fun σ4 H4=>tt σ4 H4 fun b H5=>if b=true then te σ4 H5 fun y H6=>Pv (i+1) (ys++[y]) H6 else Pv (i+1) ys H5) (hd:∀ ys H2,Pv xs.length ys H2->∀ p,H2 p=none->Q (.ref p) (upd H2 p (.lst ys))) :
  ∃ W:Nat->Nat->List V->Hp->Prop,(∃ m,W 0 m [] H1)/\∀ i m ys H2,W i m ys H2->ys.length<=sizeLine/\(((Itl K a).stop i H2/\∀ p,H2 p=none->Q (.ref p) (upd H2 p (.lst ys))) \/
   ((Itl K a).go i H2/\∀ x H3,(Itl K a).yld i H2 x H3->g x (List.replicate k none++JaD cs σ) H3 fun σ4 H4=>tt σ4 H4 fun b H5=>if b=true then te σ4 H5 fun y H6=>∃ m',m'<m/\W (i+1) m' (ys++[y]) H6 else ∃ m',m'<m/\W (i+1) m' ys H5)):=by
 refine ⟨fun i m ys H2=>Pv i ys H2/\i<=xs.length/\m=xs.length-i,⟨_,h0,Nat.zero_le _,rfl⟩,?_⟩;rintro i m ys H2 ⟨d,r,rfl⟩;obtain ⟨j,o⟩:=hl i ys H2 r d;refine ⟨o,?_⟩;by_cases f:i<xs.length
 ·refine .inr ⟨⟨xs,xs[i],j,List.getElem?_eq_getElem f⟩,?_⟩;rintro x H3 ⟨rfl,n⟩;have w:∀ (h:List V) (H5:Hp),Pv (i+1) h H5=∃ m',m'<xs.length-i/\Pv (i+1) h H5/\i+1<=xs.length/\m'=xs.length-(i+1):=fun h H5=>
   propext ⟨fun q=>⟨_,Nat.sub_lt_sub_left f (Nat.lt_succ_self i),q,f,rfl⟩,fun ⟨_,_,q,_⟩=>q⟩
  have l:(fun (y:V) (H6:Hp)=>Pv (i+1) (ys++[y]) H6)=fun y H6=>∃ m',m'<xs.length-i/\Pv (i+1) (ys++[y]) H6/\i+1<=xs.length/\m'=xs.length-(i+1):=by
   funext y H6
   exact w _ _
  have e:(fun (σ4:St) (H4:Hp)=>tt σ4 H4 fun b H5=>if b=true then te σ4 H5 fun y H6=>Pv (i+1) (ys++[y]) H6 else Pv (i+1) ys H5)=fun σ4 H4=>tt σ4 H4 fun b H5=>if b=true then te σ4 H5 fun y H6=>∃ m',m'<xs.length-i/\Pv (i+1) (ys++[y]) H6/\i+1<=xs.length/\m'=xs.length-(i+1) else ∃ m',m'<xs.length-i/\Pv (i+1) ys H5/\i+1<=xs.length/\m'=xs.length-(i+1):=by
   funext σ4 H4
   congr 1
   funext b H5
   by_cases c:b=true
   ·rw [if_pos c,if_pos c, <- l]
   ·rw [if_neg c,if_neg c];exact w ys H5
  have:=hs i x ys _ (n xs j) d;rw [e] at this;exact this
 ·have e:i=xs.length:=by ac_nf
  subst e;exact .inl ⟨⟨xs,j,Nat.le_refl _⟩,hd ys H2 d⟩
end L2
namespace Ch
open PySem
structure TD where
 nm:Str
 st:Str
 en:Str
 lo:Option (Int × Int)
 hi:Option (Int × Int)
structure SD where
 src:Str
 dst:Str
 c:Int × Int
 nm:Str
 fw:Bool
def fwd (t:TD):List SD:=match t.hi with
 | some h=>[⟨t.st,t.en,h,t.nm,true⟩]
 | none=>[]
def bwd (t:TD):List SD:=match t.lo with
 | some l=>[⟨t.en,t.st,(-l.1,l.2),t.nm,false⟩]
 | none=>[]
def steps (t:TD):List SD:=fwd t++bwd t
def all (ts:List TD):List SD:=ts.flatMap steps
abbrev Pr:=Str × Bool
def key (s:SD):Pr:=(s.nm,s.fw)
def find (ss:List SD) (k:Pr):Option SD:=ss.find? fun s=>decide (key s=k)
def lastA (acc:Option SD) (ss:List SD) (k:Pr):Option SD:=ss.foldl (fun a s=>if key s=k then some s else a) acc
def last (ss:List SD) (k:Pr):Option SD:=lastA none ss k
def addF (a c:Int × Int):Int × Int:=(Mth.top (a.1*c.2+c.1*a.2) (a.2*c.2),Mth.bot (a.1*c.2+c.1*a.2) (a.2*c.2))
structure FOk (n:Nat) (a:Int × Int):Prop where
 s1:Mth.Sz n a.1
 s2:Mth.Sz n a.2
 b1:1<=a.2
 g1:Mth.g a.1 a.2=1
end Ch
namespace L2
open PySem PySem.Spec PyProof.Rows Ch
def isTF:HO->Bool
 | .tup _=>true
 | .frz _ _=>true
 | _=>false
def SameT (H H':Hp):Prop:=∀ b u,isTF u=true->H b=some u->H' b=some u
theorem SameT.refl (H:Hp):SameT H H:=fun _ _ _ h=>h
theorem SameT.trans {H H1 H2:Hp} (a:SameT H H1) (b:SameT H1 H2):SameT H H2:=fun c o t h=>b c o t (a c o t h)
theorem Same.t {H H':Hp} (a:Same H H'):SameT H H':=fun b u _ h=>a b u h
theorem SameT.put {H H':Hp} {l:Addr} {o o':HO} (e:upd H l o=H') (hl:H l=some o') (ht:isTF o'=false):SameT H H':=fun b u t h=>by
 rw [<- e,Jag (ne_of h hl fun q=>by rw [q,ht] at t; cases t)];exact h
theorem SqT.sameT {K:W.Frag} {H H':Hp} {a:Addr} {xs:List V} (e:SameT H H') (h:SqT K H a xs):SqT K H' a xs:=by
 rcases h with (h | ⟨o,h⟩) | h
 ·exact .inl (.inl (e _ _ rfl h))
 ·exact .inl (.inr ⟨o,e _ _ rfl h⟩)
 ·exact .inr h
theorem FrV.sameT {K:W.Frag} {H H':Hp} {v:V} {a b:Int} (S:SameT H H') (h:FrV K H v a b):FrV K H' v a b:=by
 obtain ⟨p,e,q⟩:=h;exact ⟨p,e,q.sameT S⟩
def frD (a:Int × Int):D:=.tup [.int a.1, .int a.2]
def bD:Option (Int × Int)->D
 | none=>.non
 | some a=>frD a
def tdD (t:TD):D:=.tup [.str t.nm, .str t.st, .str t.en,bD t.lo,bD t.hi]
def pD (s:SD):D:=.tup [.str s.src, .str s.dst,frD s.c, .bl s.fw]
def BV (K:W.Frag) (H:Hp):Option (Int × Int)->V->Prop
 | none,v=>v=.non
 | some a,v=>FrV K H v a.1 a.2
theorem BV.rep {K:W.Frag} {H:Hp} {o:Option (Int × Int)} {v:V} (h:BV K H o v):Rep K H (bD o) v:=by
 cases o with
 | none=>simp only [bD,Rep]; exact h
 | some a=>exact FrV.rep h
theorem BV.sameT {K:W.Frag} {H H':Hp} {o:Option (Int × Int)} {v:V} (S:SameT H H') (h:BV K H o v):BV K H' o v:=by
 cases o with
 | none=>exact h
 | some a=>exact FrV.sameT S h
def TV (K:W.Frag) (H:Hp) (t:TD) (x:V):Prop:=∃ b vl vg,x=.ref b/\SqT K H b [.str t.nm, .str t.st, .str t.en,vl,vg]/\BV K H t.lo vl/\BV K H t.hi vg
def PV (K:W.Frag) (H:Hp) (s:SD) (x:V):Prop:=∃ b v,x=.ref b/\SqT K H b [.str s.src, .str s.dst,v, .bl s.fw]/\FrV K H v s.c.1 s.c.2
def CV (H:Hp) (c:Pr) (x:V):Prop:=∃ b,x=.ref b/\H b=some (.tup [.str c.1, .bl c.2])
def LV (K:W.Frag) (H:Hp) (s:SD) (x:V):Prop:=∃ b v w,x=.ref b/\SqT K H b [.str s.src, .str s.dst,v,w]/\FrV K H v s.c.1 s.c.2/\CV H (key s) w
section
variable {K:W.Frag} {H H':Hp}
theorem TV.sameT {t:TD} {x:V} (S:SameT H H'):TV K H t x->TV K H' t x:=fun ⟨b,vl,c,e,q,d,a⟩=>⟨b,vl,c,e,q.sameT S,d.sameT S,a.sameT S⟩
theorem CV.sameT {c:Pr} {x:V} (S:SameT H H'):CV H c x->CV H' c x:=fun ⟨b,e,q⟩=>⟨b,e,S _ _ rfl q⟩
theorem LV.sameT {s:SD} {x:V} (S:SameT H H'):LV K H s x->LV K H' s x:=fun ⟨b,v,w,e,q,c,a⟩=>⟨b,v,w,e,q.sameT S,c.sameT S,a.sameT S⟩
theorem TV.rep {t:TD} {x:V}:TV K H t x->Rep K H (tdD t) x:=fun ⟨b,vl,d,e,q,c,a⟩=>by
 simp only [tdD,Rep,RepL];exact ⟨b,_,e,q,_,_,rfl,rfl,_,_,rfl,rfl,_,_,rfl,rfl,_,_,rfl,c.rep,_,_,rfl,a.rep,rfl⟩
end
def All2 {α : Type} (P : α->V->Prop):List α->List V->Prop
 | [],xs=>xs=[]
 | a::as,xs=>∃ x r,xs=x::r/\P a x/\All2 P as r
section
variable {α : Type} {P P' : α->V->Prop}
theorem All2.mono:∀ {as:List α} {xs:List V},(∀ a x,P a x->P' a x)->All2 P as xs->All2 P' as xs
 | [],_,_,h=>h
 | a::as,xs,f,h=>by
  obtain ⟨x,r,e,h1,h2⟩:=h;exact ⟨x,r,e,f _ _ h1,All2.mono f h2⟩
theorem All2.length:∀ {as:List α} {xs:List V},All2 P as xs->xs.length=as.length
 | [],_,h=>by rw [show _=_ from h]; rfl
 | a::as,xs,h=>by
  obtain ⟨x,r,e,h1,h2⟩:=h;rw [e,length_cons,length_cons,h2.length]
theorem All2.at_:∀ {as:List α} {xs:List V} {i:Nat} {x:V},All2 P as xs->xs[i]?=some x->∃ a,as[i]?=some a/\P a x
 | [],_,_,_,h,hx=>by rw [show _=_ from h] at hx; simp at hx
 | a::as,xs,i,y,h,hx=>by
  obtain ⟨x,r,e,h1,h2⟩:=h;subst e;cases i with
  | zero=>simp at hx; subst hx; exact ⟨a,rfl,h1⟩
  | succ i=>simpa using All2.at_ h2 (by simpa using hx)
theorem All2.get:∀ {as:List α} {xs:List V} {i:Nat} {a : α},All2 P as xs->as[i]?=some a->∃ x,xs[i]?=some x/\P a x
 | [],_,_,_,h,hx=>by simp at hx
 | a::as,xs,i,b,h,hx=>by
  obtain ⟨x,r,e,h1,h2⟩:=h;subst e;cases i with
  | zero=>simp at hx; subst hx; exact ⟨x,rfl,h1⟩
  | succ i=>simpa using All2.get h2 (by simpa using hx)
theorem All2.append:∀ {as bs:List α} {xs ys:List V},All2 P as xs->All2 P bs ys->All2 P (as++bs) (xs++ys)
 | [],bs,xs,ys,h,g=>by rw [show xs=[] from h]; exact g
 | a::as,bs,xs,ys,h,g=>by
  obtain ⟨x,r,e,h1,h2⟩:=h;subst e;exact ⟨x,r++ys,rfl,h1,All2.append h2 g⟩
theorem All2.one {a : α} {x:V} (h:P a x):All2 P [a] [x]:=⟨x,[],rfl,h,rfl⟩
theorem All2.take:∀ {as:List α} {xs:List V} (j:Nat),All2 P as xs->All2 P (as.take j) (xs.take j)
 | as,xs,0,_=>by simp only [take_zero]; exact rfl
 | [],xs,j+1,h=>by rw [show xs=[] from h]; simp; exact rfl
 | a::as,xs,j+1,h=>by
  obtain ⟨x,r,e,h1,h2⟩:=h;subst e;exact ⟨x,r.take j,by simp,h1,All2.take j h2⟩
theorem All2.drop:∀ {as:List α} {xs:List V} (j:Nat),All2 P as xs->All2 P (as.drop j) (xs.drop j)
 | as,xs,0,h=>by simpa using h
 | [],xs,j+1,h=>by rw [show xs=[] from h]; simp; exact rfl
 | a::as,xs,j+1,h=>by
  obtain ⟨x,r,e,h1,h2⟩:=h;subst e;simpa using All2.drop j h2
theorem All2.repL {K:W.Frag} {H:Hp} {f : α->D} (g:∀ a x,P a x->Rep K H (f a) x):∀ {as:List α} {xs:List V},All2 P as xs->RepL K H (as.map f) xs
 | [],xs,h=>by simp only [map_nil,RepL]; exact h
 | a::as,xs,h=>by
  obtain ⟨x,r,e,h1,h2⟩:=h;simp only [map_cons,RepL];exact ⟨x,r,e,g _ _ h1,All2.repL g h2⟩
end
structure TOk (t:TD):Prop where
 n1:nameS t.nm=true
 n2:nameS t.st=true
 n3:nameS t.en=true
 ne:t.st≠t.en
 lo:∀ a,t.lo=some a->FOk 600 a
 hi:∀ a,t.hi=some a->FOk 600 a
 le:lessD (bD t.hi) (bD t.lo)=false
theorem len8 {z:Str} (h:nameS z=true):z.length<=8:=by
 unfold nameS at h;simp only [Bool.and_eq_true,decide_eq_true_eq] at h;exact h.1.2
theorem bD_ok {o:Option (Int × Int)} (h:∀ a,o=some a->FOk 600 a):JcS (bD o)=true/\szD (bD o):=by
 cases o with
 | none=>exact ⟨rfl,by simp only [bD,szD]⟩
 | some a=>
  have k:=h a rfl;refine ⟨by simp [bD,frD,JcS,fracB,k.b1,k.g1],?_⟩;simp only [bD,frD,szD,szL];exact ⟨k.s1.mono ⋯,k.s2.mono ⋯,trivial⟩
theorem TOk.tie {t:TD} (h:TOk t):tieB (tdD t)=true:=by
 have e:eqD (.str t.st) (.str t.en)=false:=by simp only [eqD,beq_eq_false_iff_ne]; exact h.ne
 simp [tdD,tieB,nameB,JcT,h.n1,h.n2,h.n3,e,JeU,(bD_ok h.lo).1,(bD_ok h.hi).1,h.le]
theorem TOk.sz {t:TD} (h:TOk t):szD (tdD t):=by
 simp only [tdD,szD,szL];have:=len8 h.n1;have:=len8 h.n2;have:=len8 h.n3;exact ⟨by ac_nf,by ac_nf,by ac_nf,(bD_ok h.lo).2,(bD_ok h.hi).2,trivial⟩
def kP (c:Pr):List Key:=[.inr c.1, .inl c.2]
def DOk (K:W.Frag) (H:Hp) (kvs:List (List Key × V)) (ss:List SD):Prop:=∀ c:Pr,match last ss c with
 | none=>valV kvs (kP c)=none
 | some s=>∃ v,valV kvs (kP c)=some v/\PV K H s v
theorem DOk.nil {K:W.Frag} {H:Hp}:DOk K H [] []:=fun c=>rfl
section
variable {K:W.Frag} {H:Hp} {kvs:List (List Key × V)} {ss:List SD}
end
def CompJ (J:It) (k:Nat) (cs:List (Nat × Str)) (g:TG) (te:TE) (σ : St) (Q:VK) (H1:Hp):Prop:=∃ W:Nat->Nat->List V->Hp->Prop,(∃ m,W 0 m [] H1)/\∀ i m ys H2,W i m ys H2->ys.length<=sizeLine /\
  ((J.stop i H2/\∀ p,H2 p=none->Q (.ref p) (upd H2 p (.lst ys))) \/
   (J.go i H2/\∀ x H3,J.yld i H2 x H3->g x (List.replicate k none++JaD cs σ) H3 fun σ4 H4=>te σ4 H4 fun y H5=>∃ m',m'<m/\W (i+1) m' (ys++[y]) H5))
def JbO (J:It) (k:Nat) (cs:List (Nat × Str)) (g:TG) (tt:TT) (te:TE) (σ : St) (Q:VK) (H1:Hp):Prop:=∃ W:Nat->Nat->List V->Hp->Prop,(∃ m,W 0 m [] H1)/\∀ i m ys H2,W i m ys H2->ys.length<=sizeLine /\
  ((J.stop i H2/\∀ p,H2 p=none->Q (.ref p) (upd H2 p (.lst ys))) \/
   (J.go i H2/\∀ x H3,J.yld i H2 x H3->g x (List.replicate k none++JaD cs σ) H3 fun σ4 H4=>tt σ4 H4 fun b H5=>if b=true then te σ4 H5 fun y H6=>∃ m',m'<m/\W (i+1) m' (ys++[y]) H6 else ∃ m',m'<m/\W (i+1) m' ys H5))
section
variable {K:W.Frag} {k:Nat} {cs:List (Nat × Str)} {g:TG} {tt:TT} {te tl:TE} {σ : St} {H H1:Hp} {Q:VK} {a:Addr} {xs:List V}
theorem y34y:tComp k cs (iAny K tl) g te σ H Q=tl σ H fun x H1=>∃ a,x=.ref a/\(((∃ xs,SqL K H1 a xs)/\CompJ (Itl K a) k cs g te σ Q H1)\/((∃ xs,SqT K H1 a xs)/\CompJ (Itt K a) k cs g te σ Q H1)):=rfl
theorem y36y:Jf2 k cs (iAny K tl) g tt te σ H Q=tl σ H fun x H1=>∃ a,x=.ref a/\(((∃ xs,SqL K H1 a xs)/\JbO (Itl K a) k cs g tt te σ Q H1)\/((∃ xs,SqT K H1 a xs)/\JbO (Itt K a) k cs g tt te σ Q H1)):=rfl
theorem CompJ.list (Pv:Nat->List V->Hp->Prop) (h0:Pv 0 [] H1) (hl:∀ i ys H',i<=xs.length->Pv i ys H'->SqL K H' a xs/\ys.length<=sizeLine)
  (hs:∀ i x ys H2,xs[i]?=some x->Pv i ys H2->g x (List.replicate k none++JaD cs σ) H2 fun σ4 H4=>te σ4 H4 fun y H5=>Pv (i+1) (ys++[y]) H5) (hd:∀ ys H2,Pv xs.length ys H2->∀ p,H2 p=none->Q (.ref p) (upd H2 p (.lst ys))) :
  CompJ (Itl K a) k cs g te σ Q H1:=compL Pv h0 hl hs hd
theorem JbO.list (Pv:Nat->List V->Hp->Prop) (h0:Pv 0 [] H1) (hl:∀ i ys H',i<=xs.length->Pv i ys H'->SqL K H' a xs/\ys.length<=sizeLine)
  (hs:∀ i x ys H2,xs[i]?=some x->Pv i ys H2->g x (List.replicate k none++JaD cs σ) H2 fun σ4 H4=>tt σ4 H4 fun b H5=>if b=true then te σ4 H5 fun y H6=>Pv (i+1) (ys++[y]) H6 else Pv (i+1) ys H5) (hd:∀ ys H2,Pv xs.length ys H2->∀ p,H2 p=none->Q (.ref p) (upd H2 p (.lst ys))) :
  JbO (Itl K a) k cs g tt te σ Q H1:=Jla Pv h0 hl hs hd
end
theorem JgM (x y:Str):(x++y).cps.toList=x.cps.toList++y.cps.toList:=by
 show (x.cps++y.cps).toList=_;simp
theorem JdQ (z:Str):z.length=z.cps.toList.length:=by simp [Str.length]
section
variable {ss:List SD} {c:Pr} {cs:List Pr} {s:SD} {tot:Int × Int} {f l:Str}
end
theorem JdN {α : Type} {f : α->D} {n:Nat} (h:∀ a,depD (f a)<=n):∀ as:List α,depL (as.map f)<=n
 | []=>by simp [depL]
 | a::as=>by
  rw [map_cons,depL];exact Nat.max_le.mpr ⟨h a,JdN h as⟩
section
variable {K:W.Frag} {H:Hp} {Q:VK}
end
section
variable {prog:Program} {w:World} {A:Around} {E:Value->Shared->Prop} {s:Shared}
theorem stored {h:Heap} {a:Addr} {es es':Array (Int × Value)} {ep:Nat} {t t':SetTable} (ho:h.get? a=some { cls:=.type "set",dict:=none,data:=.set es ep t,slots:=#[] }) :
  (h.update a (Obj.putSet es' t')).get? a=some { cls:=.type "set",dict:=none,data:=.set es' (ep+1) t',slots:=#[] }:=by
 have e:=Heap.get?_update_self (Obj.putSet es' t') ho (by rw [putSet_of es' t' rfl]; rfl);rw [e,putSet_of es' t' rfl]
end
def addS (l:List Str) (z:Str):List Str:=if z∈l then l else l++[z]
def met (val:Nat->Str) (i:Nat):List Str:=((List.range i).map val).foldl addS []
section
variable {prog:Program} {w:World} {A:Around} {E:Value->Shared->Prop} {s:Shared}
end
section
variable {prog:Program} {w:World} {A:Around} {E:Value->Shared->Prop} {s:Shared}
end
section
variable {M:Model} {A:Around} {E:Value->Shared->Prop} {s:Shared}
end
section
variable {prog:Program} {w:World} {A:Around} {E:Value->Shared->Prop} {s:Shared}
section
variable {I a:Addr} {es:Array (Int × Value)} {i ep:Nat} {t:SetTable} {Q:Option Value->Shared->Prop}
end
end
section
variable {prog:Program} {w:World} {A:Around} {E:Value->Shared->Prop} {s:Shared}
end
section
variable {prog:Program} {w:World} {A:Around} {E:Value->Shared->Prop} {s:Shared}
theorem Jkn {S r:Addr} {R:Result->Shared->Prop} (h:wpAny (model prog w) A.in1 (Builtin.List.listExtendWith (.ref S) (.ref r) (.ref S)) (fun fin s'=>match fin with | .done f=>R (.ok f) s' | .again c'=>c'.quiet=true/\codeAny (model prog w) A c' R s') (fun e s'=>R (.error e) s') s) :
  codeAny (model prog w) A (.builtin "list.__iadd__" ⟨[.ref S, .ref r],[]⟩) R s:=by
 refine codeAny_builtin (PySem.F.entry_list_iadd) ?_;rw [Around.under_plainId (PySem.F.plain_list_iadd) _];exact h
theorem JhF {r:Addr} {ss:List Str} {Q:Value->Shared->Prop} (h64:ss.length<64)
  (hx:∀ (R:Result->Shared->Prop),(∀ s' (vs:List Value) c' ss',(∀ b o,s.heap.get? b=some o->s'.heap.get? b=some o)->s'.gens=s.gens->s'.os=s.os->s.toks<=s'.toks ->
    s'.heap.get? s.heap.objs.size=some { cls:=.type "list",dict:=none,data:=.seq vs.toArray c',slots:=#[] }->StrsAre vs ss'->ss'.Perm ss->R (.ok (.ret (.ref s.heap.objs.size))) s') ->
   codeAny (model prog w) A.in1 (.builtin "list.__iadd__" ⟨[.ref s.heap.objs.size, .ref r],[]⟩) R { s with heap:=s.heap.push { cls:=.type "list",data:=.seq ([]:List Value).toArray } })
  (q:∀ s' l (out:Array Value) ss' e,(∀ b o,s.heap.get? b=some o->s'.heap.get? b=some o)->s'.gens=s.gens->s'.os=s.os->s.toks<=s'.toks->s.heap.objs.size<=l->s'.heap.get? l=some (seqObj "list" out e)->StrsAre out.toList ss'->ss'.Perm ss->sortedS ss'=true->Q (.ref l) s') :
  wpAny (model prog w) A (call (.builtin "sorted") [.ref r]) Q E s:=by
 refine Calls.call_function_entry kind_sorted plain_sorted entry_sorted (args_sorted1 _) ?_;unfold Builtin.«sorted»;refine wpAny_bind (m:=checkCount "sorted" 1 1 _) (wpAny_pure ?_);refine wpAny_bind ?_;unfold collect;refine wpAny_bind (wpAny_runValue (codeAny_builtin (PySem.F.entry_proto_collect) ?_));rw [Around.under_plainId (PySem.F.plain_proto_collect) _];show wpAny _ A.in1.in1 (newList [] >>= fun l=>again (.builtin "list.__iadd__" ⟨[l, .ref r],[]⟩)) _ _ s;refine wpAny_bind (wpAny_newObj_type ?_);refine wpAny_pure ⟨plainId_quiet (PySem.F.plain_list_iadd) _,hx _ fun s' vs c' u k B x t j a h=>?_⟩;refine wpAny_bind (m:=load s.heap.objs.size) (wpAny_load j (wpAny_pure ?_));have vl:vs.length<64:=by rw [a.length,h.length_eq]; exact h64
 have n:(64:Nat)<=sizeLine:=by decide
 dsimp only;refine wpAny_bind (wpAny_newList ?_ (by show vs.length<=sizeLine; ac_nf));have g:(s'.heap.push (seqObj "list" vs.toArray 0)).get? s'.heap.objs.size=some (seqObj "list" vs.toArray 0):=Heap.get?_push_size _ rfl;refine wpAny_bind (wpAny_holding (wpAny_call_entry slot_list_sort ⟨_,g,rfl⟩ entry_list_sort (list_sort_treeK strKind_oneLt g a.keysOf (fun H G rest e=>keyKind_strs (by rw [<- e]; exact a)) vl fun z f d=>⟨_,rfl,?_⟩) (args_list_sort _)));obtain ⟨c,D,p,v⟩:=sorted_out_str a f d;obtain ⟨y,C⟩:=sortedHeap_at (out:=(arrOf z).map (·.2)) g;refine wpAny_pure ⟨_,rfl,q _ s'.heap.objs.size _ c y (fun b o e=>?_) B x t ?_ C D (p.trans h) v⟩
 ·have i:=Heap.lt_size (k b o e);rw [sortedHeap_old (Nat.ne_of_lt i) (by rw [size_push']; exact Nat.lt_succ_of_lt i)];exact Heap.get?_push_of_some _ (k b o e)
 ·exact Nat.le_of_lt (Heap.lt_size j)
theorem JiN:∀ (vs:List Value),(∀ v∈vs, ∃ x t,v=.str x t)->StrsAre vs (vs.map strOf)
 | [],_=>.nil
 | v::vs,h=>by
  obtain ⟨x,t,rfl⟩:=h v (by simp);exact .cons x t (JiN vs fun u hu=>h u (by simp [hu]))
theorem JgI {K:Type} [DecidableEq K] {knd:PySem.KeyKind prog w K} {d:Addr} {kvs:List (K × Value)} {ep:Nat} {ss:List Str} {Q:Value->Shared->Prop} (hh:A.handled=none) (lo:(d == sysModules)=false) (hd:s.heap.DictAt knd d kvs ep) (h64:kvs.length<64)
  (hl:ss.length=kvs.length) (hk:∀ i k x v,kvs[i]?=some (k,x)->knd.is k v=true->∃ t,v=.str (ss.getD i ⟨#[]⟩) t)
  (q:∀ s' l (out:Array Value) ss' e,(∀ b o,s.heap.get? b=some o->s'.heap.get? b=some o)->s'.gens=s.gens->s'.os=s.os->s.toks<=s'.toks->s.heap.objs.size<=l->s'.heap.get? l=some (seqObj "list" out e)->StrsAre out.toList ss'->ss'.Perm ss->sortedS ss'=true->Q (.ref l) s') :
  wpAny (model prog w) A (call (.builtin "sorted") [.ref d]) Q E s:=by
 have L:(64:Nat)<=sizeLine:=by decide
 have G:=hd.lt_size;have O:A.in1.handled=none:=by simp [hh]
 refine JhF (ss:=ss) ∅ (fun R k=>?_) q;obtain ⟨y,u⟩:∃ y:Result->Shared->Prop, ∀ r s',y r s'↔∃ g z a j,r=.ok (.ret (.ref s.heap.objs.size))/\s'={ s with heap:=g,toks:=z }/\(∀ b o,b≠s.heap.objs.size->(s.heap.push { cls:=.type "list",data:=.seq ([]:List Value).toArray }).get? b=some o->g.get? b=some o)/\g.get? s.heap.objs.size=some { cls:=.type "list",dict:=none,data:=.seq a j,slots:=#[] }/\ItemsOf (fun i v=>∃ k x,kvs[i]?=some (k,x)/\knd.is k v=true) a kvs.length:=⟨_,fun _ _=>Iff.rfl⟩;have m:=codeAny_toks_of (n:=s.toks) (s:={ s with heap:=s.heap.push { cls:=.type "list",data:=.seq ([]:List Value).toArray } }) (Nat.le_refl _) (Jkn (A:=A.in1) (R:=y)
  (W.kdl_extend (R:=y) (s:={ s with heap:=s.heap.push { cls:=.type "list",data:=.seq ([]:List Value).toArray } }) (W.kdl_dict (knd:=knd) (kvs:=kvs) (ep:=ep) lo) O (hd.push _) s.heap.objs.size (Nat.ne_of_gt G) (Nat.ne_of_gt G) (.ref s.heap.objs.size) 0 (Heap.get?_push_size _ rfl) (fun g z a j C hl f=>(u _ _).mpr ⟨g,z,a,j,rfl,rfl,C,hl,f⟩) ∅))
 refine codeAny_mono m ?_;rintro r s' ⟨N,M⟩;obtain ⟨g,z,a,j,rfl,rfl,C,h,f⟩:=(u _ _).mp M;have P:StrsAre a.toList ss:=by
  have p:∀ v∈a.toList, ∃ x t,v=.str x t:=fun v J=>by
   obtain ⟨i,H⟩:=List.getElem?_of_mem J;rw [Array.getElem?_toList] at H;obtain ⟨D,x,B,F⟩:=f.2 i v H;obtain ⟨t,e⟩:=hk i D x v B F;exact ⟨_,t,e⟩
  have:=JiN _ p;have e:a.toList.map strOf=ss:=by
   refine List.ext_getElem? fun i=>?_;rw [List.getElem?_map,Array.getElem?_toList];have T:a.size=kvs.length:=f.1;by_cases c:i<kvs.length
   ·have B:a[i]?=some a[i]:=Array.getElem?_eq_getElem ∅;obtain ⟨D,x,F,I⟩:=f.2 i _ B;obtain ⟨t,S⟩:=hk i D x _ F I;rw [B,Option.map_some,S,List.getElem?_eq_getElem ∅];simp [strOf,List.getD_eq_getElem?_getD,List.getElem?_eq_getElem (show i<ss.length by ac_nf)]
   ·rw [Array.getElem?_eq_none ∅,List.getElem?_eq_none ∅];rfl
  rw [e] at this;exact this
 exact k _ a.toList j ss (fun b o e=>C b o (Nat.ne_of_lt (Heap.lt_size e)) (Heap.get?_push_of_some _ e)) rfl rfl N (by rw [Array.toArray_toList]; exact h) P (.refl _)
end
theorem Jkw:typeLookup (.type "list") "keys"=pure none:=by rw [typeLookup_type,builtinLookup_eq_fast]; kernel_rfl
section
variable {prog:Program} {w:World} {A:Around} {E:Value->Shared->Prop} {s:Shared} {a:Addr} {its:Array Value} {n:Nat}
theorem Jkr {Q:Option Value->Shared->Prop} (hh:A.handled=none) (hx:s.heap.get? a=some { cls:=.type "list",dict:=none,data:=.seq its n,slots:=#[] })
   (q:∀ h' t',(∀ b o,s.heap.get? b=some o->h'.get? b=some o)->Q none { s with heap:=h',toks:=t' }) :
    wpAny (model prog w) A (getAttr? (.ref a) "keys") Q E s:=by
  obtain ⟨j,g,d,k,i⟩:=s;have h:∀ c,(⟨j,g,d,c,i⟩:Shared).TypeIs (.ref a) "list":=fun _=>⟨_,hx,rfl⟩;have t:=sub_AttributeError;have l:=PySem.F.slot_list_getattribute.lookup;have p:=PySem.F.slot_list_getattribute.bind (.ref a);have u:=am_list_getattr_none;unfold getAttr?; unfold getAttrBy?; unfold getAttrBy;repeat (any_goals (first | assumption | exact h _ | ((with_reducible show wpAny _ _ (call (Value.builtin "list.__getattribute__") _ _) _ _ _); refine call_meets PySem.F.slot_list_getattribute (h _) am_entry_list_getattribute (PySem.F.args_list_getattribute_2 _ _) (meets_getattribute_miss_list a its n #[] "keys" _ Jkw (by decide +kernel) ⋯) ⟨hx,hh,fun h' c e f=>?_⟩) | wp_step))
  obtain ⟨t',m,r⟩:=f.there;show wpAny _ _ (getattributeRaised _ _ _ _ _ _ _) _ _ _;unfold getattributeRaised;repeat (any_goals (first | assumption | wp_step))
  exact q h' c f.keeps
end
theorem JfF:entryFor table "dict.update.loop"=some Builtin.«dict.update.loop»:=entryFor_of_tree (by kernel_rfl)
theorem Jdk:plainId "dict.update.loop"=true:=by decide +kernel
def dkv (key:Nat->Str) (val:Nat->Value) (i:Nat):List (Key × Value):=(List.range i).foldl (fun l j=>PySem.stored l (Sum.inr (key j)) (val j)) []
theorem JeY (key:Nat->Str) (val:Nat->Value) (i:Nat):dkv key val (i+1)=PySem.stored (dkv key val i) (Sum.inr (key i)) (val i):=by
 unfold dkv;rw [List.range_succ,List.foldl_append];rfl
theorem Jgg (key:Nat->Str) (val:Nat->Value):∀ i,(dkv key val i).length<=i
 | 0=>Nat.le_refl _
 | i+1=>by
  have:=Jgg key val i;rw [JeY];unfold PySem.stored;split <;> simp <;> ac_nf
section
variable {prog:Program} {w:World} {A:Around} {E:Value->Shared->Prop} {s:Shared}
def JdE (h:Heap) (a:Addr) (k v:Value):Prop:=∃ o c,h.get? a=some o/\o.cls=.type "tuple"/\o.data=.seq #[k,v] c
theorem JdE.at_ {h h':Heap} {a:Addr} {k v:Value} (x:JdE h a k v) (m:∀ o,h.get? a=some o->h'.get? a=some o):JdE h' a k v:=by
 obtain ⟨o,c,e,r⟩:=x;exact ⟨o,c,m o e,r⟩
theorem Jkz {z:Str} {t:Tok}:(Jaw prog w).is (Sum.inr z) (.str z t)=true:=by
 show keyIs (Sum.inr z) (.str z t)=true;simp [keyIs,Value.isStrOf]
theorem JhV {R:Result->Shared->Prop} {I:Addr} {fp wr:List Addr} {G:Array GenState->Array GenState->Prop} {n:Nat} {P:Nat->Value->Prop} {St:Nat->Shared->Prop}
  (W:WalksS prog w A.in1 I fp wr G n P St) (d:Addr) (hdf:d∉fp) (adr:Nat->Addr) (key:Nat->Str) (val:Nat->Value) (hP:∀ i v,P i v->v=.ref (adr i)) (nd:∀ i,i<n->adr i≠d) (nw:∀ i,i<n->adr i∉wr) (hz:n<=sizeLine) :
  ∀ (k i:Nat) (s:Shared),n-i=k->i<=n->St i s->s.heap.DictOf (Jaw prog w) d (dkv key val i)->(∀ j,j<n->∃ tk,JdE s.heap (adr j) (.str (key j) tk) (val j)) ->
   (∀ s',Moved (d::wr) G s s'->s'.heap.DictOf (Jaw prog w) d (dkv key val n)->R (.ok (.ret .none)) s') ->
   codeAny (model prog w) A (.builtin "dict.update.loop" ⟨[.ref d, .ref I, .int (i:Int) 0, .none],[]⟩) R s:=by
 have L:d∉wr:=fun h=>hdf (W.sub _ h);have O:∀ b∈wr,b∈d::wr:=fun b h=>mem_cons_of_mem _ h;intro k;induction k with
 | zero=>
  intro i s V Y F K l q;have : i=n:=by ac_nf
  subst this;refine codeAny_builtin JfF ?_;rw [Around.under_plainId Jdk _];refine wpAny_bind (m:=pyNext (.ref I)) (W.done s _ _ F fun s' f=>?_);refine wpAny_bind (m:=Builtin.Dict.addKeywords d []) (wpAny_pure (wpAny_pure ?_));refine q s' (f.mono O) ?_;obtain ⟨o,u,x,J,rest⟩:=K;exact ⟨o,u,x,f.heap d o L J,rest⟩
 | succ k ih=>
  intro i s V Y F K l q;have c:i<n:=by ac_nf
  refine codeAny_builtin JfF ?_;rw [Around.under_plainId Jdk _];refine wpAny_bind (m:=pyNext (.ref I)) (W.item i s _ _ c F fun v s' Q H f=>?_);rw [hP i v Q];have B:s'.heap.DictOf (Jaw prog w) d (dkv key val i):=by
   obtain ⟨o,u,x,J,rest⟩:=K;exact ⟨o,u,x,f.heap d o L J,rest⟩
  have a:∀ j,j<n->∃ tk,JdE s'.heap (adr j) (.str (key j) tk) (val j):=fun j g=>by
   obtain ⟨tk,e⟩:=l j g;exact ⟨tk,e.at_ fun o z=>f.heap _ o (nw j g) z⟩
  obtain ⟨tk,ot,ct,M,t,E⟩:=a i c;have dl:=Jgg key val i;refine wpAny_bind (wpAny_holding ?_);refine wpAny_bind (wpAny_tryCatch ?_);unfold Builtin.Dict.pairItems;refine wpAny_bind (wpAny_typeOf (T:="tuple") ⟨_,M,t⟩ ?_);rw [if_pos ⋯];unfold seqItems?;refine wpAny_bind (wpAny_bind (wpAny_load M ?_));rw [E];refine wpAny_pure (wpAny_pure ?_);show wpAny _ _ (holding [Value.str (key i) tk,val i] (dictSet d (.str (key i) tk) (val i))) _ _ _;refine wpAny_holding (wpAny_dictSet_pairs (knd:=Jaw prog w) (k:=Sum.inr (key i)) Jkz B (fun N X p=>?_) ∅);have y:N.DictOf (Jaw prog w) d (dkv key val (i+1)):=by
   rw [JeY];exact X
  refine wpAny_pure ⟨plainId_quiet Jdk _,ih (i+1) { s' with heap:=N,toks:=s'.toks+1 } ∅ c (W.frame _ s' _ _ H (Nat.le_succ _) fun b r o e=>?_) y (fun j g=>?_) fun U S D=>?_⟩
  ·rw [p.2 b (fun h:b=d=>hdf (h ▸ r))];exact e
  ·obtain ⟨C,Z⟩:=a j g;exact ⟨C,Z.at_ fun o z=>(p.2 _ (nd j g)).trans z⟩
  ·refine q U (Moved.trans W.gtrans ((f.mono O).then_heap (Nat.le_succ _) fun b o r e=>?_) S) D;rw [p.2 b (fun h:b=d=>r (by rw [h]; exact mem_cons_self))];exact e
theorem JdW {l:Addr} {items:Array Value} {c0:Nat} {Q:Value->Shared->Prop} (hh:A.handled=none) (hl:s.heap.get? l=some { cls:=.type "list",dict:=none,data:=.seq items c0,slots:=#[] }) (adr:Nat->Addr) (key:Nat->Str) (val:Nat->Value)
  (hP:∀ (i:Nat) (v:Value),items[i]?=some v->v=.ref (adr i)) (tup:∀ j,j<items.size->∃ tk,JdE s.heap (adr j) (.str (key j) tk) (val j)) (hz:items.size<=sizeLine)
  (q:∀ h' tk,(∀ b o,s.heap.get? b=some o->h'.get? b=some o)->h'.DictOf (Jaw prog w) s.heap.objs.size (dkv key val items.size)->Q (.ref s.heap.objs.size) { s with heap:=h',toks:=tk }) :
  wpAny (model prog w) A (call (.type "dict") [.ref l]) Q E s:=by
 refine callType_codes (Q₁:=fun f I=>f=.ref s.heap.objs.size/\I={ s with heap:=s.heap.push { cls:=.type "dict",data:=.dict #[] } }) (PySem.F.kt_called_dict) (PySem.F.kt_typeCall_dict_1 _) (PySem.F.entry_dict_init) (kt_code_dict_new _ ⟨rfl,rfl⟩) ?_;rintro f I ⟨rfl,rfl⟩;have g:(s.heap.push { cls:=.type "dict",data:=.dict #[] }).DictOf (Jaw prog w) s.heap.objs.size []:=Heap.DictOf.new s.heap;refine ⟨g.typeIs,PySem.F.args_dict_init_2 _ _,?_⟩;generalize m:({ cls:=.type "dict",data:=.dict #[] }:Obj)=o0 at g ⊢;have u:(s.heap.push o0).get? l=some { cls:=.type "list",dict:=none,data:=.seq items c0,slots:=#[] }:=Heap.get?_push_of_some _ hl;have R:=Heap.lt_size hl;have V:(s.heap.push o0).objs.size=s.heap.objs.size+1:=Heap.size_push ..;unfold Builtin.«dict.__init__»;refine wpAny_bind ?_;unfold Builtin.Dict.selfAndRest;refine wpAny_bind (wpAny_notOrdered_dict g.typeIs (wpAny_pure ?_));show wpAny _ _ (Builtin.Dict.updateFrom "dict.__init__" s.heap.objs.size (.ref l) [] Value.none) _ _ _;unfold Builtin.Dict.updateFrom;refine wpAny_bind (wpAny_typeOf (T:="list") ⟨_,u,rfl⟩ ?_);rw [if_pos ⋯];have K:A.in1.in1.handled=none:=by simp [hh]
 refine wpAny_bind (Jkr K u fun d J k=>?_);refine wpAny_ite_split (fun _=>?_) (fun z=>absurd rfl z);refine wpAny_bind (wpAny_rule ?_);have x:=k _ _ u;have G:d.DictOf (Jaw prog w) s.heap.objs.size []:=by
  obtain ⟨o,C,D,m,rest⟩:=g;exact ⟨o,C,D,k _ _ m,rest⟩
 have dlt:s.heap.objs.size<d.objs.size:=by
  obtain ⟨o,C,D,m,rest⟩:=G;exact Heap.lt_size m
 have y:d.IsList l items:=⟨_,x,rfl,c0,rfl⟩;refine wpAny_bind (wpAny_pyIter_list (s:=⟨d,s.gens,s.drawn,J,s.os⟩) y ?_);have H:∀ j,j<items.size->adr j<s.heap.objs.size:=fun j a=>by
  obtain ⟨tk,o,c,e,_⟩:=tup j a;exact Heap.lt_size e
 have r:l<d.objs.size:=Heap.lt_size x;have t:A.in1.in1.handled=none:=by simp [hh]
 refine wpAny_pure ⟨plainId_quiet Jdk _,?_⟩;refine JhV ((Walks.list t d.objs.size l (Nat.ne_of_lt r) items).toS) s.heap.objs.size (by simp only [mem_cons,not_mem_nil,or_false,not_or]; exact ⟨Nat.ne_of_lt dlt,Nat.ne_of_gt R⟩) adr key val hP (fun j a=>Nat.ne_of_lt (H j a)) (fun j a=>by simp only [mem_cons,not_mem_nil,or_false]; exact Nat.ne_of_lt (Nat.lt_trans (H j a) dlt)) hz items.size 0 _ ∅ (Nat.zero_le _) ⟨⟨_,Heap.get?_push_size _ rfl,rfl,rfl⟩,y.push _⟩ (G.push _) (fun j a=>?_) fun M h O=>?_
 ·obtain ⟨tk,e⟩:=tup j a;exact ⟨tk,e.at_ fun o z=>Heap.get?_push_of_some _ (k _ _ (Heap.get?_push_of_some _ z))⟩
 ·obtain ⟨h',L,U,n,p⟩:=M;have S:L=s.gens:=h.gens;have N:U=s.drawn:=h.drawn;have P:p=s.os:=h.os;subst S;subst N;subst P;refine ⟨rfl,q h' n (fun b o e=>?_) O⟩;have B:=Heap.lt_size e;refine h.heap b o ?_ (Heap.get?_push_of_some _ (k _ _ (Heap.get?_push_of_some _ e)));simp only [mem_cons,not_mem_nil,or_false,not_or];exact ⟨Nat.ne_of_lt B,Nat.ne_of_lt (Nat.lt_trans B dlt)⟩
end
section
variable {X:Cx} {pins:List (Addr × Obj)} {σ : List (Option V)} {H:Hp} {s s':Shared}
theorem Inv.like (I:Inv X pins σ H { s with heap:=s'.heap,toks:=s'.toks }) (eg:s'.gens=s.gens) (eo:s'.os=s.os):Inv X pins σ H s' :=
 ⟨I.ok,by rw [eo]; exact I.os,by rw [eg]; exact I.bare,I.base,I.loc,I.cell,I.free,I.freeC,I.pin,I.hok,I.len⟩
theorem Jf8:∀ {vs:List Value} {ss:List Str},StrsAre vs ss->Vals (ss.map V.str) vs
 | _,_, .nil=>.nil
 | _,_, .cons z t r=>.cons ⟨t,rfl⟩ (Jf8 r)
def Jj4 (out ss:List Str):Prop:=out.Perm ss/\sortedS out=true
def JlH (xs:List V) (H:Hp) (Q:VK):Prop:=∃ d kvs ss,xs=[.ref d]/\H d=some (.dK kvs)/\kvs.map (·.1)=ss.map Sum.inr/\ss.length<64/\∀ l out,H l=none->Jj4 out ss->Q (.ref l) (upd H l (.lst (out.map V.str)))
theorem JeG (hc:X.calm=true):CallR X (.builtin "sorted") JlH:=by
 intro E s σ H xs us Q I r h;obtain ⟨d,c,ss,rfl,e,B,Z,q⟩:=h;obtain ⟨u,rfl,O⟩:=vals1 r;cases O;obtain ⟨P,Y,A,g,F⟩:=dk_of I.hok e;obtain ⟨ep,G⟩:=F.dictAt;have sl:(64:Nat)<=sizeLine:=by decide
 have N:ss.length=c.length:=by simpa using (congrArg List.length B).symm
 have S:A.length=c.length:=g.length.symm;have f:A.map (·.1)=c.map (·.1):=by
  clear F G B N S P q e;induction g with
  | nil=>rfl
  | cons h1 _ ih=>
   rw [map_cons,map_cons,ih,h1.1]
 refine JgI (ss:=ss) (I.ok.hd hc) Y G ∅ ∅ (fun i k x v T M=>?_) fun D l j a L k U R et C W J p m=>?_
 ·have K:(A.map (·.1))[i]?=some k:=by rw [List.getElem?_map,T]; rfl
  rw [f,B,List.getElem?_map] at K;obtain ⟨z,n,rfl⟩:=Option.map_eq_some_iff.mp K;rcases JaN (show keyIs (Sum.inr z) v=true from M) with ⟨b,hb,_⟩ | ⟨y,t,hy,rfl⟩
  ·cases hb
  ·cases hy;exact ⟨t,by rw [List.getD_eq_getElem?_getD,n]; rfl⟩
 ·have lo:j.toList.length<=sizeLine:=by
   rw [J.length,p.length_eq];ac_nf
  refine ⟨.ref l,_,Inv.like (s:=s) (I.laid (t':=D.toks) (o:=.lst (a.map V.str)) k C (show ObjOk X.prog X.w _ D.heap l (.lst (a.map V.str)) from ⟨by rw [length_map,p.length_eq]; ac_nf,j.toList,L,Jf8 J,by rw [Array.toArray_toList]; exact W⟩)) U R,rfl,q l a (I.hok.fresh C) ⟨p,m⟩⟩
def JdH (ps:List (Str × V)):List (Key × V):=ps.foldl (fun l p=>putK l (Sum.inr p.1) p.2) []
def JlE (xs:List V) (H:Hp) (Q:VK):Prop:=∃ (l:Addr) (as:List Addr) (ps:List (Str × V)),xs=[.ref l]/\H l=some (.lst (as.map V.ref))/\as.length=ps.length/\(∀ (i:Nat) (a:Addr) (p:Str × V),as[i]?=some a->ps[i]?=some p->H a=some (.tup [.str p.1,p.2]))/\∀ d,H d=none->Q (.ref d) (upd H d (.dK (JdH ps)))
theorem Jhh (hc:X.calm=true):CallR X (.type "dict") JlE:=by
 intro O s σ H xs us Q I r h;obtain ⟨l,b,d,rfl,e,hl,W,q⟩:=h;obtain ⟨u,rfl,rx⟩:=vals1 r;cases rx;obtain ⟨hz,D,n,ri,J,el⟩:=I.lstM e;have K:b.length<=sizeLine:=by simpa using hz
 have li:D.length=b.length:=by simpa using J.symm
 have S:∀ j,j<b.length->∃ u a p f,b[j]?=some a/\d[j]?=some p/\RelV p.2 u/\JdE s.heap a (.str p.1 f) u:=fun j A=>by
  have C:=List.getElem?_eq_getElem A;have w:=List.getElem?_eq_getElem (l:=d) (i:=j) ∅;obtain ⟨_,ts,y,o,ho,G,Z,Y⟩:=I.hok _ _ (W j _ _ C w);cases y with
  | cons r1 y=>
   cases y with
   | cons r2 y=>
    cases y;obtain ⟨f,rfl⟩:=r1;exact ⟨_,_,_,f,C,w,r2,o,Z,ho,G,Y⟩
 obtain ⟨B,g⟩:=Classical.skolem.mp (show ∀ j:Nat, ∃ u:Value,j<b.length->∃ a p f,b[j]?=some a/\d[j]?=some p/\RelV p.2 u/\JdE s.heap a (.str p.1 f) u from fun j=>by
  by_cases c:j<b.length
  ·obtain ⟨u,h⟩:=S j c;exact ⟨u,fun _=>h⟩
  ·exact ⟨.none,fun z=>absurd z c⟩)
 have m:∀ j a,b[j]?=some a->b.getD j 0=a:=fun j a h=>by rw [List.getD_eq_getElem?_getD,h]; rfl
 have t:∀ j (p:Str × V),d[j]?=some p->(d.getD j (⟨#[]⟩, .non)).1=p.1:=fun j p h=>by rw [List.getD_eq_getElem?_getD,h]; rfl
 have F:D.toArray.size=b.length:=by rw [size_toArray]; exact li
 refine JdW (I.ok.hd hc) el (fun j=>b.getD j 0) (fun j=>(d.getD j (⟨#[]⟩, .non)).1) B (fun j v E=>?_) (fun j A=>?_) ∅ fun h' f k P=>?_
 ·rw [List.getElem?_toArray] at E;have A:j<b.length:=by have:=(List.getElem?_eq_some_iff.mp E).1; ac_nf
  obtain ⟨u,M,T⟩:=ri.get (i:=j) (x:=.ref b[j]) (by rw [List.getElem?_map,List.getElem?_eq_getElem A]; rfl);rw [E] at M;cases M;rw [m j _ (List.getElem?_eq_getElem A)];exact T
 ·obtain ⟨a,p,f,C,w,R,N⟩:=g j ∅;refine ⟨f,?_⟩;rw [m j a C,t j p w];exact N
 ·have L:∀ i,i<=b.length->KV (JdH (d.take i)) (dkv (fun j=>(d.getD j (⟨#[]⟩, .non)).1) B i):=fun i=>by
   induction i with
   | zero=>intro _; exact .nil
   | succ i ih=>
    intro hi;obtain ⟨a,p,f,C,w,R,N⟩:=g i ∅;rw [JeY,take_succ,w];unfold JdH;rw [List.foldl_append];rw [t i p w];exact (ih ∅).put _ R
  have r:=L b.length (Nat.le_refl _);rw [take_of_length_le ∅] at r;have U:(JdH d).length<=sizeLine:=by
   rw [r.length];exact Nat.le_trans (Jgg _ _ _) K
  rw [F] at P;exact ⟨.ref s.heap.objs.size,_,I.laid (a:=s.heap.objs.size) (o:=.dK (JdH d)) (t':=f) k (Nat.le_refl _) (JgT U (beq_eq_false_iff_ne.mpr (Ne.symm (Nat.ne_of_lt I.big))) r P),rfl,q _ (I.hok.fresh (Nat.le_refl _))⟩
end
def JhJ (ts:List TD) (out:List Str):Prop:=out.Nodup/\sortedS out=true/\∀ z,z∈out↔∃ t∈ts,z=t.st\/z=t.en
theorem JhJ.nil {l:List Str} (h:JhJ [] l):l=[]:=by
 cases l with
 | nil=>rfl
 | cons a l=>
  have:=(h.2.2 a).mp (by simp);simp at this
abbrev Pl:=List (Str × (Int × Int))
def look (ps:Pl) (z:Str):Int × Int:=((ps.find? fun p=>decide (p.1=z)).map (·.2)).getD (0,1)
def negF (a:Int × Int):Int × Int:=(-a.1,a.2)
def apart (ps:Pl) (t:TD):Int × Int:=addF (look ps t.en) (negF (look ps t.st))
def lessF (a c:Int × Int):Bool:=decide (a.1*c.2<c.1*a.2)
structure FB (A B:Nat) (a:Int × Int):Prop where
 s1:Mth.Sz A a.1
 s2:Mth.Sz B a.2
 b1:1<=a.2
 g1:Mth.g a.1 a.2=1
theorem FB.ok {A B n:Nat} {a:Int × Int} (h:FB A B a) (h1:A<=n) (h2:B<=n):FOk n a:=⟨h.s1.mono h1,h.s2.mono h2,h.b1,h.g1⟩
theorem FB.neg {A B:Nat} {a:Int × Int} (h:FB A B a):FB A B (negF a):=⟨by
 have:=h.s1;unfold Mth.Sz at this ⊢;unfold negF;rw [Int.natAbs_neg];exact this,h.s2,h.b1,by
 have:=h.g1;unfold Mth.g negF at *;simpa using this⟩
theorem FB.add {A B C D n m:Nat} {a c:Int × Int} (h:FB A B a) (k:FB C D c) (h1:A+D<=n) (h2:C+B<=n) (h3:B+D<=m):FB (n+1) m (addF a c):=by
 have b:a.2*c.2≠0:=Int.mul_ne_zero (by have:=h.b1; ac_nf) (by have:=k.b1; ac_nf);have e:=(h.s1.mul k.s2).mono h1;have d:=(k.s1.mul h.s2).mono h2;exact ⟨Mth.Sz.top b (e.add d),(Mth.Sz.bot b (h.s2.mul k.s2)).mono h3,Mth.JcV b,Mth.g_low b⟩
theorem FB.low {A B:Nat} {t b:Int} (hb:1<=b) (h1:Mth.Sz A t) (h2:Mth.Sz B b):FB A B (Mth.top t b,Mth.bot t b):=by
 have a:b≠0:=by ac_nf
 exact ⟨Mth.Sz.top a h1,Mth.Sz.bot a h2,Mth.JcV a,Mth.g_low a⟩
theorem JkK {X:Cx} {K:W.Frag} {e:Expr} {ta:TE} {f:Str} {pos:Pos} (hK:X.K=K) (he:PE X e ta) (hb:attributeBase e f X.env (eval e X.env)=eval e X.env):PE X (.Attribute e f pos) (tFld K ta f):=by
 subst hK;exact Jas he hb
structure FW (A B:Nat) (a:Int × Int):Prop where
 s1:Mth.Sz A a.1
 s2:Mth.Sz B a.2
 b1:1<=a.2
theorem FB.w {A B:Nat} {a:Int × Int} (h:FB A B a):FW A B a:=⟨h.s1,h.s2,h.b1⟩
theorem FW.mono {A B C D:Nat} {a:Int × Int} (h:FW A B a) (h1:A<=C) (h2:B<=D):FW C D a:=⟨h.s1.mono h1,h.s2.mono h2,h.b1⟩
section
variable {X:Cx} {K:W.Frag} {o e:Expr} {es:List Expr} {to:TE} {t:TA} {name:Str} {apos cpos:Pos} {T id:String} {r:V->List V->Hp->VK->Prop}
end
section
variable {X:Cx}
theorem JiX {kvs:List (Key × V)} {vs:List (Key × Value)} (r:KV kvs vs):Vals (kvs.map (·.2)) (vs.map (·.2)):=by
 unfold KV at r;induction r with
 | nil=>exact .nil
 | cons h _ ih=>exact .cons h.2 ih
end
section
variable {prog:Program} {w:World} {A:Around} {E:Value->Shared->Prop} {s:Shared}
end
section
variable {X:Cx}
end
section
variable {X:Cx} {k k':Nat} {x mn:Str} {C:Addr} {Cs:Addr->Prop} {ps:List Str} {sp:Sp} {p pos apos:Pos} {e o:Expr} {es:List Expr} {t:TA} {ta:TE}
abbrev TX:=St->Hp->VK->XK->Prop
def xMake (C:Addr) (sp:Sp) (t:TA):TX:=fun σ H Q E=>t σ H fun vs H1=>∀ x dx,H1 x=none->H1 dx=none->dx≠x ->
 sp (.ref x::(vs++[])) (upd (upd H1 dx (.own x)) x (.ins C dx [])) (fun v H2=>v=.non/\Q (.ref x) H2) E
end
section
variable {X:Cx}
theorem Jin:OpR X (compareOp .NotIn) (rIn X.K true):=JfT
end
section
variable {σ : St} {H:Hp} {Q:VK} {E:XK} {ta td ty:TE} {ts:TA} {tc:TT} {t u:TX} {C:Addr} {sp:Sp} {Cs:Addr->Prop} {m:Str}
theorem y98y:xMake C sp ts σ H Q E=ts σ H fun vs H1=>∀ x dx,H1 x=none->H1 dx=none->dx≠x->sp (.ref x::(vs++[])) (upd (upd H1 dx (.own x)) x (.ins C dx [])) (fun v H2=>v=.non/\Q (.ref x) H2) E:=rfl
theorem y40y:tDIn ty td σ H Q=ty σ H fun y H1=>td σ H1 fun x H2=>∃ a o,x=.ref a/\DGet H2 a y o/\Q (.bl o.isSome) H2:=rfl
theorem y44y:JiP ty td σ H Q=ty σ H fun y H1=>td σ H1 fun x H2=>∃ a o,x=.ref a/\DGet H2 a y o/\Q (.bl (!o.isSome)) H2:=rfl
end
section
variable {α κ : Type} [DecidableEq κ] {f : α->κ} {k : κ} {u y : α}
end
section
variable {α : Type} {P : α->V->Prop}
end
abbrev nms (ts:List TD):List Str:=ts.map (·.nm)
def BD (P:TD->V->Prop) (ts:List TD) (kvs:List (Key × V)):Prop:=kvs.map (·.1)=ts.map (fun t=>Sum.inr t.nm)/\All2 P ts (kvs.map (·.2))
section
variable {P P':TD->V->Prop} {ts:List TD} {kvs:List (Key × V)} {t:TD} {v:V}
theorem BD.cons:BD P (t::ts) kvs↔∃ w r,kvs=(Sum.inr t.nm,w)::r/\P t w/\BD P ts r:=by
 constructor
 ·rintro ⟨a,b⟩;match kvs,a,b with
  | (k,w)::r,a,b=>
   rw [map_cons,map_cons,List.cons.injEq] at a;obtain ⟨y,d,e,p,b⟩:=b;rw [map_cons,List.cons.injEq] at e;obtain ⟨rfl,rfl⟩:=e;obtain ⟨c,a⟩:=a;have c:k=Sum.inr t.nm:=c;subst c;exact ⟨_,r,rfl,p,a,b⟩
 ·rintro ⟨w,r,rfl,p,h⟩;exact ⟨by rw [map_cons,map_cons,h.1],w,r.map (·.2),rfl,p,h.2⟩
theorem BD.nil:BD P [] kvs↔kvs=[]:=by
 constructor
 ·rintro ⟨h,_⟩;simpa using h
 ·rintro rfl;exact ⟨rfl,rfl⟩
end
def nameL:List Str:=["a","aa","aaa","b","ab","zzzzzzzz"]
theorem sub_len {α : Type} [DecidableEq α]:∀ (l m:List α),l.Nodup->l ⊆ m->l.length<=m.length
 | [],m,_,_=>by simp
 | a::l,m,hn,hs=>by
  rw [nodup_cons] at hn;have ha:a∈m:=hs (by simp);have:=sub_len l (m.erase a) hn.2 fun x hx=>(List.mem_erase_of_ne (show x≠a from fun e=>hn.1 (e ▸ hx))).mpr (hs (by simp [hx]));rw [List.length_erase_of_mem ha] at this;have:=List.length_pos_of_mem ha;rw [length_cons];ac_nf
structure Good (ts:List TD):Prop where
 nd:(nms ts).Nodup
 ok:∀ t∈ts,TOk t
 nm:∀ t∈ts,t.nm∈nameL
theorem Good.len {ts:List TD} (g:Good ts):ts.length<=6:=by
 have:=sub_len (nms ts) nameL g.nd fun z a=>by
  obtain ⟨t,b,rfl⟩:=mem_map.mp a;exact g.nm t b
 rw [length_map] at this;exact this
section
variable {X:Cx} {pins:List (Addr × Obj)} {σ : St} {H:Hp} {s:Shared} {a:Addr} {kvs:List (Key × V)} {k:Key} {u r:Value} {y:V} {A:Around} {E:Value->Shared->Prop}
theorem Jjv {v:Option V} {o:Option Value} {w:Value} (h:RelO v o) (e:o=some w):∃ x,v=some x/\RelV x w:=by
 subst e;cases v with
 | none=>exact absurd h (by simp [RelO])
 | some x=>exact ⟨x,rfl,h⟩
theorem Jju {v:Option V} {o:Option Value} (h:RelO v o) (e:o=none):v=none:=by
 subst e;cases v with
 | none=>rfl
 | some x=>exact absurd h (by simp [RelO])
theorem Ji5 {Q:Value->Shared->Prop} (I:Inv X pins σ H s) (e:H a=some (.dK kvs)) (ry:RelV (kV k) u) (rd:RelV y r) (hl:kvs.length<sizeLine)
  (h1:∀ v w' s',valV kvs k=some v->Inv X pins σ H s'->RelV v w'->Q w' s') (h2:∀ s',valV kvs k=none->Inv X pins σ (upd H a (.dK (putK kvs k y))) s'->Q r s') :
  wpAny (model X.prog X.w) A (call (.builtin "dict.setdefault") [.ref a,u,r]) Q E s:=by
 obtain ⟨z,d,p,b,f⟩:=dk_of I.hok e;refine call_meetsIn PySem.F.slot_dict_setdefault f.typeIs PySem.F.entry_dict_setdefault (PySem.F.args_dict_setdefault_3 _ _ _) (PySem.kt_meets_setdefault (Jaw X.prog X.w) a (kV_is ry) d r) ⟨p,f,by rw [<- b.length]; exact z,fun w i=>?_,fun o l c n=>?_⟩
 ·obtain ⟨x,g,j⟩:=Jjv (b.val k) i;exact h1 x w _ g (I.tok _) j
 ·have h:=Jju (b.val k) o;refine h2 _ h ?_;have t:∃ q,l.get? a=some q:=let ⟨q,_,_,hq,_⟩:=c; ⟨q,hq⟩;have m:(putK kvs k y).length<=sizeLine:=by have:=Jbj kvs k y; ac_nf
  exact JeX I (by rw [e]; exact True.intro) n t (JgT m d (b.put k rd) c)
end
def tDSet (td ty tx:TE):TE:=fun σ H Q=>td σ H fun x H1=>∃ a,x=.ref a/\IsD H1 a/\ty σ H1 fun y H2=>tx σ H2 fun z H3=>∃ kvs k,H3 a=some (.dK kvs)/\y=kV k/\kvs.length<sizeLine /\
 (∀ v,valV kvs k=some v->Q v H3)/\(valV kvs k=none->Q z (upd H3 a (.dK (putK kvs k z))))
section
variable {X:Cx} {o e f:Expr} {apos cpos:Pos} {td ty tx:TE}
theorem Jis (ho:PE X o td) (he:PE X e ty) (hf:PE X f tx) (m:M2 X o "setdefault" apos e f cpos):PE X (.Call (.Attribute o "setdefault" apos) [e,f] [] cpos) (tDSet td ty tx):=by
 intro b s σ H Q I h;refine wpAny_Call_method m.base m.few m.line PySem.F.plainAttrs_dict PySem.F.slot_dict_setdefault PySem.F.type_dict_setdefault (thn (ho b s σ H _ I h) fun u N ⟨x,M,I1,A,a,j,d,l⟩=>?_);subst j;obtain rfl:u=Value.ref a:=A;obtain ⟨n,p,_⟩:=JfH I1 d;refine ⟨n,p,?_⟩;rw [m.trees];refine Calls.callWith_builtin rfl (Calls.evalArgs_plain (Calls.spliced_cons (thn (he b N σ M _ I1 l) fun O w ⟨y,G,I2,r,K⟩=>
  Calls.spliced_cons (thn (hf b w σ G _ I2 K) fun S R ⟨z,L,I3,i,D,k,J,C,q,E,B⟩=>Calls.spliced_nil ?_))))
 subst C;exact Ji5 I3 J r i q (fun v P t c I4 g=>⟨v,L,I4,g,E v c⟩) fun t c I4=>⟨z,_,I4,i,B c⟩
end
section
variable {X:Cx}
def JkS:V->List V->Hp->VK->Prop:=fun x vs H Q=>∃ l xs y n,x=.ref l/\vs=[.int ((n:Nat):Int),y]/\H l=some (.lst xs)/\n<=xs.length/\xs.length<sizeLine/\Q .non (upd H l (.lst (xs.take n++y::xs.drop n)))
theorem Jib:MtM X "list.insert" JkS:=by
 intro d s σ H x E v L Q I o b h;obtain ⟨l,K,y,i,rfl,rfl,c,J,G,q⟩:=h;cases o;cases b with
 | cons r1 b=>
  obtain ⟨t,rfl⟩:=r1;obtain ⟨u,rfl,m⟩:=vals1 b;obtain ⟨z,a,n,r,D,e⟩:=I.lstM c;have B:=sizeLine_eq;have C:=fitsIndex_both (k:=(i:Int)) ∅ ∅;have f:¬ (!Builtin.List.listFitsIndex (i:Int))=true:=by rw [C]; decide
  have A:a.toArray.size<=sizeLine:=by rw [size_toArray]; ac_nf
  clear B;generalize hj:(i:Int)=j at f ⊢;have g:=@AutoSeq1.list_insert_list_int_val_1 l a.toArray n j t u f A;refine call_meets F.slot_list_insert ⟨_,e,rfl⟩ F.entry_list_insert (F.args_list_insert_3 _ _ _) g ⟨e,?_⟩;refine ⟨.non,_,I.lset (its':=a.take i++u::a.drop i) c e ?_ ?_ ?_,rfl,q⟩
  ·subst hj;have p:min i a.length=i:=by ac_nf
   have w:(if (i:Int)<0 then ((i:Int)+(a.toArray.size:Int)).toNat else min (i:Int).toNat a.toArray.size)=i:=by
    rw [if_neg ∅,Int.toNat_natCast,size_toArray,p]
   show (a.toArray.extract 0 (if (i:Int)<0 then ((i:Int)+(a.toArray.size:Int)).toNat else min (i:Int).toNat a.toArray.size)).push u++a.toArray.extract (if (i:Int)<0 then ((i:Int)+(a.toArray.size:Int)).toNat else min (i:Int).toNat a.toArray.size)=_;rw [w];apply Array.ext';simp;exact take_of_length_le (by rw [List.length_drop]; exact Nat.le_refl _)
  ·exact (r.take i).append (.cons m (r.drop i))
  ·rw [length_append,length_cons,length_take,List.length_drop];ac_nf
end
section
variable {σ : St} {H:Hp} {Q:VK} {td ty tx:TE}
theorem y48y:tDSet td ty tx σ H Q=td σ H fun x H1=>∃ a,x=.ref a/\IsD H1 a/\ty σ H1 fun y H2=>tx σ H2 fun z H3=>∃ kvs k,H3 a=some (.dK kvs)/\y=kV k/\kvs.length<sizeLine/\(∀ v,valV kvs k=some v->Q v H3)/\(valV kvs k=none->Q z (upd H3 a (.dK (putK kvs k z)))):=rfl
theorem y3fy:JjW td ty tx σ H Q=td σ H fun x H1=>∃ a,x=.ref a/\IsD H1 a/\ty σ H1 fun y H2=>tx σ H2 fun z H3=>∃ o,DGet H3 a y o/\Q (o.getD z) H3:=rfl
theorem y41y {trs:List (TE × TE)}:tDisp trs σ H Q=∀ p,H p=none->Jf3 trs σ (upd H p (.dK [])) fun ps H2=>H2 p=some (.dK [])/\∃ kvs:List (Key × V),ps=kvs.map (fun kv=>(kV kv.1,kv.2))/\kvs.length<=15/\Q (.ref p) (upd H2 p (.dK (JeO [] kvs))):=rfl
theorem y7cy {tk tv:TE} {R:List (V × V)->Hp->Prop}:Jf3 [(tk,tv)] σ H R=tk σ H fun x H1=>tv σ H1 fun y H2=>R [(x,y)] H2:=rfl
theorem y2dy {K:W.Frag} {T:String} {r:V->List V->Hp->VK->Prop} {to:TE}:tBM0 K T r to σ H Q=to σ H fun x H1=>tyV K T x H1/\r x [] H1 Q:=rfl
end
def BG {α : Type} (f : α->Str) (P : α->V->Prop) (as:List α) (kvs:List (Key × V)):Prop:=kvs.map (·.1)=as.map (fun a=>Sum.inr (f a))/\All2 P as (kvs.map (·.2))
section
variable {α : Type} {f : α->Str} {P P' : α->V->Prop} {as:List α} {kvs:List (Key × V)} {a : α} {v:V}
theorem BG.mono (h:BG f P as kvs) (m:∀ a x,P a x->P' a x):BG f P' as kvs:=⟨h.1,h.2.mono m⟩
theorem BG.length (h:BG f P as kvs):kvs.length=as.length:=by simpa using congrArg List.length h.1
theorem BG.cons:BG f P (a::as) kvs↔∃ w r,kvs=(Sum.inr (f a),w)::r/\P a w/\BG f P as r:=by
 constructor
 ·rintro ⟨b,c⟩;match kvs,b,c with
  | (k,w)::r,b,c=>
   rw [map_cons,map_cons,List.cons.injEq] at b;obtain ⟨y,g,e,p,c⟩:=c;rw [map_cons,List.cons.injEq] at e;obtain ⟨rfl,rfl⟩:=e;obtain ⟨d,b⟩:=b;have d:k=Sum.inr (f a):=d;subst d;exact ⟨_,r,rfl,p,b,c⟩
 ·rintro ⟨w,r,rfl,p,h⟩;exact ⟨by rw [map_cons,map_cons,h.1],w,r.map (·.2),rfl,p,h.2⟩
theorem BG.nil:BG f P [] kvs↔kvs=[]:=by
 constructor
 ·rintro ⟨h,_⟩;simpa using h
 ·rintro rfl;exact ⟨rfl,rfl⟩
theorem BG.any:∀ {as:List α} {kvs:List (Key × V)} {z:Str},BG f P as kvs->(kvs.any fun kv=>decide (kv.1=Sum.inr z))=decide (z∈as.map f)
 | [],kvs,z,h=>by rw [BG.nil.mp h]; simp
 | a::as,kvs,z,h=>by
  obtain ⟨w,r,rfl,_,h⟩:=BG.cons.mp h;rw [any_cons,BG.any h];by_cases c:f a=z
  ·subst c;simp
  ·have c1:(Sum.inr (f a):Key)≠Sum.inr z:=fun e=>c (by injection e);have c2:z≠f a:=fun e=>c e.symm;simp [c1,c2]
theorem BG.get:∀ {as:List α} {kvs:List (Key × V)} {z:Str},BG f P as kvs->(∃ a v,a∈as/\f a=z/\valV kvs (Sum.inr z)=some v/\P a v)\/(z∉as.map f/\valV kvs (Sum.inr z)=none)
 | [],kvs,z,h=>by
  rw [BG.nil.mp h];exact .inr ⟨by simp,rfl⟩
 | a::as,kvs,z,h=>by
  obtain ⟨w,r,rfl,p,h⟩:=BG.cons.mp h;by_cases c:f a=z
  ·subst c;exact .inl ⟨a,w,by simp,rfl,Jbc rfl,p⟩
  ·have c1:(Sum.inr (f a):Key)≠Sum.inr z:=fun e=>c (by injection e);have c2:z≠f a:=fun e=>c e.symm;have e:valV ((Sum.inr (f a),w)::r) (Sum.inr z)=valV r (Sum.inr z):=by simp [valV,List.find?_cons,c1]
   rw [e];rcases BG.get h (z:=z) with ⟨b,v,h1,h2,h3,h4⟩ | ⟨h1,h2⟩
   ·exact .inl ⟨b,v,by simp [h1],h2,h3,h4⟩
   ·exact .inr ⟨by simp [c2]; simpa using h1,h2⟩
theorem BG.some {z:Str} (h:BG f P as kvs) (hz:z∈as.map f):∃ a v,a∈as/\f a=z/\valV kvs (Sum.inr z)=some v/\P a v:=by
 rcases h.get (z:=z) with h | ⟨h,_⟩
 ·exact h
 ·exact absurd hz h
theorem BG.none {z:Str} (h:BG f P as kvs) (hz:z∉as.map f):valV kvs (Sum.inr z)=none:=by
 rcases h.get (z:=z) with ⟨a,v,h1,h2,_⟩ | ⟨_,h⟩
 ·exact absurd (h2 ▸ List.mem_map_of_mem (f:=f) h1) hz
 ·exact h
theorem BG.val {z:Str} (h:BG f P as kvs):(valV kvs (Sum.inr z)).isSome=decide (z∈as.map f):=by
 by_cases c:z∈as.map f
 ·obtain ⟨a,v,_,_,e,_⟩:=h.some c;rw [e,decide_eq_true c];rfl
 ·rw [h.none c,decide_eq_false c];rfl
theorem BG.new (h:BG f P as kvs) (hn:f a∉as.map f) (p:P a v):BG f P (as++[a]) (putK kvs (Sum.inr (f a)) v):=by
 have e:putK kvs (Sum.inr (f a)) v=kvs++[(Sum.inr (f a),v)]:=by
  unfold putK;rw [h.any,if_neg (by simpa using hn)]
 rw [e];exact ⟨by rw [map_append,map_append,h.1]; rfl,by rw [map_append]; exact h.2.append (.one p)⟩
end
structure PD where
 nm:Str
 st:Str
 en:Str
 sz:Int × Int
 mo:Int × Int
 wt:Int
def JdG (p:PD) (f:Str):List (Str × Pr):=if p.st=f then [(p.en,(p.nm,true))] else if p.en=f then [(p.st,(p.nm,false))] else []
def JaF (ls:List PD) (f:Str):List (Str × Pr):=ls.flatMap fun p=>JdG p f
theorem Jd3 (ls:List PD) (p:PD) (f:Str):JaF (ls++[p]) f=JaF ls f++JdG p f:=by simp [JaF]
theorem Jbl {ls:List PD} {f g:Str} {pr:Pr}:(g,pr)∈JaF ls f↔∃ p∈ls,(p.st=f/\p.en=g/\pr=(p.nm,true))\/(p.st≠f/\p.en=f/\p.st=g/\pr=(p.nm,false)):=by
 unfold JaF;rw [mem_flatMap];refine exists_congr fun p=>and_congr_right fun _=>?_;unfold JdG;by_cases a:p.st=f
 ·rw [if_pos a,mem_singleton,Prod.mk.injEq];exact ⟨fun h=>.inl ⟨a,h.1.symm,h.2⟩,fun h=>h.elim (fun h=>⟨h.2.1.symm,h.2.2⟩) fun h=>absurd a h.1⟩
 ·rw [if_neg a];by_cases b:p.en=f
  ·rw [if_pos b,mem_singleton,Prod.mk.injEq];exact ⟨fun h=>.inr ⟨a,b,h.1.symm,h.2⟩,fun h=>h.elim (fun h=>absurd h.1 a) fun h=>⟨h.2.2.1.symm,h.2.2.2⟩⟩
  ·rw [if_neg b];exact ⟨fun h=>by simp at h,fun h=>h.elim (fun h=>absurd h.1 a) fun h=>absurd h.2.1 b⟩
theorem Jie:∀ {ls:List PD} {p q:PD},(ls.map (·.nm)).Nodup->p∈ls->q∈ls->p.nm=q.nm->p=q
 | [],_,_,_,hp,_,_=>by cases hp
 | a::ls,p,q,hn,hp,hq,e=>by
  rw [map_cons,nodup_cons] at hn;rcases mem_cons.mp hp with h1 | h1 <;> rcases mem_cons.mp hq with h2 | h2
  ·rw [h1,h2]
  ·subst h1;exact absurd (e ▸ mem_map.mpr ⟨q,h2,rfl⟩) hn.1
  ·subst h2;exact absurd (e ▸ mem_map.mpr ⟨p,h1,rfl⟩) hn.1
  ·exact Jie hn.2 h1 h2 e
inductive Jbk (ls:List PD) (a:Str):List Pr->Str->Prop
 | nil:Jbk ls a [] a
 | snoc {w:List Pr} {f g:Str} {pr:Pr}:Jbk ls a w f->(g,pr)∈JaF ls f->Jbk ls a (w++[pr]) g
def Conn (ls:List PD) (a b:Str):Prop:=∃ w,Jbk ls a w b
theorem Jke {ls:List PD} {a b:Str} {S:List Str} (ha:a∈S) (hc:∀ f∈S, ∀ e∈JaF ls f,e.1∈S) (h:Conn ls a b):b∈S:=by
 obtain ⟨w,h⟩:=h;induction h with
 | nil=>exact ha
 | snoc _ hm ih=>exact hc _ ih _ hm
def fcsOf (ls:List PD):List Str:=ls.flatMap fun p=>[p.st,p.en]
theorem JgZ {ls:List PD} {f:Str} {e:Str × Pr} (h:e∈JaF ls f):e.1∈fcsOf ls:=by
 obtain ⟨p,b,a⟩:=mem_flatMap.mp h;refine mem_flatMap.mpr ⟨p,b,?_⟩;unfold JdG at a;split at a
 ·rw [mem_singleton.mp a];simp
 ·split at a
  ·rw [mem_singleton.mp a];simp
  ·simp at a
theorem Jhg {ls:List PD} {a b:Str} {w:List Pr} (h:Jbk ls a w b):b∈a::fcsOf ls:=by
 cases h with
 | nil=>simp
 | snoc _ hm=>exact mem_cons_of_mem _ (JgZ hm)
theorem Jkj (ls:List PD):(fcsOf ls).length=2*ls.length:=by
 unfold fcsOf;induction ls with
 | nil=>rfl
 | cons p ls ih=>
  rw [List.flatMap_cons,length_append,ih];simp;ac_nf
section
variable {X:Cx} {pins:List (Addr × Obj)} {σ : List (Option V)} {H H':Hp} {s s':Shared} {d:Addr} {kvs kvs':List (Key × V)} {od:Obj}
theorem Inv.freeze (I:Inv X pins σ H s) (e:H d=some (.dK kvs)) (ho:s.heap.get? d=some od):Inv X pins σ (upd H d (.frz od (.dK kvs))) s:=by
 refine I.un (h':=s.heap) (t':=s.toks) ⟨fun b o q _ _ _=>q,fun b o q _ _ _=>⟨o.slots,q⟩,fun b o q n _=>?_,fun b o q _=>⟨o,q⟩,fun b h q=>?_,fun b o u q=>?_,fun b j q=>⟨#[],?_⟩⟩ fun a o q=>?_
 ·rw [Jag (fun z=>by rw [z,e] at n; cases n)];exact n
 ·rw [Jag (fun z=>by rw [z,e] at q; cases q)];exact q
 ·rw [Jag (fun z=>by rw [z,e] at q; cases q)];exact q
 ·rw [Jag (fun z=>by rw [z,e] at q; cases q),Array.append_empty];exact q
 ·have g:∀ i b,H b=some (.own i)->upd H d (.frz od (.dK kvs)) b=some (.own i):=fun i b q=>by
   rw [Jag (fun z=>by rw [z,e] at q; cases q)];exact q
  have f:∀ b h,H b=some (.tup h)->upd H d (.frz od (.dK kvs)) b=some (.tup h):=fun b h q=>by
   rw [Jag (fun z=>by rw [z,e] at q; cases q)];exact q
  by_cases c:a=d
  ·subst c;rw [Jak] at q;cases q;exact ⟨ho,(I.hok a _ e).stay (fun _ _ _ z=>z) (g a) f⟩
  ·rw [Jag c] at q;exact (I.hok a o q).stay (fun _ _ _ z=>z) (g a) f
theorem Inv.thaw (I:Inv X pins σ H s) (e:H d=some (.dK kvs)) (I':Inv X pins σ H' s') (e':H' d=some (.frz od (.dK kvs'))):Inv X pins σ (upd H' d (.dK kvs')) s':=by
 have m:∀ {b:Addr} {o:HO},H' b=some o->(∀ u v,o≠.frz u v)->b≠d:=fun q h z=>by rw [z,e'] at q; cases q; exact h _ _ rfl
 refine ⟨I'.ok,I'.os,I'.bare,⟨I'.base.keep,I'.base.slot,fun b o q n A=>?_,I'.base.there,fun b l q=>?_,fun b o u q=>?_,fun b t q=>?_⟩,I'.loc,I'.cell,?_,fun x c z=>?_,fun p y=>?_,fun a o q=>?_,I'.len⟩
 ·have:=I'.base.free b o q n A;rw [Jag (fun z=>by rw [z,e'] at this; cases this)];exact this
 ·have:=I'.base.tups b l q;rw [Jag (m this (by intro u v z; cases z))];exact this
 ·have f:=I'.base.frzs b o u q;have g:=I.base.frzs b o u q;rw [Jag (fun z=>by rw [z,e] at g; cases g)];exact f
 ·obtain ⟨i,f⟩:=I'.base.tbls b t q;exact ⟨i,by rw [Jag (m f (by intro u v z; cases z))]; exact f⟩
 ·have:=I'.free;rw [Jag (fun z=>by rw [z,e'] at this; cases this)];exact this
 ·have:=I'.freeC x c z;rw [Jag (fun z=>by rw [z,e'] at this; cases this)];exact this
 ·obtain ⟨f,g,B⟩:=I'.pin p y;exact ⟨f,by rw [Jag (fun z=>by rw [z,e'] at g; cases g)]; exact g,B⟩
 ·have k:∀ r b,H' b=some (.own r)->upd H' d (.dK kvs') b=some (.own r):=fun r b q=>by
   rw [Jag (m q (by intro u v z; cases z))];exact q
  have j:∀ b l,H' b=some (.tup l)->upd H' d (.dK kvs') b=some (.tup l):=fun b l q=>by
   rw [Jag (m q (by intro u v z; cases z))];exact q
  by_cases c:a=d
  ·subst c;rw [Jak] at q;cases q;have f:ObjOk X.prog X.w H' s'.heap a (.dK kvs'):=(I'.hok a _ e').2;exact f.stay (fun _ _ _ z=>z) (k a) j
  ·rw [Jag c] at q;exact (I'.hok a o q).stay (fun _ _ _ z=>z) (k a) j
end
def Itv (d:Addr) (od:Obj) (kvs:List (Key × V)):It :=
 ⟨fun i H=>H d=some (.frz od (.dK kvs))/\i<kvs.length,fun i H x H'=>H'=H/\(kvs.map (·.2))[i]?=some x,fun i H=>H d=some (.frz od (.dK kvs))/\kvs.length<=i⟩
theorem JiW {P:Program} {w:World} {K:W.Frag} {tg:Expr} {d it:Addr} {od:Obj} {kvs:List (Key × V)} {vs:List (Key × Value)} {ep:Nat} (rel:KV kvs vs) (hd:∀ h:Heap,h.get? d=some od->h.DictAt (Jaw P w) d vs ep) :
  Turn P w K tg (Itv d od kvs) [it] it (fun i h=>h.IsValIter it d i vs.length ep) where
 mem:=by simp
 obj:=fun i h a b j=>by
  obtain rfl:b=it:=by simpa using j
  obtain ⟨o,e,c,z⟩:=a;exact ⟨o,e,fun v q=>by rw [z] at q; cases q⟩
 keep:=fun i h n a k=>a.at fun o e=>k it (by simp) o e
 item:=by
  intro X D C G L i f s σ H E I p a y;subst D C G;obtain ⟨l,N⟩:=y;obtain ⟨F,t,Y,r,B,A⟩:=p it (by simp);have g:=(I.hok d _ l).1;have U:=rel.length;have S:=JiX rel;obtain ⟨x,M⟩:∃ x,(kvs.map (·.2))[i]?=some x:=⟨_,List.getElem?_eq_getElem (by rw [length_map]; exact N)⟩;obtain ⟨u,J,R⟩:=S.get M;rw [List.getElem?_map] at J;obtain ⟨⟨k,Z⟩,T,rfl⟩:=Option.map_eq_some_iff.mp J;refine wpAny_pyNext_values_item a (hd _ g) T fun n m Q=>?_;have I1:Inv X f σ H { s with heap:=n }:=I.turned (t':=s.toks) (fun b o j e=>(Q.2 b j).trans e) F t r B A;obtain ⟨o,e,c,z⟩:=id m;exact ⟨_,rfl,go_of (s:={ s with heap:=n }) e c z ⋯ ⟨x,H,I1,R,⟨rfl,M⟩,m,fun b j=>(p b j).1⟩⟩
 done:=by
  intro X D C G L i f s σ H E I p a y;subst D C G;obtain ⟨l,N⟩:=y;obtain ⟨F,t,Y,r,B,A⟩:=p it (by simp);have g:=(I.hok d _ l).1;have U:=rel.length;exact wpAny_pyNext_values_end (I.ok.hd L) a (hd _ g) (List.getElem?_eq_none ∅) fun n O=>⟨rfl,I.turned (t':=s.toks) (fun b o j e=>O b o j e) F t r B A⟩
 self:=fun _ _ _ _ _ a h=>wpAny_pyIter_valiter a h
section
variable {X:Cx} {tg:Expr}
def iVals (td:TE):TI:=fun σ H R=>td σ H fun x H1=>∃ d kvs,x=.ref d/\H1 d=some (.dK kvs)/\∀ od,R (Itv d od kvs) (upd H1 d (.frz od (.dK kvs)))
theorem Jiw {o:Expr} {td:TE} {apos cpos:Pos} (ho:PE X o td) (hb:attributeBase o "values" X.env (eval o X.env)=eval o X.env:=by rfl) (hn:(apos.endLine == cpos.line)=true:=by rfl) :
  PI X tg (.Call (.Attribute o "values" apos) [] [] cpos) (iVals td):=by
 intro c s σ H R I h;refine wpAny_Call_method0_late hb hn (thn (ho c s σ H _ I h) fun v a ⟨y,D,I1,A,d,kvs,p,e,r⟩=>?_);subst p;obtain rfl:v=Value.ref d:=A;obtain ⟨j,t,B⟩:=JfH I1 (.inl ⟨kvs, .inl e⟩);obtain ⟨C,_,vs,i,k⟩:=dk_of I1.hok e;refine ⟨"dict","dict.values",PySem.F.plainAttrs_dict,PySem.F.slot_dict_values,PySem.F.type_dict_values,j,t,Calls.callWith_builtin rfl (PySem.evalArgs_none ?_)⟩;refine call_meetsIn PySem.F.slot_dict_values j PySem.F.entry_dict_values (PySem.F.args_dict_values_1 _) (meets_dict_values (Jaw X.prog X.w) d B) ⟨⟨vs,k⟩,?_⟩;obtain ⟨ep,l⟩:=k.dictAt;obtain ⟨n,u,f,rest⟩:=id l;refine wpAny_pyIter_values (knd:=Jaw X.prog X.w) (v:=a.heap.objs.size) (d:=d) (kvs:=vs) (ep:=ep) ⟨_,Heap.get?_push_size _ rfl,rfl,rfl⟩ (l.push _) ?_;have x:∀ b o,a.heap.get? b=some o->((a.heap.push { cls:=.type "dict_values",data:=.fields #[.ref d] }).push { cls:=.type "dict_valueiterator",data:=.fields #[.ref d, .int 0 0, .int vs.length 0, .int ep 0] }).get? b=some o:=fun b o z=>Heap.get?_push_of_some _ (Heap.get?_push_of_some _ z);have I2:=(I1.freeze e f).kept (t':=a.toks) x;have m:a.heap.objs.size<=(a.heap.push { cls:=.type "dict_values",data:=.fields #[.ref d] }).objs.size:=by
  rw [Heap.size_push];exact Nat.le_succ _
 refine ⟨_,[_],_,_,_,rfl,I2,JiW (vs:=vs) (ep:=ep) i (fun h q=>⟨n,u,q,rest⟩),⟨_,Heap.get?_push_size _ rfl,rfl,rfl⟩,fun b g=>?_,r n⟩;obtain rfl:=mem_singleton.mp g;exact I1.fpOk m ((I1.freeze e f).hok.fresh m)
def tThaw (t:TE):TE:=fun σ H Q=>∃ d kvs,H d=some (.dK kvs)/\t σ H fun v H'=>∃ od kvs',H' d=some (.frz od (.dK kvs'))/\Q v (upd H' d (.dK kvs'))
theorem JgA {e:Expr} {t:TE} (h:PE X e t):PE X e (tThaw t):=by
 intro a s σ H Q I ⟨d,g,j,q⟩;exact thn (h a s σ H _ I q) fun v l ⟨x,k,I1,i,m,b,f,c⟩=>⟨x,_,I.thaw j I1 f,i,c⟩
end
section
variable {k:Nat} {cs:List (Nat × Str)} {g:TG} {te tl td:TE} {σ : St} {H H1:Hp} {Q:VK} {d:Addr} {od:Obj} {kvs:List (Key × V)}
theorem y3ay:tThaw (tComp k cs (iVals td) g te) σ H Q=∃ d kvs,H d=some (.dK kvs)/\td σ H fun x H1=>∃ d1 kvs1,x=.ref d1/\H1 d1=some (.dK kvs1)/\∀ od,CompJ (Itv d1 od kvs1) k cs g te σ (fun v H'=>∃ od kvs',H' d=some (.frz od (.dK kvs'))/\Q v (upd H' d (.dK kvs'))) (upd H1 d1 (.frz od (.dK kvs1))):=rfl
theorem CompJ.vals (Pv:Nat->List V->Hp->Prop) (h0:Pv 0 [] H1) (hl:∀ i ys H',i<=kvs.length->Pv i ys H'->H' d=some (.frz od (.dK kvs))/\ys.length<=sizeLine)
  (hs:∀ i x ys H2,(kvs.map (·.2))[i]?=some x->Pv i ys H2->g x (List.replicate k none++JaD cs σ) H2 fun σ4 H4=>te σ4 H4 fun y H5=>Pv (i+1) (ys++[y]) H5) (hd:∀ ys H2,Pv kvs.length ys H2->∀ p,H2 p=none->Q (.ref p) (upd H2 p (.lst ys))) :
  CompJ (Itv d od kvs) k cs g te σ Q H1:=by
 refine ⟨fun i m ys H'=>Pv i ys H'/\i<=kvs.length/\m=kvs.length-i,⟨_,h0,Nat.zero_le _,rfl⟩,?_⟩;rintro i m ys H2 ⟨a,l,rfl⟩;obtain ⟨b,f⟩:=hl i ys H2 l a;refine ⟨f,?_⟩;by_cases c:i<kvs.length
 ·refine .inr ⟨⟨b,c⟩,?_⟩;rintro x n ⟨rfl,j⟩;have e:(fun (σ4:St) (H4:Hp)=>te σ4 H4 fun y H5=>Pv (i+1) (ys++[y]) H5)=fun σ4 H4=>te σ4 H4 fun y H5=>∃ m',m'<kvs.length-i/\Pv (i+1) (ys++[y]) H5/\i+1<=kvs.length/\m'=kvs.length-(i+1):=by
   funext σ4 H4
   congr 1
   funext y H5
   exact propext ⟨fun q=>⟨_,Nat.sub_lt_sub_left c (Nat.lt_succ_self i),q,c,rfl⟩,fun ⟨_,_,q,_⟩=>q⟩
  rw [<- e];exact hs i x ys n j a
 ·have h:i=kvs.length:=by ac_nf
  subst h;exact .inl ⟨⟨b,Nat.le_refl _⟩,hd ys H2 a⟩
end
section
variable {X:Cx} {k k':Nat} {x:Str} {C:Addr} {ps:List Str} {sp:Sp} {E:XK} {p pos:Pos}
theorem KCal.ev0 (G:KCal X.prog X.w X.K X.mg X.base k x C ps sp) (hr:Room k' X.A) (hk:k+1<=k') (hg:Gl X x) (hx:JbZ (CX1 X.prog X.w) X E) (hdb:(x == ("__debug__" : Str))=false:=by decide) :
  PE X (.Call (.Name x p) [] [] pos) (tMake C sp [] E tNil):=by
 obtain ⟨f,c,F,a,M,b⟩:=G.ex;exact Jjp M F (hr.mono hk) hg a b .nil hx hdb
end
def wtB:D->Bool
 | .int i=>decide (1<=i)
 | _=>false
def partB:D->Bool
 | .tup [n,s,e,z,m,w]=>nameB n&&JcT s e&&(fracB z&&fracB m&&Jci w)&&(!lessD m (.tup [.int 0, .int 1])&&wtB w)
 | _=>false
def gapB:D->Bool
 | .tup [n,s,e,l,g]=>tieB (.tup [n,s,e,l,g])&&!nonD l&&!nonD g
 | _=>false
structure POk (p:PD):Prop where
 n1:nameS p.nm=true
 n2:nameS p.st=true
 n3:nameS p.en=true
 ne:p.st≠p.en
 z:FOk 200 p.sz
 m:FOk 200 p.mo
 m0:0<=p.mo.1
 w:1<=p.wt
 ws:Mth.Sz 200 p.wt
structure GD where
 nm:Str
 st:Str
 en:Str
 lo:Int × Int
 hi:Int × Int
def GD.td (g:GD):TD:=⟨g.nm,g.st,g.en,some g.lo,some g.hi⟩
def pdD (p:PD):D:=.tup [.str p.nm, .str p.st, .str p.en,frD p.sz,frD p.mo, .int p.wt]
theorem POk.part {p:PD} (h:POk p):partB (pdD p)=true:=by
 have e:eqD (.str p.st) (.str p.en)=false:=by simp only [eqD,beq_eq_false_iff_ne]; exact h.ne
 have l:lessD (frD p.mo) (.tup [.int 0, .int 1])=false:=by
  simp [frD,lessD];exact h.m0
 simp [pdD,partB,nameB,JcT,h.n1,h.n2,h.n3,e,l,frD,fracB,Jci,wtB,h.z.b1,h.z.g1,h.m.b1,h.m.g1,h.w];simpa [frD,lessD] using h.m0
theorem POk.sz {p:PD} (h:POk p):szD (pdD p):=by
 simp only [pdD,frD,szD,szL];have:=len8 h.n1;have:=len8 h.n2;have:=len8 h.n3;exact ⟨by ac_nf,by ac_nf,by ac_nf,⟨h.z.s1.mono ⋯,h.z.s2.mono ⋯,trivial⟩,⟨h.m.s1.mono ⋯,h.m.s2.mono ⋯,trivial⟩,h.ws.mono ⋯,trivial⟩
theorem Jlf {g:GD} (h:TOk g.td):gapB (tdD g.td)=true:=by
 have:=h.tie;simp only [tdD,gapB] at this ⊢;rw [this];rfl
def PDV (K:W.Frag) (H:Hp) (p:PD) (x:V):Prop:=∃ b vz vm,x=.ref b/\SqT K H b [.str p.nm, .str p.st, .str p.en,vz,vm, .int p.wt]/\FrV K H vz p.sz.1 p.sz.2/\FrV K H vm p.mo.1 p.mo.2
section
variable {K:W.Frag} {H H':Hp}
theorem PDV.sameT {p:PD} {x:V} (S:SameT H H'):PDV K H p x->PDV K H' p x:=fun ⟨b,d,c,e,q,f,a⟩=>⟨b,d,c,e,q.sameT S,f.sameT S,a.sameT S⟩
theorem PDV.rep {p:PD} {x:V}:PDV K H p x->Rep K H (pdD p) x:=fun ⟨b,f,d,e,q,c,a⟩=>by
 simp only [pdD,Rep,RepL];exact ⟨b,_,e,q,_,_,rfl,rfl,_,_,rfl,rfl,_,_,rfl,rfl,_,_,rfl,FrV.rep c,_,_,rfl,FrV.rep a,_,_,rfl,rfl,rfl⟩
end
def LeV (H:Hp) (e:Str × Pr) (x:V):Prop:=∃ b c,x=.ref b/\H b=some (.tup [.str e.1, .ref c])/\H c=some (.tup [.str e.2.1, .bl e.2.2])
theorem LeV.sameT {H H':Hp} {e:Str × Pr} {x:V} (S:SameT H H'):LeV H e x->LeV H' e x:=fun ⟨b,c,f,d,a⟩=>⟨b,c,f,S _ _ rfl d,S _ _ rfl a⟩
structure JD (H0 H:Hp) (L:Str->List (Str × Pr)) (kvs:List (Key × V)):Prop where
 at_:∀ (f:Str),(valV kvs (Sum.inr f)=none/\L f=[])\/∃ l xs,valV kvs (Sum.inr f)=some (.ref l)/\H0 l=none/\H l=some (.lst xs)/\All2 (LeV H) (L f) xs
 inj:∀ (f g:Str) (l:Addr),valV kvs (Sum.inr f)=some (.ref l)->valV kvs (Sum.inr g)=some (.ref l)->f=g
theorem JD.same {H0 H H':Hp} {L:Str->List (Str × Pr)} {kvs:List (Key × V)} (S:Same H H') (h:JD H0 H L kvs):JD H0 H' L kvs where
 at_:=fun f=>by
  rcases h.at_ f with h | ⟨l,xs,h1,h2,h3,h4⟩
  ·exact .inl h
  ·exact .inr ⟨l,xs,h1,h2,S _ _ h3,h4.mono fun _ _ z=>z.sameT S.t⟩
 inj:=h.inj
theorem JD.sx {H0 H H':Hp} {L:Str->List (Str × Pr)} {kvs kv2:List (Key × V)} {d:Addr} (S:∀ b u,b≠d->H b=some u->H' b=some u) (hd:H d=some (.dK kv2)) (h:JD H0 H L kvs):JD H0 H' L kvs where
 at_:=fun f=>by
  have T:SameT H H':=fun b u t q=>S b u (fun z=>by rw [z,hd] at q; cases q; simp [isTF] at t) q;rcases h.at_ f with h | ⟨l,xs,h1,h2,h3,h4⟩
  ·exact .inl h
  ·exact .inr ⟨l,xs,h1,h2,S _ _ (fun z=>by rw [z,hd] at h3; cases h3) h3,h4.mono fun _ _ z=>z.sameT T⟩
 inj:=h.inj
theorem JD.sy {H0 H H':Hp} {L:Str->List (Str × Pr)} {kvs:List (Key × V)} {x:Addr} {o:HO} (S:∀ b u,b≠x->H b=some u->H' b=some u) (hx:H x=some o) (hn:∀ xs,o≠.lst xs) (ht:isTF o=false) (h:JD H0 H L kvs):JD H0 H' L kvs where
 at_:=fun f=>by
  have T:SameT H H':=fun b u t q=>S b u (fun z=>by rw [z,hx] at q; cases q; rw [ht] at t; cases t) q;rcases h.at_ f with h | ⟨l,xs,h1,h2,h3,h4⟩
  ·exact .inl h
  ·exact .inr ⟨l,xs,h1,h2,S _ _ (fun z=>by rw [z,hx] at h3; exact hn _ (Option.some.inj h3)) h3,h4.mono fun _ _ z=>z.sameT T⟩
 inj:=h.inj
theorem JD.nil {H0 H:Hp}:JD H0 H (fun _=>[]) []:=⟨fun f=>.inl ⟨rfl,rfl⟩,fun f g l h=>by simp [valV] at h⟩
def addL (L:Str->List (Str × Pr)) (f:Str) (e:Str × Pr):Str->List (Str × Pr):=fun g=>if g=f then L g++[e] else L g
theorem JD.more {H0 H H':Hp} {L:Str->List (Str × Pr)} {kvs:List (Key × V)} {f:Str} {e:Str × Pr} {l b:Addr} {xs:List V} (h:JD H0 H L kvs) (hv:valV kvs (Sum.inr f)=some (.ref l)) (hl:H l=some (.lst xs)) (hb:LeV H e (.ref b)) (e':upd H l (.lst (xs++[.ref b]))=H'):JD H0 H' (addL L f e) kvs where
 at_:=fun g=>by
  have T:SameT H H':=SameT.put e' hl rfl;have a:H' l=some (.lst (xs++[.ref b])):=by rw [<- e',Jak]
  by_cases c:g=f
  ·subst c;rcases h.at_ g with ⟨h1,_⟩ | ⟨l2,xs2,h1,h2,h3,h4⟩
   ·rw [hv] at h1;cases h1
   ·rw [hv] at h1;cases h1;rw [hl] at h3;cases h3;refine .inr ⟨l,_,hv,h2,a,?_⟩;unfold addL;rw [if_pos rfl];exact (h4.mono fun _ _ z=>z.sameT T).append (.one (hb.sameT T))
  ·unfold addL;rw [if_neg c];rcases h.at_ g with h1 | ⟨l2,xs2,h1,h2,h3,h4⟩
   ·exact .inl h1
   ·have d:l2≠l:=fun z=>c (h.inj g f l (by rw [h1,z]) hv);exact .inr ⟨l2,xs2,h1,h2,by rw [<- e',Jag d]; exact h3,h4.mono fun _ _ z=>z.sameT T⟩
 inj:=h.inj
theorem JD.first {H0 H H':Hp} {L:Str->List (Str × Pr)} {kvs:List (Key × V)} {f:Str} {e:Str × Pr} {l b:Addr} (h:JD H0 H L kvs) (hv:valV kvs (Sum.inr f)=none) (h0:H0 l=none) (hn:∀ g l',valV kvs (Sum.inr g)=some (.ref l')->l'≠l) (hl:H l=some (.lst [])) (hb:LeV H e (.ref b)) (e':upd H l (.lst [.ref b])=H'):JD H0 H' (addL L f e) (putK kvs (Sum.inr f) (.ref l)) where
 at_:=fun g=>by
  have T:SameT H H':=SameT.put e' hl rfl;have m:H' l=some (.lst [.ref b]):=by rw [<- e',Jak]
  rw [Jhd];by_cases c:g=f
  ·subst c;rw [if_pos rfl];refine .inr ⟨l,_,rfl,h0,m,?_⟩;unfold addL;rw [if_pos rfl];rcases h.at_ g with ⟨_,d⟩ | ⟨l2,xs2,a,_⟩
   ·rw [d];exact .one (hb.sameT T)
   ·rw [hv] at a;cases a
  ·have o:(Sum.inr g:Key)≠Sum.inr f:=fun z=>c (by injection z);rw [if_neg o];unfold addL;rw [if_neg c];rcases h.at_ g with a | ⟨l2,xs2,a,d,h3,h4⟩
   ·exact .inl a
   ·exact .inr ⟨l2,xs2,a,d,by rw [<- e',Jag (hn g l2 a)]; exact h3,h4.mono fun _ _ z=>z.sameT T⟩
 inj:=fun n j l' a d=>by
  rw [Jhd] at a d;by_cases k:(Sum.inr n:Key)=Sum.inr f
  ·by_cases i:(Sum.inr j:Key)=Sum.inr f
   ·have:=k.trans i.symm;injection this
   ·rw [if_pos k] at a;rw [if_neg i] at d;cases a;exact absurd rfl (hn j l d)
  ·by_cases i:(Sum.inr j:Key)=Sum.inr f
   ·rw [if_neg k] at a;rw [if_pos i] at d;cases d;exact absurd rfl (hn n l a)
   ·rw [if_neg k] at a;rw [if_neg i] at d;exact h.inj n j l' a d
theorem Jc7 {ls:List PD} {p:PD} (h:p.st≠p.en):addL (addL (JaF ls) p.st (p.en,(p.nm,true))) p.en (p.st,(p.nm,false))=JaF (ls++[p]):=by
 funext g
 rw [Jd3];unfold addL JdG;by_cases a:g=p.en
 ·subst a;have e:p.en≠p.st:=fun z=>h z.symm;simp [h,e]
 ·have d:p.en≠g:=fun z=>a z.symm;by_cases b:g=p.st
  ·subst b;simp [a]
  ·have c:p.st≠g:=fun z=>b z.symm;simp [a,b,d,c]
theorem Je1 (ls:List PD) (f:Str):(JaF ls f).length<=ls.length:=by
 unfold JaF;induction ls with
 | nil=>simp
 | cons p ls ih=>
  rw [List.flatMap_cons,length_append,length_cons];have : (JdG p f).length<=1:=by
   unfold JdG;split
   ·simp
   ·split <;> simp
  ac_nf
def PWy (H H':Hp) (wl:Addr) (a:Str × List Pr) (v:V):Prop:=∃ l xs,v=.ref l/\H l=none/\l≠wl/\H' l=some (.lst xs)/\All2 (CV H') a.2 xs
structure Srch (H:Hp) (ls:List PD) (one:Str) (fd wl:Addr) (H':Hp) (ws:List (Str × List Pr)) (wt:List Str):Prop where
 same:Same H H'
 dict:∃ kvs,H' fd=some (.dK kvs)/\BG (·.1) (PWy H H' wl) ws kvs
 nd:(ws.map (·.1)).Nodup
 here:one∈ws.map (·.1)
 walk:∀ a∈ws,Jbk ls one a.2 a.1
 wait:H' wl=some (.lst (wt.map V.str))
 sub:∀ f∈wt,f∈ws.map (·.1)
 lw:∀ a∈ws,a.2.length<=ws.length
 sim:∀ a∈ws,(a.2.map (·.1)).Nodup/\∀ p∈ls,p.nm∈a.2.map (·.1)->p.st∈ws.map (·.1)/\p.en∈ws.map (·.1)
section
variable {H H' H'':Hp} {ls:List PD} {one:Str} {fd wl:Addr} {ws:List (Str × List Pr)} {wt:List Str}
theorem Srch.len (h:Srch H ls one fd wl H' ws wt) (hl:ls.length<=20):ws.length<=41:=by
 have:=sub_len (ws.map (·.1)) (one::fcsOf ls) h.nd fun z b=>by
  obtain ⟨a,c,rfl⟩:=mem_map.mp b;exact Jhg (h.walk a c)
 rw [length_map,length_cons,Jkj] at this;ac_nf
theorem Srch.grow (h:Srch H ls one fd wl H' ws wt) (S:Same H' H''):Srch H ls one fd wl H'' ws wt:=by
 obtain ⟨b,k,f⟩:=h.dict;exact ⟨h.same.trans S,⟨b,S _ _ k,f.mono fun a v ⟨l,g,e,i,d,c,j⟩=>⟨l,g,e,i,d,S _ _ c,j.mono fun _ _ z=>z.sameT S.t⟩⟩,h.nd,h.here,h.walk,S _ _ h.wait,h.sub,h.lw,h.sim⟩
theorem Srch.wait' {wt':List Str} (h:Srch H ls one fd wl H' ws wt) (hw:H wl=none) (e:upd H' wl (.lst (wt'.map V.str))=H'') (hs:∀ f∈wt',f∈ws.map (·.1)):Srch H ls one fd wl H'' ws wt':=by
 obtain ⟨d,i,k⟩:=h.dict;have T:SameT H' H'':=SameT.put e h.wait rfl;have g:fd≠wl:=fun z=>by have:=h.wait; rw [<- z,i] at this; cases this
 refine ⟨fun b u q=>by rw [<- e,Jag (Jai q hw)]; exact h.same _ _ q,⟨d,by rw [<- e,Jag g]; exact i,k.mono fun a v ⟨l,n,m,p,c,j,o⟩=>⟨l,n,m,p,c,by rw [<- e,Jag c]; exact j,o.mono fun _ _ z=>z.sameT T⟩⟩,h.nd,h.here,h.walk,by rw [<- e,Jak],hs,h.lw,h.sim⟩
theorem Srch.find {g:Str} {w:List Pr} {l:Addr} {xs:List V} {kvs:List (Key × V)} (h:Srch H ls one fd wl H' ws wt) (hk:H' fd=some (.dK kvs)) (hb:BG (·.1) (PWy H H' wl) ws kvs) (hf:H fd=none) (hg:g∉ws.map (·.1)) (hwk:Jbk ls one w g) (hlw:w.length<=ws.length+1) (hsm:(w.map (·.1)).Nodup/\∀ p∈ls,p.nm∈w.map (·.1)->p.st∈(ws++[(g,w)]).map (·.1)/\p.en∈(ws++[(g,w)]).map (·.1)) (hl:H l=none) (hne:l≠wl) (hx:H' l=some (.lst xs)) (ha:All2 (CV H') w xs)
  (e:upd H' fd (.dK (putK kvs (Sum.inr g) (.ref l)))=H''):Srch H ls one fd wl H'' (ws++[(g,w)]) wt:=by
 have T:SameT H' H'':=SameT.put e hk rfl;have k:wl≠fd:=fun z=>by have:=h.wait; rw [z,hk] at this; cases this
 have d:∀ {b:Addr} {ys:List V},H' b=some (.lst ys)->H'' b=some (.lst ys):=fun q=>by rw [<- e,Jag (fun z=>by rw [z,hk] at q; cases q)]; exact q
 refine ⟨fun b u q=>by rw [<- e,Jag (Jai q hf)]; exact h.same _ _ q,⟨_,by rw [<- e,Jak],?_⟩,?_,?_,?_,d h.wait,?_,?_,?_⟩
 ·have:=hb.mono (P':=PWy H H'' wl) fun a v ⟨l,xs,m,i,hne,hx,ha⟩=>⟨l,xs,m,i,hne,d hx,ha.mono fun _ _ z=>z.sameT T⟩;exact this.new (a:=(g,w)) hg ⟨l,xs,rfl,hl,hne,d hx,ha.mono fun _ _ z=>z.sameT T⟩
 ·rw [map_append,nodup_append];refine ⟨h.nd,by simp,fun a ha b hb z=>hg ?_⟩;rw [map_cons,map_nil,mem_singleton] at hb;have hb:b=g:=hb;rw [<- hb, <- z];exact ha
 ·rw [map_append];exact mem_append.mpr (.inl h.here)
 ·intro a ha;rcases mem_append.mp ha with ha | ha
  ·exact h.walk a ha
  ·rw [mem_singleton.mp ha];exact hwk
 ·intro f c;rw [map_append];exact mem_append.mpr (.inl (h.sub f c))
 ·intro a ha;rw [length_append,length_singleton];rcases mem_append.mp ha with ha | ha
  ·have:=h.lw a ha;ac_nf
  ·rw [mem_singleton.mp ha];exact hlw
 ·intro a ha;rcases mem_append.mp ha with ha | ha
  ·refine ⟨(h.sim a ha).1,fun p j i=>?_⟩;have:=(h.sim a ha).2 p j i;rw [map_append];exact ⟨mem_append.mpr (.inl this.1),mem_append.mpr (.inl this.2)⟩
  ·rw [mem_singleton.mp ha];exact hsm
end
inductive PR
 | ok (ls:List PD)
 | noPart
 | twice
 | ring
open Classical in
noncomputable def partsW:List PD->List (PD ⊕ D)->PR
 | acc,[]=>.ok acc
 | _, .inr _::_=>.noPart
 | acc, .inl p::r=>if p.nm∈acc.map (·.nm) then .twice else if Conn acc p.st p.en then .ring else partsW (acc++[p]) r
inductive GR
 | ok (gs:List GD)
 | noGap
 | twice
 | apart
open Classical in
noncomputable def gapsW (ls:List PD):List GD->List (GD ⊕ D)->GR
 | acc,[]=>.ok acc
 | _, .inr _::_=>.noGap
 | acc, .inl g::r=>if g.nm∈acc.map (·.nm) then .twice else if Conn ls g.st g.en then gapsW ls (acc++[g]) r else .apart
theorem Jhy (acc:List PD) (c:D) (r:List (PD ⊕ D)):partsW acc (.inr c::r)=.noPart:=rfl
theorem Jhz {acc:List PD} {p:PD} {r:List (PD ⊕ D)} (h:p.nm∈acc.map (·.nm)):partsW acc (.inl p::r)=.twice:=by
 rw [partsW,if_pos h]
theorem Jgy {acc:List PD} {p:PD} {r:List (PD ⊕ D)} (h:p.nm∉acc.map (·.nm)) (hc:Conn acc p.st p.en):partsW acc (.inl p::r)=.ring:=by
 rw [partsW,if_neg h,if_pos hc]
theorem Jdg {acc:List PD} {p:PD} {r:List (PD ⊕ D)} (h:p.nm∉acc.map (·.nm)) (hc:¬ Conn acc p.st p.en):partsW acc (.inl p::r)=partsW (acc++[p]) r:=by
 rw [partsW,if_neg h,if_neg hc]
theorem Jh0 (ls:List PD) (acc:List GD) (c:D) (r:List (GD ⊕ D)):gapsW ls acc (.inr c::r)=.noGap:=rfl
theorem Jh1 {ls:List PD} {acc:List GD} {g:GD} {r:List (GD ⊕ D)} (h:g.nm∈acc.map (·.nm)):gapsW ls acc (.inl g::r)=.twice:=by
 rw [gapsW,if_pos h]
theorem Jgj {ls:List PD} {acc:List GD} {g:GD} {r:List (GD ⊕ D)} (h:g.nm∉acc.map (·.nm)) (hc:¬ Conn ls g.st g.en):gapsW ls acc (.inl g::r)=.apart:=by
 rw [gapsW,if_neg h,if_neg hc]
theorem JgW {ls:List PD} {acc:List GD} {g:GD} {r:List (GD ⊕ D)} (h:g.nm∉acc.map (·.nm)) (hc:Conn ls g.st g.en):gapsW ls acc (.inl g::r)=gapsW ls (acc++[g]) r:=by
 rw [gapsW,if_neg h,if_pos hc]
def WOV (H:Hp) (ls:List PD) (g:GD) (v:V):Prop:=∃ l xs w,v=.ref l/\H l=some (.lst xs)/\All2 (CV H) w xs/\Jbk ls g.st w g.en/\(w.map (·.1)).Nodup
theorem WOV.same {H H':Hp} {ls:List PD} {g:GD} {v:V} (S:Same H H'):WOV H ls g v->WOV H' ls g v:=fun ⟨l,d,w,e,b,a,c⟩=>⟨l,d,w,e,S _ _ b,a.mono fun _ _ z=>z.sameT S.t,c⟩
theorem Jit {X:Cx} {K:W.Frag} {pos:Pos} {es:List Expr} {k:Nat} {t:TGs} {n:Nat} (hK:X.K=K) (hc:X.calm=true) (h:PGs X es t) (hn:(assignEach es X.env).length=n:=by rfl) (hst:(assignEach es X.env).findIdx? (·.1)=none:=by rfl):PG X (.Tuple es k pos) (gTup K n t):=by
 subst hK;exact JfV hc h hn hst
abbrev Fr2:=Int × Int
section
variable {K:W.Frag} {k:Nat} {cs:List (Nat × Str)} {g:TG} {te:TE} {ta:TA} {σ : St} {H H1:Hp} {Q:VK} {a b:Addr} {xs zs:List V}
end
section
variable {X:Cx}
end
section
variable {K:W.Frag} {H:Hp} {Q:VK}
end
def fc (j:Nat):Str:=⟨#[102+j]⟩
theorem All2.map {α β : Type} {P : α->V->Prop} {P' : β->V->Prop} {f : α->β}:∀ {as:List α} {xs:List V},All2 P as xs->(∀ a∈as, ∀ x,P a x->P' (f a) x)->All2 P' (as.map f) xs
 | [],xs,h,_=>h
 | a::as,xs,h,m=>by
  obtain ⟨x,r,rfl,h1,h2⟩:=h;exact ⟨x,r,rfl,m a (by simp) x h1,All2.map h2 fun b hb=>m b (by simp [hb])⟩
theorem Jh2 {ls:List PD}:∀ (gs acc:List GD),((acc++gs).map (·.nm)).Nodup->(∀ g∈gs,Conn ls g.st g.en)->gapsW ls acc (gs.map Sum.inl)=.ok (acc++gs)
 | [],acc,_,_=>by
  rw [map_nil,gapsW,append_nil]
 | g::gs,acc,hn,hc=>by
  have ea:acc++g::gs=(acc++[g])++gs:=by simp
  have ne:g.nm∉acc.map (·.nm):=by
   have h2:=hn;rw [map_append,map_cons,nodup_append] at h2;exact fun z=>h2.2.2 _ z _ (by simp) rfl
  rw [map_cons,JgW ne (hc g (by simp)),Jh2 gs (acc++[g]) (by rw [<- ea]; exact hn) (fun u hu=>hc u (by simp [hu])),ea]
section
variable {prog:Program} {w:World} {A:Around} {E:Value->Shared->Prop} {s:Shared}
end
section
variable {prog:Program} {w:World} {A:Around} {E:Value->Shared->Prop} {s:Shared}
end
section
variable {X:Cx}
end
section
variable {X:Cx} {elts:List Expr} {x1:Nat} {tp:Pos}
end
section
variable {K:W.Frag} {k:Nat} {cs:List (Nat × Str)} {g:TG} {te:TE} {ta:TA} {σ : St} {H H1:Hp} {Q:VK} {a:Addr} {xs:List V}
theorem CompJ.range {lo:Int} {n:Nat} (Pv:Nat->List V->Hp->Prop) (h0:Pv 0 [] H1) (hl:∀ i ys H',i<=n->Pv i ys H'->ys.length<=sizeLine)
  (hs:∀ i ys H2,i<n->Pv i ys H2->g (.int (lo+i)) (List.replicate k none++JaD cs σ) H2 fun σ4 H4=>te σ4 H4 fun y H5=>Pv (i+1) (ys++[y]) H5) (hd:∀ ys H2,Pv n ys H2->∀ p,H2 p=none->Q (.ref p) (upd H2 p (.lst ys))) :
  CompJ (Itr lo n) k cs g te σ Q H1:=by
 refine ⟨fun i m ys H'=>Pv i ys H'/\i<=n/\m=n-i,⟨_,h0,Nat.zero_le _,rfl⟩,?_⟩;rintro i m ys H2 ⟨a,b,rfl⟩;refine ⟨hl i ys H2 b a,?_⟩;by_cases c:i<n
 ·refine .inr ⟨c,?_⟩;rintro v f ⟨rfl,rfl⟩;have e:(fun (σ4:St) (H4:Hp)=>te σ4 H4 fun y H5=>Pv (i+1) (ys++[y]) H5)=fun σ4 H4=>te σ4 H4 fun y H5=>∃ m',m'<n-i/\Pv (i+1) (ys++[y]) H5/\i+1<=n/\m'=n-(i+1):=by
   funext σ4 H4
   congr 1
   funext y H5
   exact propext ⟨fun q=>⟨_,Nat.sub_lt_sub_left c (Nat.lt_succ_self i),q,c,rfl⟩,fun ⟨_,_,q,_⟩=>q⟩
  rw [<- e];exact hs i ys _ c a
 ·have d:i=n:=by ac_nf
  subst d;exact .inl ⟨Nat.le_refl _,hd ys H2 a⟩
end
def Itq (lo c:Int) (n:Nat):It:=⟨fun i _=>i<n,fun i H x H'=>H'=H/\x=.int (lo+i*c),fun i _=>n<=i⟩
theorem JgJ {P:Program} {w:World} {K:W.Frag} {tg:Expr} (it:Addr) (lo c:Int) (n:Nat):Turn P w K tg (Itq lo c n) [it] it (fun i h=>IsRangeIter h it (lo+(i:Nat)*c) ((n:Int)-(i:Nat)) c) where
 mem:=by simp
 obj:=fun i h a b f=>by
  have e:b=it:=by simpa using f
  subst e;exact ⟨_,a,fun v z=>by
   have J:Data.fields _=Data.cell v:=z;cases J⟩
 keep:=fun i h j a k=>k it (by simp) _ a
 item:=by
  intro X A y C x i d s σ H E I l a q;subst A y C;obtain ⟨B,p,M,m,u,r⟩:=l it (by simp);have W:=Walks.range (prog:=X.prog) (w:=X.w) (I.ok.hd x) it lo c n;refine W.item i s _ _ q a fun v j D G g L=>?_;obtain ⟨t,rfl⟩:=G;have I1:Inv X d σ H { s with heap:=j,toks:=D }:=I.turned (fun b o f e=>L b o (by simpa using f) e) B p m u r;exact ⟨_,rfl,go_of (s:={ s with heap:=j,toks:=D }) (n:="range_iterator") g rfl rfl ⋯ ⟨.int (lo+i*c),H,I1,⟨t,rfl⟩,⟨rfl,rfl⟩,g,fun b f=>(l b f).1⟩⟩
 done:=by
  intro X A y C x i d s σ H E I l a q;subst A y C;obtain ⟨B,p,M,m,u,r⟩:=l it (by simp);exact wpAny_pyNext_range_end (I.ok.hd x) a (by have : n<=i:=q; ac_nf) fun j F=>⟨rfl,I.turned (t':=s.toks) (fun b o f e=>F b o f e) B p m u r⟩
 self:=fun _ _ _ _ _ a h=>wpAny_pyIter_rangeiter a h
def rsz (lo hi c:Int):Nat:=(if lo<hi then (hi-lo-1)/c+1 else 0).toNat
theorem JeR {lo hi c:Int} (hc:1<=c):((rsz lo hi c:Nat):Int)=Builtin.Range.rangeSize lo hi c:=by
 unfold rsz Builtin.Range.rangeSize;rw [if_pos (show c > 0 by ac_nf)];split
 ·have:=Int.ediv_nonneg (a:=hi-lo-1) (b:=c) ∅ ∅;ac_nf
 ·rfl
theorem JgC {lo hi c:Int} (h1:0<=lo) (h2:lo<2 ^ 40) (h3:0<=hi) (h4:hi<2 ^ 40) (h5:1<=c) (h6:c<2 ^ 30):Builtin.Range.small lo hi c=true:=by
 unfold Builtin.Range.small;have e:0<=Builtin.Range.rangeSize lo hi c/\Builtin.Range.rangeSize lo hi c<2 ^ 41:=by
  rw [<- JeR h5];refine ⟨by ac_nf,?_⟩;unfold rsz;split
  ·have f:=Int.ediv_nonneg (a:=hi-lo-1) (b:=c) ∅ ∅;have d:=Int.ediv_le_self c (show 0<=hi-lo-1 by ac_nf);ac_nf
  ·simp
 generalize Builtin.Range.rangeSize lo hi c=z at e ⊢;simp only [Builtin.Range.rangeFitsLong,Bool.and_eq_true,Bool.or_eq_true,decide_eq_true_eq,beq_iff_eq];rw [if_pos ∅];simp only [Bool.and_eq_true,decide_eq_true_eq];ac_nf
section
variable {X:Cx} {tg:Expr}
theorem JlI {pins:List (Addr × Obj)} {σ : St} {H:Hp} {s:Shared} {R:It->Hp->Prop} {h:Heap} {lo c:Int} {n:Nat} {t':Nat} (I:Inv X pins σ H { s with heap:=h,toks:=t' }) (q:R (Itq lo c n) H) :
  PIE X pins σ tg R (.ref h.objs.size) { s with heap:=h.push { cls:=.type "range_iterator",data:=.fields #[rawInt lo,rawInt (n:Int),rawInt c] },toks:=t' }:=by
 refine ⟨h.objs.size,[h.objs.size],_,_,H,rfl,I.kept (t':=t') fun b o e=>Heap.get?_push_of_some _ e,JgJ _ lo c n,?_,fun b d=>?_,q⟩
 ·have a:lo+((0:Nat):Int)*c=lo:=by simp
  have f:(n:Int)-((0:Nat):Int)=n:=by simp
  show IsRangeIter _ _ (lo+((0:Nat):Int)*c) ((n:Int)-((0:Nat):Int)) c;rw [a,f];exact Heap.get?_push_size _ rfl
 ·have e:b=h.objs.size:=by simpa using d
  subst e;exact I.fpOk (Nat.le_refl _) (I.hok.fresh (Nat.le_refl _))
def iRng3 (ta:TA):TI:=fun σ H R=>ta σ H fun vs H1=>∃ i j c:Int,vs=[.int i, .int j, .int c]/\(0<=i/\i<2 ^ 40/\0<=j/\j<2 ^ 40/\1<=c/\c<2 ^ 30)/\R (Itq i c (rsz i j c)) H1
theorem Jiv {a b d:Expr} {ta:TA} {p pos:Pos} (hg:Gl X "range") (hm:X.mg "range"=none) (ha:PA X [a,b,d] ta)
  (hs:starEach [a,b,d] X.env=[(false,eval a X.env),(false,eval b X.env),(false,eval d X.env)]:=by rfl) (hs2:starEach [b,d] X.env=[(false,eval b X.env),(false,eval d X.env)]:=by rfl):PI X tg (.Call (.Name "range" p) [a,b,d] [] pos) (iRng3 ta):=by
 intro f s σ H R I h;refine wpAny_Call_Name_kw (JeM I hg hm Ji2 ?_);refine PyProof.Rows.callWith_type1 (thn (ha pos f s σ H _ I h) fun z w ⟨y,A,I1,x,g⟩=>?_) (by rw [hs,hs2]) (by rw [hs2]; rfl);obtain ⟨i,j,c,e,⟨g,v,n,m,k,u⟩,q⟩:=g;subst e;cases x with
 | cons r rr=>
  cases rr with
  | cons r' rr=>
   cases rr with
   | cons r'' rr=>
    cases rr;obtain ⟨t,rfl⟩:=r;obtain ⟨t',rfl⟩:=r';obtain ⟨l,rfl⟩:=r'';refine call_range_3 ∅ ?_ (Or.inl (PyProof.noPylong_small ∅));refine wpAny_pyIter_range (IsRange.new ..) (JgC g v n m k u) ?_;rw [<- JeR k];exact JlI (I1.kept (t':=w.toks) fun b o e=>Heap.get?_push_of_some _ e) q
end
section
variable {ta:TA} {g:TG} {tb:TS} {D:Ends} {σ : St} {H:Hp}
def ForQ (lo c:Int) (n:Nat) (g:TG) (tb:TS) (D:Ends) (σ : St) (H:Hp):Prop:=∃ W:Nat->Nat->St->Hp->Prop,(∃ m,W 0 m σ H)/\∀ i m σ H,W i m σ H ->
 ((Itq lo c n).stop i H/\D.nx σ H)\/((Itq lo c n).go i H/\∃ N:St->Hp->Prop,(∀ σ' H',N σ' H'->∃ m',m'<m/\W (i+1) m' σ' H')/\∀ x H',(Itq lo c n).yld i H x H'->g x σ H' fun σ2 H2=>tb { D with nx:=N,ct:=N,bk:=D.nx } σ2 H2)
theorem y52y:tFor (iRng3 ta) g tb D σ H=ta σ H fun vs H1=>∃ i j c:Int,vs=[.int i, .int j, .int c]/\(0<=i/\i<2 ^ 40/\0<=j/\j<2 ^ 40/\1<=c/\c<2 ^ 30)/\ForQ i c (rsz i j c) g tb D σ H1:=rfl
theorem ForQ.by {lo c:Int} {n:Nat} (Pv:Nat->St->Hp->Prop) (h0:Pv 0 σ H)
  (hs:∀ i σ H,i<n->Pv i σ H->g (.int (lo+i*c)) σ H fun σ2 H2=>tb { D with nx:=Pv (i+1),ct:=Pv (i+1),bk:=D.nx } σ2 H2) (hd:∀ σ H,Pv n σ H->D.nx σ H):ForQ lo c n g tb D σ H:=by
 refine ⟨fun i m σ H=>m=n-i/\i<=n/\Pv i σ H,⟨n,by simp,Nat.zero_le _,h0⟩,?_⟩;rintro i m σ H ⟨rfl,f,p⟩;by_cases a:i<n
 ·refine .inr ⟨a,Pv (i+1),fun σ' d b=>⟨n-(i+1),by ac_nf,rfl,a,b⟩,fun x d y=>?_⟩;obtain ⟨e,y⟩:=y;subst e y;exact hs i σ _ a p
 ·have e:i=n:=by ac_nf
  subst e;exact .inl ⟨Nat.le_refl _,hd σ H p⟩
end
theorem y5cy {c:TT} {ta tb:TE} {σ : St} {H:Hp} {Q:VK}:tIf c ta tb σ H Q=c σ H fun b H1=>if b=true then ta σ H1 Q else tb σ H1 Q:=rfl
def rLenD (xs:List V) (H:Hp) (Q:VK):Prop:=∃ d kvs,xs=[.ref d]/\H d=some (.dK kvs)/\Q (.int (kvs.length:Int)) H
theorem Jcc {X:Cx}:CallR X (.builtin "len") rLenD:=by
 intro c s σ H m n Q I r h;obtain ⟨d,a,rfl,e,q⟩:=h;obtain ⟨u,rfl,g⟩:=vals1 r;cases g;obtain ⟨l,k,f,b,i⟩:=dk_of I.hok e;have o:=JeN;have j:f.length=a.length:=b.length.symm;exact call_len_dict k i ∅ ⟨.int (a.length:Int),H,I.tok _,⟨s.toks+1,by rw [j]⟩,q⟩
def vl (a:Int × Int):Rat:=(a.1:Rat)/(a.2:Rat)
theorem JaI {a:Int} (h:1<=a):(a:Rat)≠0:=fun z=>by
 have : a=0:=by exact_mod_cast z
 ac_nf
theorem vl_eq {a c:Int × Int} (ha:1<=a.2) (hc:1<=c.2):vl a=vl c↔a.1*c.2=c.1*a.2:=by
 unfold vl;have b:=JaI ha;have d:=JaI hc;have e:((a.1*c.2=c.1*a.2)↔((a.1:Rat)*(c.2:Rat)=(c.1:Rat)*(a.2:Rat))):=by
  constructor
  ·intro h;exact_mod_cast h
  ·intro h;exact_mod_cast h
 rw [e];generalize (a.1:Rat)=x at *;generalize (a.2:Rat)=y at *;generalize (c.1:Rat)=z at *;generalize (c.2:Rat)=u at *;constructor
 ·intro h;grind
 ·intro h;grind
theorem Jj2 {a c:Int × Int} (ha:1<=a.2) (hc:1<=c.2) (h1:Mth.g a.1 a.2=1) (h2:Mth.g c.1 c.2=1) (h:vl a=vl c):a=c:=by
 have:=Mth.Jdu ha hc h1 h2 ((vl_eq ha hc).mp h);exact Prod.ext this.1 this.2
theorem JiY {a c:Int × Int} (ha:1<=a.2) (hc:1<=c.2):vl (addF a c)=vl a+vl c:=by
 have d:a.2*c.2≠0:=Int.mul_ne_zero ∅ ∅;have g:=Mth.cross (t:=a.1*c.2+c.1*a.2) d;have f:=Mth.JcV (t:=a.1*c.2+c.1*a.2) d;unfold vl addF;dsimp only;generalize Mth.top (a.1*c.2+c.1*a.2) (a.2*c.2)=t at *;generalize Mth.bot (a.1*c.2+c.1*a.2) (a.2*c.2)=b at *;have j:=JaI ha;have i:=JaI hc;have h:=JaI f;have e:(t:Rat)*((a.2:Rat)*(c.2:Rat))=((a.1:Rat)*(c.2:Rat)+(c.1:Rat)*(a.2:Rat))*(b:Rat):=by exact_mod_cast g
 generalize (a.1:Rat)=x at *;generalize (a.2:Rat)=y at *;generalize (c.1:Rat)=z at *;generalize (c.2:Rat)=u at *;generalize (t:Rat)=t at *;generalize (b:Rat)=b at *;grind
theorem JdJ (a:Int × Int):vl (negF a) = - vl a:=by
 unfold vl negF;rw [Rat.intCast_neg];grind
theorem Jc5 {a c:Int × Int} (ha:1<=a.2) (hc:1<=c.2):lessF a c=true↔vl a<vl c:=by
 unfold lessF vl;rw [decide_eq_true_iff];have f:(0:Rat)<(a.2:Rat):=by exact_mod_cast (show 0<a.2 by ac_nf)
 have b:(0:Rat)<(c.2:Rat):=by exact_mod_cast (show 0<c.2 by ac_nf)
 have e:((a.1*c.2<c.1*a.2)↔((a.1:Rat)*(c.2:Rat)<(c.1:Rat)*(a.2:Rat))):=by
  constructor
  ·intro h;exact_mod_cast h
  ·intro h;exact_mod_cast h
 rw [e];rw [Rat.div_lt_iff f];generalize (a.1:Rat)=x at *;generalize (a.2:Rat)=y at *;generalize (c.1:Rat)=z at *;generalize (c.2:Rat)=u at *;have d:z/u*y=z*y/u:=by grind
 rw [d,Rat.lt_div_iff b]
theorem Jbk.trans {ls:List PD} {a b c:Str} {w w':List Pr} (h:Jbk ls a w b) (h':Jbk ls b w' c):Jbk ls a (w++w') c:=by
 induction h' with
 | nil=>
  rw [append_nil];exact h
 | snoc _ hm ih=>
  rw [<- List.append_assoc];exact .snoc ih hm
theorem Conn.trans {ls:List PD} {a b c:Str}:Conn ls a b->Conn ls b c->Conn ls a c:=fun ⟨w,h⟩ ⟨e,d⟩=>⟨w++e,h.trans d⟩
theorem Conn.refl {ls:List PD} {a:Str}:Conn ls a a:=⟨[], .nil⟩
theorem Conn.lead {ls:List PD} {f g:Str} {pr:Pr} (h:(g,pr)∈JaF ls f):Conn ls f g:=⟨[]++[pr], .snoc .nil h⟩
theorem Conn.symm {ls:List PD} (hn:∀ p∈ls,p.st≠p.en) {a b:Str} (h:Conn ls a b):Conn ls b a:=by
 obtain ⟨w,h⟩:=h;induction h with
 | nil=>exact .refl
 | snoc _ hm ih=>
  obtain ⟨p,c,h | h⟩:=Jbl.mp hm
  ·exact Conn.trans (.lead (Jbl.mpr ⟨p,c, .inr ⟨fun z=>hn p c (z.trans h.2.1.symm),h.2.1,h.1,rfl⟩⟩)) ih
  ·exact Conn.trans (.lead (Jbl.mpr ⟨p,c, .inl ⟨h.2.2.1,h.2.1,rfl⟩⟩)) ih
theorem Conn.mono {ls:List PD} {p:PD} {a b:Str} (h:Conn ls a b):Conn (ls++[p]) a b:=by
 obtain ⟨w,h⟩:=h;refine ⟨w,?_⟩;induction h with
 | nil=>exact .nil
 | snoc _ hm ih=>exact .snoc ih (by rw [Jd3]; exact mem_append.mpr (.inl hm))
theorem JhO {ls:List PD} {p:PD} (hp:p∈ls):Conn ls p.st p.en:=.lead (pr:=(p.nm,true)) (Jbl.mpr ⟨p,hp, .inl ⟨rfl,rfl,rfl⟩⟩)
theorem Ji4 {ls:List PD} (hn:∀ p∈ls,p.st≠p.en) {a b:Str} (h:Conn ls a b) (hne:a≠b):a∈fcsOf ls/\b∈fcsOf ls:=by
 have c:∀ {a b:Str},Conn ls a b->a≠b->b∈fcsOf ls:=fun {a b} h hne=>by
  obtain ⟨w,h⟩:=h;rcases mem_cons.mp (Jhg h) with e | e
  ·exact absurd e.symm hne
  ·exact e
 exact ⟨c (h.symm hn) (Ne.symm hne),c h hne⟩
theorem Jeh {p:PD}:∀ (l1 acc:List PD),partsW acc (l1.map Sum.inl)=.ok (acc++l1)->p.nm∉(acc++l1).map (·.nm)->¬ Conn (acc++l1) p.st p.en->partsW acc ((l1++[p]).map Sum.inl)=.ok (acc++(l1++[p]))
 | [],acc,_,h2,h3=>by
  rw [append_nil] at h2 h3;rw [nil_append,map_cons,map_nil,Jdg h2 h3,partsW]
 | q::l1,acc,h1,h2,h3=>by
  have ea:acc++q::l1=(acc++[q])++l1:=by simp
  rw [ea] at h1 h2 h3;rw [cons_append,map_cons];rw [map_cons,partsW] at h1;split at h1
  ·cases h1
  ·rename_i c1;split at h1
   ·cases h1
   ·rename_i c2;rw [Jdg c1 c2,Jeh l1 (acc++[q]) h1 h2 h3];simp
theorem Conn.sub {L L':List PD} (hs:∀ p∈L,p∈L') {a b:Str} (h:Conn L a b):Conn L' a b:=by
 obtain ⟨w,h⟩:=h;refine ⟨w,?_⟩;induction h with
 | nil=>exact .nil
 | snoc _ hm ih=>
  obtain ⟨p,c,h⟩:=Jbl.mp hm;exact .snoc ih (Jbl.mpr ⟨p,hs p c,h⟩)
def Tree (ls:List PD):Prop:=∀ p∈ls, ¬ Conn (ls.filter fun x=>decide (x.nm≠p.nm)) p.st p.en
theorem Jh9 {L:List PD} {x:Str} {e:Str × Pr} (h:e∈JaF L x):x∈fcsOf L/\e.1∈fcsOf L:=by
 refine ⟨?_,JgZ h⟩;obtain ⟨p,a,h⟩:=(Jbl (g:=e.1) (pr:=e.2)).mp h;refine mem_flatMap.mpr ⟨p,a,?_⟩;rcases h with h | h
 ·rw [<- h.1]; simp
 ·rw [<- h.2.1]; simp
theorem Conn.retract {L:List PD} {q:PD} {f s0:Str} (hq:(q.st=f/\q.en=s0)\/(q.st=s0/\q.en=f)) (hf:f∉fcsOf L) {a b:Str} (h:Conn (L++[q]) a b):Conn L (if a=f then s0 else a) (if b=f then s0 else b):=by
 obtain ⟨w,h⟩:=h;induction h with
 | nil=>exact .refl
 | snoc _ hm ih=>
  refine ih.trans ?_;rw [Jd3] at hm;rcases mem_append.mp hm with h | h
  ·have e:=Jh9 h;have g:∀ x∈fcsOf L,x≠f:=fun x c z=>hf (z ▸ c);rw [if_neg (g _ e.1),if_neg (g _ e.2)];exact .lead h
  ·have d:∀ x,JaF [q] x=JdG q x:=fun x=>by simp [JaF]
   have i:=h;rw [<- d] at i;obtain ⟨p,j,k⟩:=Jbl.mp i;rw [mem_singleton] at j;subst j;have e:∀ x:Str,x=p.st\/x=p.en->(if x=f then s0 else x)=s0:=fun x c=>by
    split
    ·rfl
    ·rename_i n;rcases hq with ⟨h1,h2⟩ | ⟨h1,h2⟩ <;> rcases c with c | c
     ·exact absurd (c.trans h1) n
     ·exact c.trans h2
     ·exact c.trans h1
     ·exact absurd (c.trans h2) n
   rcases k with k | k
   ·rw [e _ (.inl k.1.symm),e _ (.inr k.2.1.symm)];exact .refl
   ·rw [e _ (.inr k.2.1.symm),e _ (.inl k.2.2.1.symm)];exact .refl
theorem Jei {ls:List PD} (ht:Tree ls):∀ (l acc:List PD),((acc++l).map (·.nm)).Nodup->(∀ x∈acc++l,x∈ls)->partsW acc (l.map Sum.inl)=.ok (acc++l)
 | [],acc,_,_=>by rw [map_nil,partsW,append_nil]
 | p::l,acc,hn,hs=>by
  have ea:acc++p::l=(acc++[p])++l:=by simp
  have ne:p.nm∉acc.map (·.nm):=by
   have h2:=hn;rw [map_append,map_cons,nodup_append] at h2;exact fun z=>h2.2.2 _ z _ (by simp) rfl
  have nc:¬ Conn acc p.st p.en:=fun z=>ht p (hs p (by simp)) (z.sub fun x hx=>mem_filter.mpr ⟨hs x (by simp [hx]),by
   rw [decide_eq_true_iff];exact fun e=>ne (by rw [<- e]; exact mem_map.mpr ⟨x,hx,rfl⟩)⟩)
  rw [map_cons,Jdg ne nc,Jei ht l (acc++[p]) (by rw [<- ea]; exact hn) (by rw [<- ea]; exact hs),ea]
def sgn (b:Bool) (a:Int × Int):Int × Int:=if b then a else negF a
inductive Legs (ls:List PD) (pl:Str->Int × Int):Str->List Pr->Str->Prop
 | nil {a:Str}:Legs ls pl a [] a
 | cons {a g b:Str} {p:PD} {fw:Bool} {w:List Pr}:p∈ls->vl (pl g)=vl (pl a)+vl (sgn fw p.sz)->Legs ls pl g w b->Legs ls pl a ((p.nm,fw)::w) b
theorem Legs.snoc {ls:List PD} {pl:Str->Int × Int} {a f g:Str} {w:List Pr} {p:PD} {fw:Bool} (h:Legs ls pl a w f) (hp:p∈ls) (e:vl (pl g)=vl (pl f)+vl (sgn fw p.sz)):Legs ls pl a (w++[(p.nm,fw)]) g:=by
 induction h with
 | nil=>exact .cons hp e .nil
 | cons h1 h2 _ ih=>exact .cons h1 h2 (ih e)
theorem Jku {ls:List PD} {pl:Str->Int × Int} (hpl:∀ p∈ls,vl (pl p.en)=vl (pl p.st)+vl p.sz) {a b:Str} {w:List Pr} (h:Jbk ls a w b):Legs ls pl a w b:=by
 induction h with
 | nil=>exact .nil
 | snoc _ hm ih=>
  obtain ⟨p,c,h | h⟩:=Jbl.mp hm
  ·obtain ⟨e,d,rfl⟩:=h;refine ih.snoc c ?_;rw [<- e, <- d];exact hpl p c
  ·obtain ⟨_,e,d,rfl⟩:=h;refine ih.snoc c ?_;have:=hpl p c;rw [<- e, <- d,this];show _=_+vl (negF p.sz);rw [JdJ];grind
def nmK (s st k:Nat):Str:=⟨(List.replicate st s++([97+k]++List.replicate (3-st) s)).toArray⟩
theorem JcD {s st i j:Nat} (h:nmK s st i=nmK s st j):i=j:=by
 unfold nmK at h;injection h with h
 have h:=congrArg Array.toList h;simp at h;exact h
theorem JdR {s st k:Nat} (hs:97<=s/\s<=122) (hst:st<=3) (hk:k<=25):nameS (nmK s st k)=true:=by
 unfold nameS nmK;simp [Str.length,lowB];exact ⟨by ac_nf, .inr hs,by ac_nf, .inr hs⟩
theorem FB.mono {A B C D:Nat} {a:Int × Int} (h:FB A B a) (h1:A<=C) (h2:B<=D):FB C D a:=⟨h.s1.mono h1,h.s2.mono h2,h.b1,h.g1⟩
theorem Jfv:FB 1 1 (0,1):=⟨.lit ⋯ ⋯, .lit ⋯ ⋯,by decide,by decide⟩
structure SpD where
 f:Str
 r:Str
 p:Int × Int
structure Grn (st:Nat) (ls:List PD) (sp:List SpD):Prop where
 nm:∀ i p,ls[i]?=some p->p.nm=nmK 112 st i
 fc:∀ i s,sp[i]?=some s->s.f=nmK 102 st i
 ok:∀ p∈ls,POk p
 sub:∀ p∈ls,p.st∈sp.map (·.f)/\p.en∈sp.map (·.f)
 con:∀ s∈sp,Conn ls s.r s.f
 pl:∀ p∈ls, ∀ s∈sp, ∀ t∈sp,s.f=p.st->t.f=p.en->vl t.p=vl s.p+vl p.sz
 fb:∀ s∈sp,FB (134+21*ls.length) (20*ls.length+1) s.p
 good:partsW [] (ls.map Sum.inl)=.ok ls
 tr:Tree ls
theorem Grn.new {st:Nat} {ls:List PD} {sp:List SpD} (h:Grn st ls sp) {n:Nat} (hn:sp.length<=n):nmK 102 st n∉sp.map (·.f):=fun z=>by
 obtain ⟨s,c,e⟩:=mem_map.mp z;obtain ⟨i,a⟩:=List.getElem?_of_mem c;have d:=(List.getElem?_eq_some_iff.mp a).1;have b:s.f=nmK 102 st n:=e;rw [h.fc i s a] at b;have:=JcD b;ac_nf
theorem Grn.nil {st:Nat}:Grn st [] []:=⟨by simp,by simp,by simp,by simp,by simp,by simp,by simp,by rw [map_nil,partsW],fun p a=>by cases a⟩
theorem Grn.inj {st:Nat} {ls:List PD} {sp:List SpD} (h:Grn st ls sp) {s t:SpD} (hs:s∈sp) (ht:t∈sp) (e:s.f=t.f):s=t:=by
 obtain ⟨i,b⟩:=List.getElem?_of_mem hs;obtain ⟨j,a⟩:=List.getElem?_of_mem ht;rw [h.fc i s b,h.fc j t a] at e;have:=JcD e;subst this;rw [b] at a;exact Option.some.inj a
theorem Jbo {α : Type} {l:List α} {a x : α} {i:Nat} (h:(l++[a])[i]?=some x):l[i]?=some x\/(i=l.length/\x=a):=by
 by_cases c:i<l.length
 ·rw [List.getElem?_append_left c] at h;exact .inl h
 ·have b:=(List.getElem?_eq_some_iff.mp h).1;rw [length_append,length_singleton] at b;have e:i=l.length:=by ac_nf
  subst e;rw [List.getElem?_append_right (Nat.le_refl _),Nat.sub_self] at h;cases h;exact .inr ⟨rfl,rfl⟩
theorem Grn.face {st:Nat} {ls:List PD} {sp:List SpD} (h:Grn st ls sp):Grn st ls (sp++[⟨nmK 102 st sp.length,nmK 102 st sp.length,(0,1)⟩]) where
 nm:=h.nm
 fc:=fun i s f=>by
  rcases Jbo f with f | ⟨rfl,rfl⟩
  ·exact h.fc i s f
  ·rfl
 ok:=h.ok
 sub:=fun p b=>by
  rw [map_append];exact ⟨mem_append.mpr (.inl (h.sub p b).1),mem_append.mpr (.inl (h.sub p b).2)⟩
 con:=fun s a=>by
  rcases mem_append.mp a with a | a
  ·exact h.con s a
  ·rw [mem_singleton.mp a];exact .refl
 pl:=fun p b s a t c d e=>by
  have g:=h.new (Nat.le_refl sp.length);rcases mem_append.mp a with a | a
  ·rcases mem_append.mp c with c | c
   ·exact h.pl p b s a t c d e
   ·rw [mem_singleton.mp c] at e;dsimp only at e;exact absurd (e ▸ (h.sub p b).2) g
  ·rw [mem_singleton.mp a] at d;dsimp only at d;exact absurd (d ▸ (h.sub p b).1) g
 fb:=fun s a=>by
  rcases mem_append.mp a with a | a
  ·exact h.fb s a
  ·rw [mem_singleton.mp a];exact Jfv.mono ∅ ∅
 good:=h.good
 tr:=h.tr
theorem Grn.part {st:Nat} {ls:List PD} {sp:List SpD} (h:Grn st ls sp) (hst:st<=3) {s0:SpD} (h0:s0∈sp) {p:PD} {d:Bool} (hnm:p.nm=nmK 112 st ls.length)
  (h1:p.st=if d then s0.f else nmK 102 st sp.length) (h2:p.en=if d then nmK 102 st sp.length else s0.f) (hz:FB 133 20 p.sz) (hok:POk p):Grn st (ls++[p]) (sp++[⟨nmK 102 st sp.length,s0.r,addF s0.p (sgn d p.sz)⟩]):=by
 have u:=h.new (Nat.le_refl sp.length);have D:s0.f∈sp.map (·.f):=mem_map.mpr ⟨s0,h0,rfl⟩;have w:nmK 102 st sp.length≠s0.f:=fun z=>u (z ▸ D);have M:∀ q∈ls,q.st≠q.en:=fun q a=>(h.ok q a).ne;have G:nmK 102 st sp.length∉fcsOf ls:=fun z=>by
  obtain ⟨q,a,B⟩:=mem_flatMap.mp z;simp at B;rcases B with e | e
  ·exact u (e ▸ (h.sub q a).1)
  ·exact u (e ▸ (h.sub q a).2)
 have J:¬ Conn ls p.st p.en:=fun z=>by
  have:=Ji4 M z hok.ne;cases d with
  | true=>
   rw [if_pos rfl] at h1 h2;exact G (h2 ▸ this.2)
  | false=>
   rw [if_neg ⋯] at h1 h2;exact G (h1 ▸ this.1)
 have Q:p.nm∉ls.map (·.nm):=fun z=>by
  obtain ⟨q,a,e⟩:=mem_map.mp z;obtain ⟨i,o⟩:=List.getElem?_of_mem a;have T:=(List.getElem?_eq_some_iff.mp o).1;have k:q.nm=p.nm:=e;rw [h.nm i q o,hnm] at k;have:=JcD k;ac_nf
 have v:=h.fb s0 h0;have A:FB 133 20 (sgn d p.sz):=by
  cases d with
  | true=>exact hz
  | false=>exact hz.neg
 have F:FB (134+21*(ls.length+1)) (20*(ls.length+1)+1) (addF s0.p (sgn d p.sz)):=by
  have:=FB.add (n:=154+21*ls.length) (m:=20*(ls.length+1)+1) v A ∅ ∅ ∅;have e:134+21*(ls.length+1)=154+21*ls.length+1:=by ac_nf
  rw [e];exact this
 have K:vl (addF s0.p (sgn d p.sz))=vl s0.p+vl (sgn d p.sz):=JiY v.b1 A.b1;refine ⟨fun i q o=>?_,fun i s o=>?_,fun q a=>?_,fun q a=>?_,fun s b=>?_,fun q a s b t j l k=>?_,fun s b=>?_,?_,fun q a z=>?_⟩
 ·rcases Jbo o with o | ⟨rfl,rfl⟩
  ·exact h.nm i q o
  ·exact hnm
 ·rcases Jbo o with o | ⟨rfl,rfl⟩
  ·exact h.fc i s o
  ·rfl
 ·rcases mem_append.mp a with a | a
  ·exact h.ok q a
  ·rw [mem_singleton.mp a];exact hok
 ·rw [map_append];rcases mem_append.mp a with a | a
  ·exact ⟨mem_append.mpr (.inl (h.sub q a).1),mem_append.mpr (.inl (h.sub q a).2)⟩
  ·rw [mem_singleton.mp a,h1,h2];have L:nmK 102 st sp.length∈[(⟨nmK 102 st sp.length,s0.r,addF s0.p (sgn d p.sz)⟩:SpD)].map (·.f):=by simp
   cases d with
   | true=>exact ⟨mem_append.mpr (.inl D),mem_append.mpr (.inr L)⟩
   | false=>exact ⟨mem_append.mpr (.inr L),mem_append.mpr (.inl D)⟩
 ·rcases mem_append.mp b with b | b
  ·exact (h.con s b).mono
  ·rw [mem_singleton.mp b];have P:p∈ls++[p]:=by simp
   have C:∀ q∈ls++[p],q.st≠q.en:=fun q a=>by
    rcases mem_append.mp a with a | a
    ·exact M q a
    ·rw [mem_singleton.mp a];exact hok.ne
   have c:=JhO P;cases d with
   | true=>
    rw [if_pos rfl] at h1 h2;rw [h1,h2] at c;exact ((h.con s0 h0).mono).trans c
   | false=>
    rw [if_neg ⋯] at h1 h2;rw [h1,h2] at c;exact ((h.con s0 h0).mono).trans (c.symm C)
 ·rcases mem_append.mp a with a | a
  ·rcases mem_append.mp b with b | b
   ·rcases mem_append.mp j with j | j
    ·exact h.pl q a s b t j l k
    ·rw [mem_singleton.mp j] at k;dsimp only at k;exact absurd (k ▸ (h.sub q a).2) u
   ·rw [mem_singleton.mp b] at l;dsimp only at l;exact absurd (l ▸ (h.sub q a).1) u
  ·have a:=mem_singleton.mp a;subst a;cases d with
   | true=>
    rw [if_pos rfl] at h1 h2;rw [h1] at l;rw [h2] at k;have H:s=s0:=by
     rcases mem_append.mp b with b | b
     ·exact h.inj b h0 l
     ·rw [mem_singleton.mp b] at l;dsimp only at l;exact absurd l w
    have E:t.p=addF s0.p (sgn true q.sz):=by
     rcases mem_append.mp j with j | j
     ·exact absurd (k ▸ mem_map.mpr ⟨t,j,rfl⟩) u
     ·rw [mem_singleton.mp j]
    rw [H,E,K];rfl
   | false=>
    rw [if_neg ⋯] at h1 h2;rw [h1] at l;rw [h2] at k;have E:t=s0:=by
     rcases mem_append.mp j with j | j
     ·exact h.inj j h0 k
     ·rw [mem_singleton.mp j] at k;dsimp only at k;exact absurd k w
    have H:s.p=addF s0.p (sgn false q.sz):=by
     rcases mem_append.mp b with b | b
     ·exact absurd (l ▸ mem_map.mpr ⟨s,b,rfl⟩) u
     ·rw [mem_singleton.mp b]
    have N:vl (sgn false q.sz) = - vl q.sz:=JdJ q.sz;rw [E,H,K,N];grind
 ·rw [length_append,length_singleton];rcases mem_append.mp b with b | b
  ·have:=h.fb s b;exact this.mono ∅ ∅
  ·rw [mem_singleton.mp b];exact F
 ·have:=Jeh (p:=p) ls [] (by rw [nil_append]; exact h.good) (by rw [nil_append]; exact Q) (by rw [nil_append]; exact J);rw [nil_append] at this;exact this
 ·rw [filter_append] at z;rcases mem_append.mp a with a | a
  ·have S:∀ x∈ls.filter (fun x=>decide (x.nm≠q.nm)),x∈ls:=fun x g=>(mem_filter.mp g).1;have R:nmK 102 st sp.length∉fcsOf (ls.filter fun x=>decide (x.nm≠q.nm)):=fun y=>G (by
    obtain ⟨x,g,B⟩:=mem_flatMap.mp y;exact mem_flatMap.mpr ⟨x,S x g,B⟩)
   have O:Conn (ls.filter (fun x=>decide (x.nm≠q.nm))++[p]) q.st q.en:=z.sub fun x g=>by
    rcases mem_append.mp g with g | g
    ·exact mem_append.mpr (.inl g)
    ·exact mem_append.mpr (.inr (mem_filter.mp g).1)
   have:=O.retract (s0:=s0.f) (f:=nmK 102 st sp.length) (by
    cases d with
    | true=>exact .inr ⟨h1,h2⟩
    | false=>exact .inl ⟨h1,h2⟩) R
   have I:∀ x∈sp.map (·.f),x≠nmK 102 st sp.length:=fun x g y=>u (y ▸ g);rw [if_neg (I _ (h.sub q a).1),if_neg (I _ (h.sub q a).2)] at this;exact h.tr q a this
  ·rw [mem_singleton.mp a] at z;exact J (z.sub fun x g=>by
    rcases mem_append.mp g with g | g
    ·exact (mem_filter.mp g).1
    ·have:=(mem_filter.mp g);have e:=mem_singleton.mp this.1;rw [e] at this;simp at this)
def Two (sp:List SpD):Prop:=∀ s∈sp, ∃ t∈sp,t.f≠s.f/\t.r=s.r
theorem JjB {st:Nat} {ls:List PD} {sp:List SpD} (h:Grn st ls sp) {s0:SpD} (h0:s0∈sp) (ht:∀ s∈sp,s.r=s0.r\/∃ t∈sp,t.f≠s.f/\t.r=s.r) {z:Int × Int}:Two (sp++[⟨nmK 102 st sp.length,s0.r,z⟩]):=by
 have b:=h.new (Nat.le_refl sp.length);intro s a;rcases mem_append.mp a with a | a
 ·rcases ht s a with e | ⟨t,ht,e1,e2⟩
  ·exact ⟨⟨nmK 102 st sp.length,s0.r,z⟩,by simp,fun q=>b (mem_map.mpr ⟨s,a,q.symm⟩),e.symm⟩
  ·exact ⟨t,mem_append.mpr (.inl ht),e1,e2⟩
 ·rw [mem_singleton.mp a];exact ⟨s0,mem_append.mpr (.inl h0),fun q=>b (mem_map.mpr ⟨s0,h0,q⟩),rfl⟩
theorem Grn.joined {st:Nat} {ls:List PD} {sp:List SpD} (h:Grn st ls sp) {s t:SpD} (hs:s∈sp) (ht:t∈sp) (e:s.r=t.r):Conn ls s.f t.f:=by
 have a:∀ q∈ls,q.st≠q.en:=fun q b=>(h.ok q b).ne;exact ((h.con s hs).symm a).trans (e ▸ h.con t ht)
def spOf (sp:List SpD) (f:Str):Int × Int:=((sp.find? fun s=>decide (s.f=f)).map (·.p)).getD (0,1)
theorem Grn.pl_at {st:Nat} {ls:List PD} {sp:List SpD} (h:Grn st ls sp) {s:SpD} (hs:s∈sp):spOf sp s.f=s.p:=by
 unfold spOf;cases e:sp.find? fun t=>decide (t.f=s.f) with
 | none=>
  have:=List.find?_eq_none.mp e s hs;simp at this
 | some t=>
  have b:=List.mem_of_find?_eq_some e;have c:=List.find?_some e;have a:t.f=s.f:=by simpa using c
  rw [h.inj b hs a];rfl
theorem Grn.pls {st:Nat} {ls:List PD} {sp:List SpD} (h:Grn st ls sp):∀ p∈ls,vl (spOf sp p.en)=vl (spOf sp p.st)+vl p.sz:=fun p c=>by
 obtain ⟨s,d,a⟩:=mem_map.mp (h.sub p c).1;obtain ⟨t,e,b⟩:=mem_map.mp (h.sub p c).2;have a:s.f=p.st:=a;have b:t.f=p.en:=b;rw [<- a, <- b,h.pl_at d,h.pl_at e];exact h.pl p c s d t e a b
theorem Grn.plb {st:Nat} {ls:List PD} {sp:List SpD} (h:Grn st ls sp) (hl:ls.length<=8) (f:Str):FB 302 161 (spOf sp f):=by
 unfold spOf;cases e:sp.find? fun t=>decide (t.f=f) with
 | none=>exact Jfv.mono ∅ ∅
 | some t=>
  have:=h.fb t (List.mem_of_find?_eq_some e);exact this.mono ∅ ∅
theorem Jhf {t b:Int} (hb:1<=b):vl (Mth.top t b,Mth.bot t b)=(t:Rat)/(b:Rat):=by
 have a:b≠0:=by ac_nf
 have d:=Mth.cross (t:=t) a;have c:=Mth.JcV (t:=t) a;unfold vl;dsimp only;generalize Mth.top t b=x at *;generalize Mth.bot t b=y at *;have g:=JaI hb;have f:=JaI c;have e:(x:Rat)*(b:Rat)=(t:Rat)*(y:Rat):=by exact_mod_cast d
 generalize (x:Rat)=x at *;generalize (y:Rat)=y at *;generalize (t:Rat)=t at *;generalize (b:Rat)=b at *;grind
theorem FOk.fb {n:Nat} {a:Int × Int} (h:FOk n a):FB n n a:=⟨h.s1,h.s2,h.b1,h.g1⟩
def mid (pl:Str->Int × Int) (g:GD):Int × Int:=addF (pl g.en) (negF (pl g.st))
def roomF (pl:Str->Int × Int) (g:GD):Int × Int:=if lessF (addF g.hi (negF (mid pl g))) (addF (mid pl g) (negF g.lo)) then addF g.hi (negF (mid pl g)) else addF (mid pl g) (negF g.lo)
section
variable {A B A' B' C D C' D':Nat} {x y z w m a b:Int × Int}
theorem FB.inj (h:FB A B x) (k:FB C D y) (e:vl x=vl y):x=y:=Jj2 h.b1 k.b1 h.g1 k.g1 e
theorem FB.add' (h:FB A B x) (k:FB C D y):FB (A+D+(C+B)+1) (B+D) (addF x y):=FB.add h k ∅ ∅ (Nat.le_refl _)
theorem FB.vadd (h:FB A B x) (k:FB C D y):vl (addF x y)=vl x+vl y:=JiY h.b1 k.b1
theorem Jkt (hx:FB A B x) (hy:FB A B y) (hz:FB C D z) (hw:FB A B w) (e:vl y=vl x+vl z):addF (addF x (negF w)) z=addF y (negF w):=by
 refine FB.inj ((hx.add' hw.neg).add' hz) (hy.add' hw.neg) ?_;rw [FB.vadd (hx.add' hw.neg) hz,hx.vadd hw.neg,hy.vadd hw.neg,e,JdJ];grind
theorem Jja (hx:FB A B x):addF x (negF x)=(0,1):=by
 refine FB.inj (hx.add' hx.neg) Jfv ?_;rw [hx.vadd hx.neg,JdJ];have : vl (0,1)=0:=by
  unfold vl;grind
 rw [this];grind
theorem Jj9 (hm:FB A B m) (ha:FB C D a):addF (addF m a) (negF m)=a:=by
 refine FB.inj ((hm.add' ha).add' hm.neg) ha ?_;rw [FB.vadd (hm.add' ha) hm.neg,hm.vadd ha,JdJ];grind
theorem Jka (hm:FB A B m) (hb:FB C D b):addF m (negF (addF m (negF b)))=b:=by
 have a:=hm.add' hb.neg;refine FB.inj (hm.add' a.neg) hb ?_;rw [hm.vadd a.neg,JdJ,hm.vadd hb.neg,JdJ];grind
theorem Jjw (ha:FB A B a) (hb:FB C D b):(if lessF a b then a else b)=if lessF b a then b else a:=by
 have g:=Jc5 (a:=a) (c:=b) ha.b1 hb.b1;have f:=Jc5 (a:=b) (c:=a) hb.b1 ha.b1;by_cases e:lessF a b=true
 ·rw [if_pos e,if_neg fun d=>by
   have:=g.mp e;have:=f.mp d;grind]
 ·rw [if_neg e];by_cases d:lessF b a=true
  ·rw [if_pos d]
  ·rw [if_neg d];refine FB.inj hb ha ?_;have h:¬ vl a<vl b:=fun q=>e (g.mpr q);have i:¬ vl b<vl a:=fun q=>d (f.mpr q);grind
theorem hi_lo (hm:FB A B m) (ha:FB C D a) (hb:FB C' D' b) (h:0<=vl a+vl b):lessF (addF m a) (addF m (negF b))=false:=by
 have d:=hm.add' ha;have f:=hm.add' hb.neg;have c:=Jc5 d.b1 f.b1;rw [hm.vadd ha,hm.vadd hb.neg,JdJ] at c;cases e:lessF (addF m a) (addF m (negF b)) with
 | false=>rfl
 | true=>
  have:=c.mp e;grind
theorem Jlp {pl:Str->Int × Int} {g:GD} (h:∀ f,FB 302 161 (pl f)):FB 464 322 (mid pl g):=FB.add (h _) (h _).neg ⋯ ⋯ ⋯
end
section
variable {α : Type} {f : α->Str} {l:List α} {s st:Nat}
theorem Jjd (h:∀ i a,l[i]?=some a->f a=nmK s st i) {a b : α} (ha:a∈l) (hb:b∈l) (e:f a=f b):a=b:=by
 obtain ⟨i,d⟩:=List.getElem?_of_mem ha;obtain ⟨j,c⟩:=List.getElem?_of_mem hb;rw [h i a d,h j b c] at e;have:=JcD e;subst this;rw [d] at c;exact Option.some.inj c
theorem JfN (h:∀ i a,l[i]?=some a->f a=nmK s st i):(l.map f).Nodup:=by
 rw [List.Nodup,List.pairwise_iff_getElem];intro i j b c d e;rw [length_map] at b c;rw [List.getElem_map,List.getElem_map,h i _ (List.getElem?_eq_getElem b),h j _ (List.getElem?_eq_getElem c)] at e;have:=JcD e;ac_nf
end
theorem Grn.fname {st:Nat} {ls:List PD} {sp:List SpD} (h:Grn st ls sp) (hst:st<=3) (hl:sp.length<=16) {s:SpD} (hs:s∈sp):nameS s.f=true:=by
 obtain ⟨i,a⟩:=List.getElem?_of_mem hs;have:=(List.getElem?_eq_some_iff.mp a).1;rw [h.fc i s a];exact JdR ⋯ hst ∅
section
variable {K:W.Frag} {H H':Hp} {x:V}
end
theorem Jda {H0 H:Hp} {b:Addr} (S:Same H0 H) (h:H b=none):H0 b=none:=by
 cases e:H0 b with
 | none=>rfl
 | some o=>rw [S _ _ e] at h; cases h
theorem Jlg {c:TT} {t u:TS} {D:Ends} {σ : St} {H:Hp} (J:St->Hp->Prop) (hJ:∀ σ' H',J σ' H'->D.nx σ' H') (h:∀ N:St->Hp->Prop,(∀ σ' H',J σ' H'->N σ' H')->tIfS c t u { D with nx:=N } σ H):tIfS c t u D σ H:=h D.nx hJ
theorem JiT {t b:Int} (ht:0<=t) (hb:1<=b):0<=Mth.top t b:=by
 have c:=Mth.Jet (t:=t) (b:=b) ∅;have d:=Mth.g_pos (a:=t) (b:=b) ∅;have e:Mth.by_ t b=Mth.g t b:=by unfold Mth.by_; rw [if_neg ∅]
 rw [e] at c;rcases Int.lt_or_le (Mth.top t b) 0 with z | z
 ·have:=Int.mul_neg_of_neg_of_pos z d;ac_nf
 ·exact z
inductive Path (ls:List PD):Str->List Pr->Str->Prop
 | nil {a:Str}:Path ls a [] a
 | cons {a g b:Str} {p:PD} {fw:Bool} {w:List Pr}:p∈ls->(a=if fw then p.st else p.en)->(g=if fw then p.en else p.st)->Path ls g w b->Path ls a ((p.nm,fw)::w) b
theorem Path.snoc {ls:List PD} {a f g:Str} {w:List Pr} {p:PD} {fw:Bool} (h:Path ls a w f) (hp:p∈ls) (e1:f=if fw then p.st else p.en) (e2:g=if fw then p.en else p.st):Path ls a (w++[(p.nm,fw)]) g:=by
 induction h with
 | nil=>exact .cons hp e1 e2 .nil
 | cons h1 h2 h3 _ ih=>exact .cons h1 h2 h3 (ih e1)
theorem Jgz {ls:List PD} {a b:Str} {w:List Pr} (h:Jbk ls a w b):Path ls a w b:=by
 induction h with
 | nil=>exact .nil
 | snoc _ hm ih=>
  obtain ⟨p,e,h | h⟩:=Jbl.mp hm
  ·obtain ⟨d,c,rfl⟩:=h;exact ih.snoc e d.symm c.symm
  ·obtain ⟨_,d,c,rfl⟩:=h;exact ih.snoc e d.symm c.symm
theorem JeQ {ls:List PD} {a b:Str} {w:List Pr} (h:Path ls a w b):∀ n∈w.map (·.1),n∈ls.map (·.nm):=by
 induction h with
 | nil=>simp
 | cons h1 _ _ _ ih=>
  intro n c;rw [map_cons] at c;rcases mem_cons.mp c with e | e
  ·rw [e];exact mem_map.mpr ⟨_,h1,rfl⟩
  ·exact ih n e
theorem Path.sub {ls ls':List PD} (hs:∀ p∈ls,p∈ls') {a b:Str} {w:List Pr} (h:Path ls a w b):Path ls' a w b:=by
 induction h with
 | nil=>exact .nil
 | cons h1 h2 h3 _ ih=>exact .cons (hs _ h1) h2 h3 ih
open PySem.Spec PyProof.Rows
theorem JdP (z:Str):∀ ss:List Str,inV (.str z) (ss.map V.str)=decide (z∈ss)
 | []=>by simp [inV]
 | s::ss=>by
  have h:=JdP z ss;unfold inV at h ⊢;rw [map_cons,any_cons,h];have e:eqV (.str s) (.str z)=decide (s=z):=by first | rfl | simp [eqV]
  rw [e];by_cases c:s=z
  ·subst c;simp
  ·have c':¬ z=s:=fun q=>c q.symm;simp [c,c']
theorem JdZ (ss:List Str):(ss.map V.str).all flatV=true:=by
 induction ss with
 | nil=>rfl
 | cons s ss ih=>rw [map_cons,List.all_cons,ih]; rfl
theorem Jid {ks:List PD} (h:(ks.map (·.nm)).Nodup) {i:Nat} {p:PD} (hp:ks[i]?=some p):p.nm∉(ks.take i).map (·.nm):=fun z=>by
 obtain ⟨q,d,e⟩:=mem_map.mp z;have e:q.nm=p.nm:=e;have c:=(List.getElem?_eq_some_iff.mp hp).1;obtain ⟨j,a⟩:=List.getElem?_of_mem d;have f:=(List.getElem?_eq_some_iff.mp a).1;rw [length_take] at f;rw [List.getElem?_take_of_lt ∅] at a;have b:=(List.getElem?_eq_some_iff.mp a).1;rw [List.Nodup,List.pairwise_iff_getElem] at h;refine h j i (by rw [length_map]; exact b) (by rw [length_map]; exact c) ∅ ?_;rw [List.getElem_map,List.getElem_map];rw [List.getElem?_eq_getElem b] at a;rw [List.getElem?_eq_getElem c] at hp;rw [Option.some.inj a,Option.some.inj hp];exact e
theorem ForR.byN {lo:Int} {n:Nat} {g:TG} {tb:TS} {D:Ends} {σ : St} {H:Hp} (Pv:Nat->St->Hp->Prop) (h0:Pv 0 σ H)
  (hs:∀ i σ H,i<n->Pv i σ H->∀ N:St->Hp->Prop,(∀ σ' H',Pv (i+1) σ' H'->N σ' H')->g (.int (lo+i)) σ H fun σ2 H2=>tb { D with nx:=N,ct:=N,bk:=D.nx } σ2 H2) (hd:∀ σ H,Pv n σ H->D.nx σ H):ForR lo n g tb D σ H :=
 ForR.by Pv h0 (fun i σ H a b=>hs i σ H a b _ fun _ _ h=>h) hd
theorem ForA.byLN {K:W.Frag} {a:Addr} {xs:List V} {g:TG} {tb:TS} {D:Ends} {σ : St} {H:Hp} (hA:SqL K H a xs) (Pv:Nat->St->Hp->Prop) (h0:Pv 0 σ H) (hl:∀ i σ H',Pv i σ H'->SqL K H' a xs)
  (hs:∀ i x σ H,xs[i]?=some x->Pv i σ H->∀ N:St->Hp->Prop,(∀ σ' H',Pv (i+1) σ' H'->N σ' H')->g x σ H fun σ2 H2=>tb { D with nx:=N,ct:=N,bk:=D.nx } σ2 H2) (hd:∀ σ H,Pv xs.length σ H->D.nx σ H):ForA K a g tb D σ H :=
 ForA.byL hA Pv h0 hl (fun i x σ H b c=>hs i x σ H b c _ fun _ _ h=>h) hd
structure Nms (ls:List PD) (xs:List (SpD × List Str)):Prop where
 nd:∀ x∈xs,x.2.Nodup
 sub:∀ x∈xs, ∀ n∈x.2,n∈ls.map (·.nm)
 stp:∀ p∈ls, ∀ x∈xs, ∀ y∈xs,x.1.f=p.st->y.1.f=p.en->(∀ n,n≠p.nm->(n∈x.2↔n∈y.2))/\(p.nm∈x.2↔p.nm∉y.2)
 fb:∀ x∈xs,FB (134+5*ls.length) (4*ls.length+1) x.1.p
 pb:∀ p∈ls,FB 133 4 p.sz/\FB 100 6 p.mo
 ln:∀ x∈xs,x.2.length<=ls.length
theorem Nms.nil:Nms [] []:=⟨by simp,by simp,by simp,by simp,by simp,by simp⟩
theorem Nms.face {st:Nat} {ls:List PD} {xs:List (SpD × List Str)} (h:Nms ls xs) (hG:Grn st ls (xs.map (·.1))):Nms ls (xs++[(⟨nmK 102 st (xs.map (·.1)).length,nmK 102 st (xs.map (·.1)).length,(0,1)⟩,[])]):=by
 have f:=hG.new (Nat.le_refl _);refine ⟨fun x a=>?_,fun x a=>?_,fun p e x a y b c d=>?_,fun x a=>?_,h.pb,fun x a=>?_⟩
 ·rcases mem_append.mp a with a | a
  ·exact h.nd x a
  ·rw [mem_singleton.mp a]; exact .nil
 ·rcases mem_append.mp a with a | a
  ·exact h.sub x a
  ·rw [mem_singleton.mp a]; intro n g; cases g
 ·rcases mem_append.mp a with a | a
  ·rcases mem_append.mp b with b | b
   ·exact h.stp p e x a y b c d
   ·rw [mem_singleton.mp b] at d;dsimp only at d;exact absurd (d ▸ (hG.sub p e).2) f
  ·rw [mem_singleton.mp a] at c;dsimp only at c;exact absurd (c ▸ (hG.sub p e).1) f
 ·rcases mem_append.mp a with a | a
  ·exact h.fb x a
  ·rw [mem_singleton.mp a];exact Jfv.mono ∅ ∅
 ·rcases mem_append.mp a with a | a
  ·exact h.ln x a
  ·rw [mem_singleton.mp a]; exact Nat.zero_le _
theorem Nms.part {st:Nat} {ls:List PD} {xs:List (SpD × List Str)} (h:Nms ls xs) (hG:Grn st ls (xs.map (·.1))) {s0:SpD × List Str} (h0:s0∈xs) {p:PD} {d:Bool} (hnm:p.nm=nmK 112 st ls.length)
  (h1:p.st=if d then s0.1.f else nmK 102 st (xs.map (·.1)).length) (h2:p.en=if d then nmK 102 st (xs.map (·.1)).length else s0.1.f) (hz:FB 133 4 p.sz) (hm:FB 100 6 p.mo) :
  Nms (ls++[p]) (xs++[(⟨nmK 102 st (xs.map (·.1)).length,s0.1.r,addF s0.1.p (sgn d p.sz)⟩,s0.2++[p.nm])]):=by
 have A:=hG.new (Nat.le_refl _);have t:∀ x∈xs,x.1.f=s0.1.f->(∀ n,n∈x.2↔n∈s0.2):=fun x c e=>by
  obtain ⟨i,u⟩:=List.getElem?_of_mem c;obtain ⟨j,w⟩:=List.getElem?_of_mem h0;have J:=hG.fc i x.1 (by rw [List.getElem?_map,u]; rfl);have K:=hG.fc j s0.1 (by rw [List.getElem?_map,w]; rfl);rw [J,K] at e;have:=JcD e;subst this;rw [u] at w;rw [Option.some.inj w];exact fun _=>Iff.rfl
 have I:p.nm∉ls.map (·.nm):=fun z=>by
  obtain ⟨q,g,e⟩:=mem_map.mp z;obtain ⟨i,u⟩:=List.getElem?_of_mem g;have M:=(List.getElem?_eq_some_iff.mp u).1;have l:q.nm=p.nm:=e;rw [hG.nm i q u,hnm] at l;have:=JcD l;ac_nf
 have D:p.nm∉s0.2:=fun z=>I (h.sub s0 h0 _ z);have C:FB 133 4 (sgn d p.sz):=by
  cases d with
  | true=>exact hz
  | false=>exact hz.neg
 refine ⟨fun x c=>?_,fun x c n o=>?_,fun q g x c y k s l=>?_,fun x c=>?_,fun q g=>?_,fun x c=>?_⟩
 ·rcases mem_append.mp c with c | c
  ·exact h.nd x c
  ·rw [mem_singleton.mp c];show (s0.2++[p.nm]).Nodup;rw [nodup_append];refine ⟨h.nd s0 h0,by simp,fun a L b H e=>?_⟩;rw [mem_singleton.mp H] at e;exact D (e ▸ L)
 ·rw [map_append];rcases mem_append.mp c with c | c
  ·exact mem_append.mpr (.inl (h.sub x c n o))
  ·rw [mem_singleton.mp c] at o;rcases mem_append.mp o with o | o
   ·exact mem_append.mpr (.inl (h.sub s0 h0 n o))
   ·rw [mem_singleton.mp o];simp
 ·rcases mem_append.mp g with g | g
  ·rcases mem_append.mp c with c | c
   ·rcases mem_append.mp k with k | k
    ·exact h.stp q g x c y k s l
    ·rw [mem_singleton.mp k] at l;dsimp only at l;exact absurd (l ▸ (hG.sub q g).2) A
   ·rw [mem_singleton.mp c] at s;dsimp only at s;exact absurd (s ▸ (hG.sub q g).1) A
  ·have g:=mem_singleton.mp g;subst g;have v:∀ z∈xs,z.1.f≠nmK 102 st (xs.map (·.1)).length:=fun z B e=>A (e ▸ mem_map.mpr ⟨z.1,mem_map.mpr ⟨z,B,rfl⟩,rfl⟩);have G:∀ n,n≠q.nm->(n∈s0.2↔n∈s0.2++[q.nm]):=fun n o=>by simp [o]
   cases d with
   | true=>
    rw [if_pos rfl] at h1 h2;rw [h1] at s;rw [h2] at l;rcases mem_append.mp c with c | c
    ·rcases mem_append.mp k with k | k
     ·exact absurd l (v y k)
     ·rw [mem_singleton.mp k];have E:=t x c s;refine ⟨fun n o=>(E n).trans (G n o),?_⟩;rw [E];simp [D]
    ·rw [mem_singleton.mp c] at s;dsimp only at s;exact absurd s.symm (v s0 h0)
   | false=>
    rw [if_neg ⋯] at h1 h2;rw [h1] at s;rw [h2] at l;rcases mem_append.mp k with k | k
    ·rcases mem_append.mp c with c | c
     ·exact absurd s (v x c)
     ·rw [mem_singleton.mp c];have F:=t y k l;refine ⟨fun n o=>(G n o).symm.trans (F n).symm,?_⟩;rw [F];simp [D]
    ·rw [mem_singleton.mp k] at l;dsimp only at l;exact absurd l.symm (v s0 h0)
 ·rw [length_append,length_singleton];rcases mem_append.mp c with c | c
  ·exact (h.fb x c).mono ∅ ∅
  ·rw [mem_singleton.mp c];have:=FB.add (n:=138+5*ls.length) (m:=4*(ls.length+1)+1) (h.fb s0 h0) C ∅ ∅ ∅;exact this.mono ∅ ∅
 ·rcases mem_append.mp g with g | g
  ·exact h.pb q g
  ·rw [mem_singleton.mp g];exact ⟨hz,hm⟩
 ·rw [length_append,length_singleton];rcases mem_append.mp c with c | c
  ·have:=h.ln x c;ac_nf
  ·rw [mem_singleton.mp c];have:=h.ln s0 h0;show (s0.2++[p.nm]).length<=_;rw [length_append,length_singleton];ac_nf
theorem JdI {st:Nat} {ls:List PD} {xs:List (SpD × List Str)} (hG:Grn st ls (xs.map (·.1))) {x y:SpD × List Str} (hx:x∈xs) (hy:y∈xs) (e:x.1.f=y.1.f):x=y:=by
 obtain ⟨i,b⟩:=List.getElem?_of_mem hx;obtain ⟨j,a⟩:=List.getElem?_of_mem hy;have c:=hG.fc i x.1 (by rw [List.getElem?_map,b]; rfl);have d:=hG.fc j y.1 (by rw [List.getElem?_map,a]; rfl);rw [c,d] at e;have:=JcD e;subst this;rw [b] at a;exact Option.some.inj a
theorem Jjk {st:Nat} {ls:List PD} {xs:List (SpD × List Str)} (hG:Grn st ls (xs.map (·.1))) (hM:Nms ls xs) {a b:Str} {w:List Pr} (h:Path ls a w b):(w.map (·.1)).Nodup->∀ x∈xs, ∀ y∈xs,x.1.f=a->y.1.f=b->∀ n,n∈w.map (·.1)↔¬ (n∈x.2↔n∈y.2):=by
 induction h with
 | nil=>
  intro _ x j y m o r n;have:=JdI hG j m (o.trans r.symm);subst this;simp
 | @cons a g b p fw w hp h1 h2 _ ih=>
  intro l x j y m o r n;rw [map_cons,nodup_cons] at l;obtain ⟨z,d,t⟩:∃ z∈xs,z.1.f=g:=by
   have k:=hG.sub p hp;have : g∈(xs.map (·.1)).map (·.f):=by
    rw [h2];cases fw
    ·exact k.1
    ·exact k.2
   obtain ⟨s,k,e⟩:=mem_map.mp this;obtain ⟨z,d,rfl⟩:=mem_map.mp k;exact ⟨z,d,e⟩
  have i:=ih l.2 z d y m t r n;have u:(∀ n,n≠p.nm->(n∈x.2↔n∈z.2))/\(p.nm∈x.2↔p.nm∉z.2):=by
   rw [<- o] at h1;rw [<- t] at h2;cases fw with
   | true=>
    rw [if_pos rfl] at h1 h2;exact hM.stp p hp x j z d h1 h2
   | false=>
    rw [if_neg ⋯] at h1 h2;have:=hM.stp p hp z d x j h2 h1;exact ⟨fun n v=>(this.1 n v).symm,by have:=this.2; grind⟩
  rw [map_cons,mem_cons];by_cases c:n=p.nm
  ·subst c;have q:¬ p.nm∈w.map (·.1):=l.1;have:=u.2;grind
  ·have:=u.1 n c;grind
def NmOk (xs:List (SpD × List Str)) (e:GD × List Str):Prop:=e.2.Nodup/\∀ x∈xs, ∀ y∈xs,x.1.f=e.1.st->y.1.f=e.1.en->∀ n,n∈e.2↔¬ (n∈x.2↔n∈y.2)
theorem JjC {st:Nat} {ls:List PD} {xs:List (SpD × List Str)} (hG:Grn st ls (xs.map (·.1))) (hM:Nms ls xs) {e:GD × List Str} (he:NmOk xs e) (h1:e.1.st∈(xs.map (·.1)).map (·.f)) (h2:e.1.en∈(xs.map (·.1)).map (·.f)) {w:List Pr} (h:Path ls e.1.st w e.1.en) (nd:(w.map (·.1)).Nodup):e.2.Perm (w.map (·.1)):=by
 obtain ⟨s,g,d⟩:=mem_map.mp h1;obtain ⟨x,a,rfl⟩:=mem_map.mp g;obtain ⟨t,i,b⟩:=mem_map.mp h2;obtain ⟨y,c,rfl⟩:=mem_map.mp i;refine (List.perm_ext_iff_of_nodup he.1 nd).mpr fun n=>?_;rw [he.2 x a y c d b n,Jjk hG hM h nd x a y c d b n]
theorem JlL {a b:List Str} (ha:a.Nodup) (hb:b.Nodup):(a.filter (fun n=>decide (n∉b))++b.filter (fun n=>decide (n∉a))).Nodup/\∀ n,n∈a.filter (fun n=>decide (n∉b))++b.filter (fun n=>decide (n∉a))↔¬ (n∈a↔n∈b):=by
 constructor
 ·rw [nodup_append];refine ⟨ha.filter _,hb.filter _,fun x f y g e=>?_⟩;subst e;have d:=(mem_filter.mp f);have c:=(mem_filter.mp g);simp at d c;exact d.2 c.1
 ·intro n;rw [mem_append,mem_filter,mem_filter];simp;grind
def sm (f:Str->Rat):List Str->Rat
 | []=>0
 | n::r=>f n+sm f r
theorem JkY {f:Str->Rat} {a b:List Str} (h:a.Perm b):sm f a=sm f b:=by
 induction h with
 | nil=>rfl
 | cons _ _ ih=>simp only [sm,ih]
 | swap x y l=>
  simp only [sm];grind
 | trans _ _ ih1 ih2=>exact ih1.trans ih2
theorem JiM {f:Str->Rat} (n:Str):∀ a:List Str,sm f (a++[n])=sm f a+f n
 | []=>by simp only [nil_append,sm]; grind
 | m::a=>by
  rw [cons_append];simp only [sm,JiM n a];grind
def prodI:List Int->Int
 | []=>1
 | f::r=>f*prodI r
theorem Jcg (f:Int):∀ fs:List Int,prodI (fs++[f])=prodI fs*f
 | []=>by simp [prodI]
 | g::fs=>by rw [cons_append]; simp only [prodI,Jcg f fs]; rw [Int.mul_assoc]
structure Scl (b:Int) (fs:List Int):Prop where
 b1:1<=b
 f1:∀ f∈fs,1<=f
 pr:prodI fs=b
theorem Jek:∀ {fs:List Int},(∀ f∈fs,1<=f)->1<=prodI fs
 | [],_=>by simp [prodI]
 | f::fs,h=>by
  have h1:=h f (by simp);have h2:=Jek (fs:=fs) fun g hg=>h g (by simp [hg]);have:=Int.mul_pos (show 0<f by ac_nf) (show 0<prodI fs by ac_nf);simp only [prodI];ac_nf
theorem JfW:∀ (as bs:List Int),prodI (as++bs)=prodI as*prodI bs
 | [],bs=>by simp [prodI]
 | a::as,bs=>by rw [cons_append]; simp only [prodI,JfW as bs]; rw [Int.mul_assoc]
theorem Jiz {a b:Int} (ha:1<=a) (hb:1<=b):a<=a*b/\b<=a*b:=by
 have c:=Int.mul_le_mul_of_nonneg_left hb (show 0<=a by ac_nf);have d:=Int.mul_le_mul_of_nonneg_right ha (show 0<=b by ac_nf);constructor <;> ac_nf
theorem Scl.take {b:Int} {fs:List Int} (h:Scl b fs) (i:Nat):1<=prodI (fs.take i)/\prodI (fs.take i)<=b:=by
 have d:=Jek (fs:=fs.take i) fun f a=>h.f1 f (List.mem_of_mem_take a);have c:=Jek (fs:=fs.drop i) fun f a=>h.f1 f (List.mem_of_mem_drop a);have e:=JfW (fs.take i) (fs.drop i);rw [List.take_append_drop,h.pr] at e;have:=Jiz d c;ac_nf
theorem Scl.mem {b f:Int} {fs:List Int} (h:Scl b fs) (hf:f∈fs):f<=b:=by
 obtain ⟨i,a⟩:=List.getElem?_of_mem hf;have c:=(List.getElem?_eq_some_iff.mp a).1;have t:=h.take (i+1);rw [take_succ,a] at t;have e:=Jcg f (fs.take i);have:=Jiz (h.take i).1 (h.f1 f hf);simp only [Option.toList_some] at t;ac_nf
theorem sz_le {n:Nat} {a b:Int} (h:Mth.Sz n b) (h0:0<=a) (h1:a<=b):Mth.Sz n a:=Nat.lt_of_le_of_lt (by ac_nf:a.natAbs<=b.natAbs) h
theorem Scl.nil:Scl 1 []:=⟨by decide,by simp,rfl⟩
theorem Scl.snoc {b f:Int} {fs:List Int} (h:Scl b fs) (hf:1<=f):Scl (b*f) (fs++[f]):=⟨by
 have:=Int.mul_pos (show 0<b by have:=h.b1; ac_nf) (show 0<f by ac_nf);ac_nf,fun g a=>by
 rcases mem_append.mp a with a | a
 ·exact h.f1 g a
 ·rw [mem_singleton.mp a]; exact hf,by rw [Jcg,h.pr]⟩
structure LInv (n:Int × Int) (q:Int) (t:Int × Int):Prop where
 b1:1<=t.2
 g1:Mth.g t.1 t.2=1
 dv:t.2∣n.2
 cr:t.1*n.2=n.1*q*t.2
 ab:t.1.natAbs<=n.1.natAbs*q.natAbs
theorem LInv.nil {n:Int × Int} (h:1<=n.2) (g:Mth.g n.1 n.2=1):LInv n 1 n:=⟨h,g,Int.dvd_refl _,by rw [Int.mul_one],by simp⟩
theorem LInv.step {n t:Int × Int} {q f:Int} (h:LInv n q t) (hf:1<=f):LInv n (q*f) (t.1*f.fdiv (Mth.g t.2 f),t.2.fdiv (Mth.g t.2 f)):=by
 have v:0<Mth.g t.2 f:=Mth.g_pos ∅;have k:=Mth.JcA t.2 f;have j:=Mth.JbI t.2 f;have e:=Mth.JaM k ∅;have o:=Mth.JaM j ∅;have l:=Mth.JcP (b:=t.2) (d:=f) rfl ∅;have u:=Mth.Jb1 k ∅ h.b1;have m:=Mth.JdY j ∅;have i:t.2.fdiv (Mth.g t.2 f)∣t.2:=⟨_,e.symm⟩;have p:Int.gcd t.1 (t.2.fdiv (Mth.g t.2 f))=1:=Mth.JaT (Mth.Jb7 (Mth.JaT (Mth.Jcj h.g1)) i);have c:=h.cr;have a:=h.ab;generalize t.2.fdiv (Mth.g t.2 f)=r at *;generalize f.fdiv (Mth.g t.2 f)=f' at *;generalize Mth.g t.2 f=s at *;refine ⟨u,Mth.JdO (Mth.JaT (Mth.Jb0 (Mth.JaT p) l)),Int.dvd_trans i h.dv,?_,?_⟩
 ·show t.1*f'*n.2=n.1*(q*f)*r;have : t.1*f'*n.2=(t.1*n.2)*f':=by rw [Int.mul_assoc,Int.mul_comm f', <- Int.mul_assoc]
  rw [this,c, <- e, <- o];simp only [Int.mul_assoc,Int.mul_comm,Int.mul_left_comm]
 ·show (t.1*f').natAbs<=n.1.natAbs*(q*f).natAbs;rw [Int.natAbs_mul,Int.natAbs_mul, <- Nat.mul_assoc];exact Nat.mul_le_mul a m
theorem LInv.all {n:Int × Int} {b:Int} (h:1<=n.2) (hd:b.fmod n.2=0):LInv n b (n.1*b.fdiv n.2,1):=by
 have a:n.2∣b:=by
  rw [Int.fmod_eq_emod_of_nonneg _ ∅] at hd;exact Int.dvd_of_emod_eq_zero hd
 have e:=Mth.JaM a ∅;have c:=Mth.JdY a h;refine ⟨Int.le_refl _,by unfold Mth.g; simp,Int.one_dvd _,?_,?_⟩
 ·show n.1*b.fdiv n.2*n.2=n.1*b*1;rw [Int.mul_assoc,e,Int.mul_one]
 ·show (n.1*b.fdiv n.2).natAbs<=_;rw [Int.natAbs_mul];exact Nat.mul_le_mul_left _ c
theorem LInv.vl {n t:Int × Int} {q:Int} (h:LInv n q t) (hn:1<=n.2):vl t=vl n*(q:Rat):=by
 have f:=JaI hn;have g:=JaI h.b1;have e:(t.1:Rat)*(n.2:Rat)=(n.1:Rat)*(q:Rat)*(t.2:Rat):=by exact_mod_cast h.cr
 unfold L2.vl;generalize (t.1:Rat)=a at *;generalize (t.2:Rat)=b at *;generalize (n.1:Rat)=c at *;generalize (n.2:Rat)=d at *;generalize (q:Rat)=q at *;grind
theorem LInv.fb {n t:Int × Int} {q:Int} {A B C:Nat} (h:LInv n q t) (hn:FB A B n) (hq:Mth.Sz C q):FB (A+C) B t:=by
 refine ⟨?_,?_,h.b1,h.g1⟩
 ·refine Nat.lt_of_le_of_lt h.ab ?_;have:=hn.s1.mul hq;unfold Mth.Sz at this;rw [Int.natAbs_mul] at this;exact this
 ·refine Nat.lt_of_le_of_lt ?_ hn.s2;have:=Int.natAbs_dvd_natAbs.mpr h.dv;exact Nat.le_of_dvd (by have:=hn.b1; ac_nf) this
theorem scaled {x y q:Rat} (h:0<q):x*q<=y*q↔x<=y:=by
 constructor
 ·intro a;refine Rat.not_lt.mp fun z=>?_;have:=Rat.mul_lt_mul_of_pos_right z h;exact Rat.not_lt.mpr a this
 ·intro a;exact Rat.mul_le_mul_of_nonneg_right a (Rat.le_of_lt h)
section
variable {X:Cx} {tg:Expr}
theorem Jdi {iter elt tst:Expr} {scope:Scope} {pos:Pos} {own:List Str} {cs:List (Nat × Str)} {wi:TI} {g:TG} {te:TE} {tt:TT} (hc:X.calm=true) (hi:PI X tg iter wi)
  (hg:∀ fp s2 H2 C,PG (X.inc (own++cs.map (·.2)) scope (Jbt X.env.cells scope.names []) fp s2 H2 C) tg g) (ht:∀ fp s2 H2 C,PT (X.inc (own++cs.map (·.2)) scope (Jbt X.env.cells scope.names []) fp s2 H2 C) tst tt) (he:∀ fp s2 H2 C,PE (X.inc (own++cs.map (·.2)) scope (Jbt X.env.cells scope.names []) fp s2 H2 C) elt te)
  (hfree:∀ p∈scope.names,p.2=.free->X.env.scope.names.lookup p.1=some .cell) (hcell:∀ y∈scope.names,y.2≠.cell) (hkind:scope.kind=.function) (hnames:∀ y∈scope.names,y.2=.local->scope.names.lookup y.1=some .local)
  (hcs:∀ p∈cs,X.N[p.1]?=some p.2/\X.env.scope.names.lookup p.2=some .cell/\(relabel scope X.env).names.lookup p.2=some .cell)
  (hs:∀ x,foldedSetIterable iter X.env x=pure x:=by intro _; rfl):PE X (.ListComp elt [⟨tg,iter,[tst],0⟩] scope pos) (Jf2 own.length cs wi g tt te):=by
 intro a s σ H Q I h;have b:∀ p∈scope.names,p.2=.free->∃ c,X.env.cells.lookup p.1=some c:=fun p t u=>I.ok.has p.1 (.inl (hfree p t u));have i:=JcO (cells:=X.env.cells) scope.names [] (fun _ _ z=>by simp at z) b;rw [eval_ListComp];refine wpAny_comprehension_free (use:=none) rfl hs (Jgb b) hkind hnames (thn (hi a s σ H _ I h) fun v Z D=>thn D fun G s2 r=>?_);obtain ⟨S,fp,P,J,H2,rfl,I2,T,l,M,W,⟨R,L⟩,d⟩:=r;refine JdX (QN:=fun n k=>∀ p,k p=none->Q (.ref p) (upd k p (.lst n))) (RR:=fun f C=>compPost (model X.prog X.w) X.A X.xe none (EP X a σ Q) f C) hc hg ht he hcell hkind i (fun z F=>JcN scope.names [] z (.inr (JhY hcell F))) hcs I2 T l M L d ?_;intro D' C U k n e B O V o Y q;obtain ⟨K,j⟩:=o;exact ⟨K,j,fun E m=>⟨.ref D',_,e E m,rfl,q D' B⟩⟩
end
def notStar:Expr->Bool
 | .Starred _ _=>false
 | _=>true
theorem Jaf {e:Expr} {es:List Expr} {env:Env} (h:notStar e=true):starEach (e::es) env=(false,eval e env)::starEach es env:=by
 cases e <;> first | rfl | (simp [notStar] at h)
theorem Jaa {X:Cx} {e:Expr} {es:List Expr} {te:TE} {t:TA} (ha:PE X e te) (hr:PA X es t) (hs:notStar e=true:=by rfl):PA X (e::es) (tCons te t):=Jip ha hr (Jaf hs)
theorem JcB {X:Cx} {i:Int} {j pos} {es:List Expr} {t:TA} (hr:PA X es t):PA X (.Constant (.int i) j pos::es) (tCons (tC (.int i)) t):=Jip Jac hr (by rfl)
section
variable {K:W.Frag} {H H':Hp} {x:V} {a c:Addr}
def Same2 (a c:Addr) (H H':Hp):Prop:=∀ b u,b≠a->b≠c->H b=some u->H' b=some u
theorem Same.two (S:Same H H'):Same2 a c H H':=fun b u _ _ h=>S b u h
theorem Same2.trans {H'':Hp} (S:Same2 a c H H') (S':Same2 a c H' H''):Same2 a c H H'':=fun b u e d h=>S' b u e d (S b u e d h)
def SNV (K:W.Frag) (a c:Addr) (H:Hp) (s:SpD × List Str) (x:V):Prop:=∃ b w l,x=.ref b/\SqT K H b [.str s.1.r,w, .ref l]/\FrV K H w s.1.p.1 s.1.p.2/\l≠a/\l≠c/\H l=some (.lst (s.2.map V.str))
theorem SNV.keep {s:SpD × List Str} (T:SameT H H') (S:Same2 a c H H'):SNV K a c H s x->SNV K a c H' s x:=fun ⟨b,w,l,i,g,f,d,e,h⟩=>⟨b,w,l,i,g.sameT T,f.sameT T,d,e,S _ _ d e h⟩
theorem SNV.same {s:SpD × List Str} (S:Same H H'):SNV K a c H s x->SNV K a c H' s x:=SNV.keep S.t S.two
def RWV (K:W.Frag) (a c:Addr) (pl:Str->Int × Int) (H:Hp) (e:GD × List Str) (x:V):Prop:=∃ b w l,x=.ref b/\SqT K H b [w, .ref l]/\FrV K H w (roomF pl e.1).1 (roomF pl e.1).2/\l≠a/\l≠c/\H l=some (.lst (e.2.map V.str))
theorem RWV.keep {pl:Str->Int × Int} {e:GD × List Str} (T:SameT H H') (S:Same2 a c H H'):RWV K a c pl H e x->RWV K a c pl H' e x:=fun ⟨b,w,l,j,h,g,d,f,i⟩=>⟨b,w,l,j,h.sameT T,g.sameT T,d,f,S _ _ d f i⟩
theorem RWV.same {pl:Str->Int × Int} {e:GD × List Str} (S:Same H H'):RWV K a c pl H e x->RWV K a c pl H' e x:=RWV.keep S.t S.two
def FLV (K:W.Frag) (H:Hp) (s:Int × Int) (x:V):Prop:=FrV K H x s.1 s.2
theorem FLV.sameT {s:Int × Int} (T:SameT H H') (h:FLV K H s x):FLV K H' s x:=FrV.sameT T h
end
theorem Jir:∀ {ls:List PD} {p q:PD},(ls.map (·.nm)).Nodup->p∈ls->q∈ls->p.nm=q.nm->p=q
 | [],_,_,_,hp,_,_=>by cases hp
 | a::ls,p,q,hn,hp,hq,e=>by
  rw [map_cons,nodup_cons] at hn;rcases mem_cons.mp hp with h1 | h1 <;> rcases mem_cons.mp hq with h2 | h2
  ·rw [h1,h2]
  ·subst h1;exact absurd (e ▸ mem_map.mpr ⟨q,h2,rfl⟩) hn.1
  ·subst h2;exact absurd (e ▸ mem_map.mpr ⟨p,h1,rfl⟩) hn.1
  ·exact Jir hn.2 h1 h2 e
theorem JlC {n:Nat} (h:n<12):∃ bt:Int,[V.int 1, .int 2, .int 3, .int 4, .int 5, .int 6, .int 10, .int 12, .int 15, .int 20, .int 30, .int 60][n]?=some (.int bt)/\1<=bt/\bt<=60:=by
 match n,h with
 | 0,_ | 1,_ | 2,_ | 3,_ | 4,_ | 5,_ | 6,_ | 7,_ | 8,_ | 9,_ | 10,_ | 11,_=>exact ⟨_,rfl,by decide,by decide⟩
 | n+12,h=>ac_nf
theorem pick3 {n:Nat} (h:n<3):∃ om:Int,[V.int 13, .int 13, .int 1000000000000000000000000000000][n]?=some (.int om)/\1<=om/\om<=1000000000000000000000000000000:=by
 match n,h with
 | 0,_ | 1,_ | 2,_=>exact ⟨_,rfl,by decide,by decide⟩
 | n+3,h=>ac_nf
theorem JlD {n:Nat} (h:n<3):∃ om:Int,[V.int 23, .int 23, .int 1000000000000000000000000000000][n]?=some (.int om)/\1<=om/\om<=1000000000000000000000000000000:=by
 match n,h with
 | 0,_ | 1,_ | 2,_=>exact ⟨_,rfl,by decide,by decide⟩
 | n+3,h=>ac_nf
theorem JfU {X:Cx} {K:W.Frag} (hK:X.K=K):OpR X (compareOp .NotIn) (rIn K true):=hK ▸ Jin
section
variable {X:Cx}
theorem Jhe:∀ {xs:List V} {us:List Value},xs.length=us.length->(∀ (i:Nat) x u,xs[i]?=some x->us[i]?=some u->RelV x u)->Vals xs us
 | [],[],_,_=>.nil
 | [],_::_,h,_=>by simp at h
 | _::_,[],h,_=>by simp at h
 | x::xs,u::us,h,k=>.cons (k 0 x u rfl rfl) (Jhe (by simpa using h) fun i x u h1 h2=>k (i+1) x u (by simpa using h1) (by simpa using h2))
def JlF (xs:List V) (H:Hp) (Q:VK):Prop:=∃ (d:Addr) (kvs:List (Key × V)) (ss:List Str),xs=[.ref d]/\H d=some (.dK kvs)/\kvs.map (·.1)=ss.map Sum.inr/\∀ l,H l=none->Q (.ref l) (upd H l (.lst (ss.map V.str)))
theorem Jhi (hc:X.calm=true):CallR X (.type "list") JlF:=by
 intro C s σ H xs us Q I r h;obtain ⟨d,kvs,m,rfl,e,A,q⟩:=h;obtain ⟨u,rfl,L⟩:=vals1 r;cases L;obtain ⟨R,Y,l,g,D⟩:=dk_of I.hok e;obtain ⟨ep,E⟩:=D.dictAt;have K:m.length=kvs.length:=by simpa using (congrArg List.length A).symm
 have S:l.length=kvs.length:=g.length.symm;have f:l.map (·.1)=kvs.map (·.1):=by
  clear D E A K S R q e;induction g with
  | nil=>rfl
  | cons B _ ih=>
   rw [map_cons,map_cons,ih,B.1]
 refine W.kdl_call (W.kdl_dict (knd:=Jaw X.prog X.w) (d:=d) (kvs:=l) (ep:=ep) Y) (I.ok.hd hc) E ∅ fun M N a P k O c=>?_;have n:Vals (m.map V.str) a.toList:=Jhe (by have B:=c.1; have J:a.toList.length=a.size:=Array.length_toList; rw [length_map,J,B]; ac_nf) fun i x v F n=>by
  rw [List.getElem?_map] at F;obtain ⟨z,p,rfl⟩:=Option.map_eq_some_iff.mp F;obtain ⟨G,Z,T,U⟩:=c.2 i v (by rw [<- Array.getElem?_toList]; exact n);have j:(l.map (·.1))[i]?=some G:=by rw [List.getElem?_map,T]; rfl
  rw [f,A,List.getElem?_map,p] at j;have j:Sum.inr z=G:=Option.some.inj j;subst j;rcases JaN (show keyIs (Sum.inr z) v=true from U) with ⟨b,hb,_⟩ | ⟨y,t,hy,rfl⟩
  ·cases hb
  ·cases hy;exact ⟨t,rfl⟩
 exact ⟨.ref _,_,I.laid (t':=N) (o:=.lst (m.map V.str)) k (Nat.le_refl _) (show ObjOk X.prog X.w _ M _ (.lst (m.map V.str)) from ⟨by rw [length_map]; ac_nf,a.toList,P,n,by rw [Array.toArray_toList]; exact O⟩),rfl,q _ (I.hok.fresh (Nat.le_refl _))⟩
end
section
variable {prog:Program} {w:World} {A:Around} {E:Value->Shared->Prop} {s:Shared}
end
section
variable {X:Cx}
end
def ext (M:Str->Option Str) (f:Str):Str:=(M f).getD f
section
variable {ls:List PD} {M:Str->Option Str} {a b f g:Str} {p:PD}
end
theorem Jh8 (kvs:List (Key × V)) (k:Key) (v:V):(putK kvs k v).map (·.1)=if (valV kvs k).isSome=true then kvs.map (·.1) else kvs.map (·.1)++[k]:=by
 unfold putK;rw [Jcz];split
 ·rw [map_map];refine List.map_congr_left fun a _=>?_;show (if a.1=k then (a.1,v) else a).1=a.1;split <;> rfl
 ·rw [map_append];rfl
theorem Jh7 {kvs:List (Key × V)} {k:Key}:(valV kvs k).isSome=true↔k∈kvs.map (·.1):=by
 rw [<- Jcz,List.any_eq_true];constructor
 ·rintro ⟨a,c,b⟩;exact mem_map.mpr ⟨a,c,by simpa using b⟩
 ·intro h;obtain ⟨a,c,b⟩:=mem_map.mp h;exact ⟨a,c,by simpa using b⟩
section
variable {K:W.Frag} {H H':Hp}
def cut (p:Addr) (H:Hp):Hp:=fun b=>if b=p then none else H b
theorem JbH {p b:Addr} (h:b≠p):cut p H b=H b:=if_neg h
theorem Jc9 {p:Addr}:Same (cut p H) H:=fun b u h=>by
 unfold cut at h;split at h
 ·cases h
 ·exact h
theorem Same.cut {p:Addr} (S:Same H H'):Same (cut p H) (cut p H'):=fun b u h=>by
 have e:b≠p:=fun z=>by rw [z] at h; unfold L2.cut at h; rw [if_pos rfl] at h; cases h
 rw [JbH e] at h ⊢;exact S _ _ h
theorem Jge {p:Addr} {o:HO}:cut p (upd H p o)=cut p H:=by
 funext b
 by_cases c:b=p
 ·rw [c]; unfold cut; rw [if_pos rfl,if_pos rfl]
 ·rw [JbH c,JbH c,Jag c]
theorem SqT.cut {p a:Addr} {ys xs:List V} (hp:H p=some (.lst ys)) (h:SqT K H a xs):SqT K (cut p H) a xs:=by
 rcases h with (h | ⟨o,h⟩) | h
 ·exact .inl (.inl (by rw [JbH (fun z=>by rw [z,hp] at h; cases h)]; exact h))
 ·exact .inl (.inr ⟨o,by rw [JbH (fun z=>by rw [z,hp] at h; cases h)]; exact h⟩)
 ·exact .inr h
theorem FrV.cut {p:Addr} {ys:List V} {v:V} {a b:Int} (hp:H p=some (.lst ys)) (h:FrV K H v a b):FrV K (cut p H) v a b:=by
 obtain ⟨q,e,h⟩:=h;exact ⟨q,e,h.cut hp⟩
end
def JeE (H H':Hp):Prop:=∀ b u,(∀ xs,u≠.lst xs)->H b=some u->H' b=some u
theorem JeE.trans {H H1 H2:Hp} (a:JeE H H1) (b:JeE H1 H2):JeE H H2:=fun c u n h=>b c u n (a c u n h)
theorem JeE.t {H H':Hp} (S:JeE H H'):SameT H H':=fun b u t h=>S b u (fun a z=>by rw [z] at t; cases t) h
section
variable {a b:Str->Rat}
theorem sm_le:∀ {l:List Str},(∀ q∈l,a q<=b q)->sm a l<=sm b l
 | [],_=>Rat.le_refl
 | n::l,h=>by
  have h1:=h n (by simp);have h2:=sm_le (l:=l) fun q hq=>h q (by simp [hq]);simp only [sm];grind
theorem sm_lt:∀ {l:List Str} {n:Str},(∀ q∈l,a q<=b q)->n∈l->a n<b n->sm a l<sm b l
 | [],_,_,hn,_=>by cases hn
 | m::l,n,h,hn,lt=>by
  have h1:=h m (by simp);have h2:=sm_le (l:=l) fun q hq=>h q (by simp [hq]);simp only [sm];rcases mem_cons.mp hn with e | hn
  ·subst e;grind
  ·have:=sm_lt (fun q hq=>h q (by simp [hq])) hn lt;grind
theorem Jbn:∀ {l:List Str},(∀ q∈l,a q=b q)->sm a l=sm b l
 | [],_=>rfl
 | n::l,h=>by simp only [sm,h n (by simp),Jbn (l:=l) fun q hq=>h q (by simp [hq])]
theorem JcZ:∀ {l:List Str},(∀ q∈l,a q=0)->sm a l=0
 | [],_=>rfl
 | n::l,h=>by
  simp only [sm,h n (by simp),JcZ (l:=l) fun q hq=>h q (by simp [hq])];grind
theorem sm_nn:∀ {l:List Str},(∀ q∈l,0<=a q)->0<=sm a l
 | [],_=>Rat.le_refl
 | n::l,h=>by
  have h1:=h n (by simp);have h2:=sm_nn (l:=l) fun q hq=>h q (by simp [hq]);simp only [sm];grind
theorem Jep (c:Rat):∀ (l:List Str),sm (fun n=>a n+c*b n) l=sm a l+c*sm b l
 | []=>by simp only [sm]; grind
 | n::l=>by simp only [sm,Jep c l]; grind
theorem JlK {l:List Str} {n:Str} (h:∀ q∈l,0<=a q) (hn:n∈l) (lt:0<a n):0<sm a l:=by
 have:=sm_lt (a:=fun _=>0) (b:=a) h hn lt;rw [JcZ (a:=fun _=>0) fun _ _=>rfl] at this;exact this
end
theorem Jia {α : Type} (f : α->Rat):∀ {l:List α},l≠[]->∃ a∈l, ∀ b∈l,f a<=f b
 | [],h=>absurd rfl h
 | [a],_=>⟨a,by simp,fun b hb=>by rw [mem_singleton.mp hb]; exact Rat.le_refl⟩
 | a::b::l,_=>by
  obtain ⟨m,hm,h⟩:=Jia f (l:=b::l) (by simp);by_cases c:f a<=f m
  ·refine ⟨a,by simp,fun x hx=>?_⟩;rcases mem_cons.mp hx with rfl | hx
   ·exact Rat.le_refl
   ·exact Rat.le_trans c (h x hx)
  ·refine ⟨m,mem_cons_of_mem _ hm,fun x hx=>?_⟩;rcases mem_cons.mp hx with rfl | hx
   ·exact Rat.le_of_lt (Rat.not_le.mp c)
   ·exact h x hx
structure Gp where
 R:Rat
 way:List Str
structure Fair (N:List Str) (w M:Str->Rat) (gs:List Gp) (lv:Str->Rat):Prop where
 lo:∀ n∈N,0<=lv n
 hi:∀ n∈N,lv n<=M n
 fit:∀ g∈gs,sm (fun n=>lv n*w n) g.way<=g.R
 stop:∀ n∈N,lv n=M n\/∃ g∈gs,n∈g.way/\sm (fun n=>lv n*w n) g.way=g.R/\∀ q∈g.way,lv q<=lv n
section
variable {N:List Str} {w M:Str->Rat} {gs:List Gp} {f f':Str->Rat}
theorem Fair.less (hw:∀ n∈N,0<w n) (hs:∀ g∈gs, ∀ n∈g.way,n∈N) (h:Fair N w M gs f) (hi:∀ n∈N,f' n<=M n) (fit:∀ g∈gs,sm (fun n=>f' n*w n) g.way<=g.R) {n:Str} (hn:n∈N) (lt:f n<f' n):∃ q∈N,f' q<f q/\f q<=f n:=by
 rcases h.stop n hn with e | ⟨g,hg,hm,hR,hmax⟩
 ·have:=hi n hn;grind
 ·have j:=fit g hg;by_cases c:∃ q∈g.way,f' q<f q
  ·obtain ⟨q,d,i⟩:=c;exact ⟨q,hs g hg q d,i,hmax q d⟩
  ·have all:∀ q∈g.way,f q*w q<=f' q*w q:=fun q d=>by
    have:=Rat.not_lt.mp fun z=>c ⟨q,d,z⟩;exact Rat.mul_le_mul_of_nonneg_right this (Rat.le_of_lt (hw q (hs g hg q d)))
   have:=sm_lt (a:=fun n=>f n*w n) (b:=fun n=>f' n*w n) all hm (Rat.mul_lt_mul_of_pos_right lt (hw n hn));grind
theorem Fair.uniq (hw:∀ n∈N,0<w n) (hs:∀ g∈gs, ∀ n∈g.way,n∈N) (h:Fair N w M gs f) (k:Fair N w M gs f'):∀ n∈N,f n=f' n:=by
 intro r m;refine Classical.byContradiction fun j=>?_;obtain ⟨n,o,a⟩:=Jia (fun n=>if f n<=f' n then f n else f' n) (l:=N.filter fun n=>decide (f n≠f' n)) (by
  intro z;have : r∈N.filter fun n=>decide (f n≠f' n):=mem_filter.mpr ⟨m,by simpa using j⟩;rw [z] at this;cases this)
 have b:=mem_filter.mp o;have p:f n≠f' n:=by simpa using b.2
 by_cases c:f n<=f' n
 ·have d:f n<f' n:=by grind
  obtain ⟨q,e,s,i⟩:=h.less hw hs k.hi k.fit b.1 d;have:=a q (mem_filter.mpr ⟨e,by simp; grind⟩);rw [if_pos c,if_neg (by grind)] at this;grind
 ·have d:f' n<f n:=by grind
  obtain ⟨q,e,s,i⟩:=k.less hw hs h.hi h.fit b.1 d;have:=a q (mem_filter.mpr ⟨e,by simp; grind⟩);rw [if_neg c,if_pos (by grind)] at this;grind
end
def lvv (lvs:List (Str × (Int × Int))) (n:Str):Rat:=((lvs.find? fun x=>decide (x.1=n)).map fun x=>vl x.2).getD 0
def used (lvs:List (Str × (Int × Int))) (w:Str->Rat) (n:Str):Rat:=lvv lvs n*w n
def left (lvs:List (Str × (Int × Int))) (w:Str->Rat) (n:Str):Rat:=if n∈lvs.map (·.1) then 0 else w n
section
variable {lvs:List (Str × (Int × Int))} {n m:Str} {L:Int × Int} {ns:List Str} {w:Str->Rat}
theorem Jck (h:n∉lvs.map (·.1)):lvv lvs n=0:=by
 unfold lvv;rw [List.find?_eq_none.mpr fun x a=>by
  have : x.1≠n:=fun z=>h (mem_map.mpr ⟨x,a,z⟩);simpa using this]
 rfl
theorem Jd7 (hn:(lvs.map (·.1)).Nodup) {x:Str × (Int × Int)} (hx:x∈lvs):lvv lvs x.1=vl x.2:=by
 induction lvs with
 | nil=>cases hx
 | cons y r ih=>
  rw [map_cons,nodup_cons] at hn;unfold lvv;rw [List.find?_cons];rcases mem_cons.mp hx with e | hx
  ·subst e;simp
  ·have : y.1≠x.1:=fun z=>hn.1 (z ▸ mem_map.mpr ⟨x,hx,rfl⟩);rw [decide_eq_false this];exact ih hn.2 hx
theorem Je3 (h:n∈lvs.map (·.1)):lvv (lvs++ns.map fun m=>(m,L)) n=lvv lvs n:=by
 unfold lvv;rw [List.find?_append];cases e:lvs.find? fun x=>decide (x.1=n) with
 | none=>
  obtain ⟨x,b,a⟩:=mem_map.mp h;have:=List.find?_eq_none.mp e x b;simp [a] at this
 | some y=>rfl
theorem Jgm (h:n∉lvs.map (·.1)) (hn:n∈ns):lvv (lvs++ns.map fun m=>(m,L)) n=vl L:=by
 have b:lvs.find? (fun x=>decide (x.1=n))=none:=List.find?_eq_none.mpr fun x a=>by
  have : x.1≠n:=fun z=>h (mem_map.mpr ⟨x,a,z⟩);simpa using this
 unfold lvv;rw [List.find?_append,b,Option.none_or];cases e:(ns.map fun m=>(m,L)).find? fun x=>decide (x.1=n) with
 | none=>
  have:=List.find?_eq_none.mp e (n,L) (mem_map.mpr ⟨n,hn,rfl⟩);simp at this
 | some y=>
  have:=List.mem_of_find?_eq_some e;obtain ⟨m,_,rfl⟩:=mem_map.mp this;rfl
theorem Jbg:(lvs++ns.map fun m=>(m,L)).map (·.1)=lvs.map (·.1)++ns:=by
 rw [map_append,map_map]
 congr 1
 exact (List.map_congr_left fun _ _=>rfl).trans (List.map_id _)
def dlt (w:Str->Rat) (ns:List Str) (n:Str):Rat:=if n∈ns then w n else 0
theorem Jft (hd:∀ n∈ns,n∉lvs.map (·.1)) (n:Str):used (lvs++ns.map fun m=>(m,L)) w n=used lvs w n+vl L*dlt w ns n:=by
 unfold used dlt;by_cases c:n∈lvs.map (·.1)
 ·rw [Je3 c,if_neg fun z=>hd n z c];grind
 ·by_cases d:n∈ns
  ·rw [Jgm c d,Jck c,if_pos d];grind
  ·have : n∉(lvs++ns.map fun m=>(m,L)).map (·.1):=by
    rw [Jbg];simp only [mem_append];exact fun z=>z.elim c d
   rw [Jck this,Jck c,if_neg d];grind
theorem Je2 (hd:∀ n∈ns,n∉lvs.map (·.1)) (n:Str):left (lvs++ns.map fun m=>(m,L)) w n=left lvs w n+(-1)*dlt w ns n:=by
 unfold left dlt;rw [Jbg];simp only [mem_append];by_cases c:n∈lvs.map (·.1)
 ·rw [if_pos (.inl c),if_pos c,if_neg fun z=>hd n z c];grind
 ·by_cases d:n∈ns
  ·rw [if_pos (.inr d),if_neg c,if_pos d];grind
  ·rw [if_neg (fun z=>z.elim c d),if_neg c,if_neg d];grind
end
structure RInv (N:List Str) (w M:Str->Rat) (gs:List Gp) (lvs:List (Str × (Int × Int))) (c:Rat):Prop where
 nd:(lvs.map (·.1)).Nodup
 sub:∀ n∈lvs.map (·.1),n∈N
 c0:0<=c
 a:∀ x∈lvs,0<=vl x.2/\vl x.2<=c/\vl x.2<=M x.1
 b:∀ n∈N,n∉lvs.map (·.1)->c<=M n
 cc:∀ g∈gs,c*sm (left lvs w) g.way<=g.R-sm (used lvs w) g.way
 d:∀ x∈lvs,vl x.2=M x.1\/∃ g∈gs,x.1∈g.way/\(∀ q∈g.way,q∈lvs.map (·.1))/\g.R-sm (used lvs w) g.way=0/\∀ q∈g.way,lvv lvs q<=vl x.2
section
variable {N:List Str} {w M:Str->Rat} {gs:List Gp} {lvs:List (Str × (Int × Int))} {c:Rat} {L:Int × Int} {ns:List Str}
theorem Jd4 (hw:∀ n∈N,0<w n) {l:List Str} (hs:∀ n∈l,n∈N):∀ q∈l,0<=left lvs w q:=fun q a=>by
 unfold left;split
 ·exact Rat.le_refl
 ·exact Rat.le_of_lt (hw q (hs q a))
theorem RInv.start (hM:∀ n∈N,0<=M n) (hR:∀ g∈gs,0<=g.R):RInv N w M gs [] 0 where
 nd:=.nil
 sub:=fun n f=>by cases f
 c0:=Rat.le_refl
 a:=fun x c=>by cases c
 b:=fun n f _=>hM n f
 cc:=fun g h=>by
  have e:sm (used [] w) g.way=0:=JcZ fun q _=>by
   unfold used;rw [Jck (by simp)];grind
  have:=hR g h;rw [e];grind
 d:=fun x c=>by cases c
theorem RInv.round (h:RInv N w M gs lvs c) (hw:∀ n∈N,0<w n) (hs:∀ g∈gs, ∀ n∈g.way,n∈N)
  (hnd:ns.Nodup) (hL1:∀ n∈N,n∉lvs.map (·.1)->vl L<=M n) (hL2:∀ g∈gs,0<sm (left lvs w) g.way->vl L*sm (left lvs w) g.way<=g.R-sm (used lvs w) g.way)
  (hns:∀ n,n∈ns↔n∈N/\n∉lvs.map (·.1)/\(M n=vl L\/∃ g∈gs,n∈g.way/\0<sm (left lvs w) g.way/\vl L*sm (left lvs w) g.way=g.R-sm (used lvs w) g.way)) (hc:c<=vl L) :
  RInv N w M gs (lvs++ns.map fun n=>(n,L)) (vl L):=by
 have o:∀ n∈ns,n∉lvs.map (·.1):=fun n i=>((hns n).mp i).2.1;have B:∀ n∈ns,n∈N:=fun n i=>((hns n).mp i).1;have A:∀ l:List Str,sm (used (lvs++ns.map fun n=>(n,L)) w) l=sm (used lvs w) l+vl L*sm (dlt w ns) l:=fun l=>by
  rw [<- Jep];exact Jbn fun q _=>Jft o q
 have D:∀ l:List Str,sm (left (lvs++ns.map fun n=>(n,L)) w) l=sm (left lvs w) l+(-1)*sm (dlt w ns) l:=fun l=>by
  rw [<- Jep];exact Jbn fun q _=>Je2 o q
 have u:=fun (g:Gp) (f:g∈gs)=>sm_nn (Jd4 (lvs:=lvs) hw (hs g f));have s:∀ g∈gs, ¬ 0<sm (left lvs w) g.way->sm (left lvs w) g.way=0/\∀ q∈g.way,q∈lvs.map (·.1):=fun g f z=>by
  have F:sm (left lvs w) g.way=0:=by have:=u g f; grind
  refine ⟨F,fun q b=>Classical.byContradiction fun y=>z ?_⟩;refine JlK (Jd4 hw (hs g f)) b ?_;unfold left;rw [if_neg y];exact hw q (hs g f q b)
 have key:∀ g∈gs,vl L*sm (left lvs w) g.way<=g.R-sm (used lvs w) g.way:=fun g f=>by
  by_cases p:0<sm (left lvs w) g.way
  ·exact hL2 g f p
  ·have:=h.cc g f;rw [(s g f p).1] at this ⊢;grind
 refine ⟨?_,?_,?_,?_,?_,?_,?_⟩
 ·rw [Jbg];exact nodup_append.mpr ⟨h.nd,hnd,fun x j y E z=>o y E (z ▸ j)⟩
 ·intro n i;rw [Jbg] at i;rcases mem_append.mp i with i | i
  ·exact h.sub n i
  ·exact B n i
 ·exact Rat.le_trans h.c0 hc
 ·intro x j;rcases mem_append.mp j with j | j
  ·have:=h.a x j;exact ⟨this.1,Rat.le_trans this.2.1 hc,this.2.2⟩
  ·obtain ⟨n,i,rfl⟩:=mem_map.mp j;exact ⟨Rat.le_trans h.c0 hc,Rat.le_refl,hL1 n (B n i) (o n i)⟩
 ·intro n i k;rw [Jbg] at k;exact hL1 n i fun z=>k (mem_append.mpr (.inl z))
 ·intro g f;rw [A,D];have:=key g f;grind
 ·intro x j;rcases mem_append.mp j with j | j
  ·rcases h.d x j with e | ⟨g,f,t,r,C,h4⟩
   ·exact .inl e
   ·refine .inr ⟨g,f,t,fun q b=>?_,?_,fun q b=>?_⟩
    ·rw [Jbg];exact mem_append.mpr (.inl (r q b))
    ·rw [A,JcZ (a:=dlt w ns) fun q b=>if_neg fun z=>o q z (r q b)];grind
    ·rw [Je3 (r q b)];exact h4 q b
  ·obtain ⟨n,i,rfl⟩:=mem_map.mp j;obtain ⟨G,H,e | ⟨g,f,t,r,C⟩⟩:=(hns n).mp i
   ·exact .inl e.symm
   ·have m:∀ q∈g.way,q∉lvs.map (·.1)->q∈ns:=fun q b v=>(hns q).mpr ⟨hs g f q b,v, .inr ⟨g,f,b,r,C⟩⟩;refine .inr ⟨g,f,t,fun q b=>?_,?_,fun q b=>?_⟩
    ·rw [Jbg];by_cases y:q∈lvs.map (·.1)
     ·exact mem_append.mpr (.inl y)
     ·exact mem_append.mpr (.inr (m q b y))
    ·have e:sm (dlt w ns) g.way=sm (left lvs w) g.way:=Jbn fun q b=>by
      unfold dlt left;by_cases y:q∈lvs.map (·.1)
      ·rw [if_neg fun z=>o q z y,if_pos y]
      ·rw [if_pos (m q b y),if_neg y]
     rw [A,e];grind
    ·by_cases y:q∈lvs.map (·.1)
     ·rw [Je3 y];obtain ⟨x,j,rfl⟩:=mem_map.mp y;rw [Jd7 h.nd j];exact Rat.le_trans (h.a x j).2.1 hc
     ·rw [Jgm y (m q b y)];exact Rat.le_refl
theorem RInv.le (h:RInv N w M gs lvs c) (hL:(∃ n∈N,n∉lvs.map (·.1)/\M n=vl L)\/∃ g∈gs,0<sm (left lvs w) g.way/\vl L*sm (left lvs w) g.way=g.R-sm (used lvs w) g.way):c<=vl L:=by
 rcases hL with ⟨n,hn,hS,e⟩ | ⟨g,hg,p,e⟩
 ·rw [<- e];exact h.b n hn hS
 ·have:=h.cc g hg;rw [<- e] at this;exact (scaled p).mp this
theorem RInv.fair (h:RInv N w M gs lvs c) (hw:∀ n∈N,0<w n) (hs:∀ g∈gs, ∀ n∈g.way,n∈N) (hall:∀ n∈N,n∈lvs.map (·.1)):Fair N w M gs (lvv lvs):=by
 have f:∀ n∈N, ∃ x∈lvs,x.1=n/\lvv lvs n=vl x.2:=fun n i=>by
  obtain ⟨x,b,e⟩:=mem_map.mp (hall n i);have e:x.1=n:=e;exact ⟨x,b,e,by rw [<- e]; exact Jd7 h.nd b⟩
 refine ⟨fun n i=>?_,fun n i=>?_,fun g k=>?_,fun n i=>?_⟩
 ·obtain ⟨x,b,_,e⟩:=f n i;rw [e];exact (h.a x b).1
 ·obtain ⟨x,b,j,e⟩:=f n i;rw [e, <- j];exact (h.a x b).2.2
 ·have:=h.cc g k;rw [JcZ (a:=left lvs w) fun q l=>if_pos (hall q (hs g k q l))] at this;show sm (used lvs w) g.way<=_;grind
 ·obtain ⟨x,b,j,e⟩:=f n i;rcases h.d x b with q | ⟨g,k,h1,_,h3,h4⟩
  ·exact .inl (by rw [e,q,j])
  ·refine .inr ⟨g,k,j ▸ h1,?_,fun q l=>?_⟩
   ·show sm (used lvs w) g.way=_;grind
   ·rw [e];exact h4 q l
end
def Dv (D:Int) (r:Rat):Prop:=∃ k:Int,r*(D:Rat)=(k:Rat)
section
variable {D E:Int} {r s:Rat}
theorem Dv.int (k:Int):Dv D (k:Rat):=⟨k*D,by push_cast; rfl⟩
theorem Dv.add (h:Dv D r) (k:Dv D s):Dv D (r+s):=by
 obtain ⟨a,d⟩:=h;obtain ⟨b,c⟩:=k;exact ⟨a+b,by push_cast; grind⟩
theorem Dv.sub (h:Dv D r) (k:Dv D s):Dv D (r-s):=by
 obtain ⟨a,d⟩:=h;obtain ⟨b,c⟩:=k;exact ⟨a-b,by push_cast; grind⟩
theorem Dv.mul (h:Dv D r) (k:Int):Dv D (r*(k:Rat)):=by
 obtain ⟨a,b⟩:=h;exact ⟨a*k,by push_cast; grind⟩
theorem Dv.more (h:Dv D r) (k:Int):Dv (D*k) r:=by
 obtain ⟨a,b⟩:=h;exact ⟨a*k,by push_cast; grind⟩
theorem Dv.over {k:Int} (hk:1<=k) (h:Dv D (r*(k:Rat))):Dv (D*k) r:=by
 obtain ⟨a,b⟩:=h;exact ⟨a,by push_cast; grind⟩
theorem Dv.den {t:Int × Int} (h:Dv D (vl t)) (ht:1<=t.2) (hg:Mth.g t.1 t.2=1):t.2∣D:=by
 obtain ⟨a,f⟩:=h;have c:=JaI ht;have e:(t.1:Rat)*D=a*t.2:=by
  unfold vl at f;have : (t.1:Rat)=(t.1:Rat)/t.2*t.2:=by rw [Rat.div_mul_cancel c]
  rw [this];grind
 have e:t.1*D=a*t.2:=by exact_mod_cast e
 refine Mth.Jdr (a:=t.1) (b:=t.2) (d:=D) (Mth.Jcj hg) ⟨a,?_⟩;rw [e,Int.mul_comm]
theorem Dv.fb {t:Int × Int} {m n:Nat} {Q:Int} (h:Dv D (vl t)) (ht:1<=t.2) (hg:Mth.g t.1 t.2=1) (hD:1<=D) (sD:Mth.Sz n D) (h0:0<=vl t) (h1:vl t<=(Q:Rat)) (sQ:Mth.Sz m Q):FB (m+n) n t:=by
 have f:=h.den ht hg;have j:t.2<=D:=Int.le_of_dvd ∅ f;have d:Mth.Sz n t.2:=Nat.lt_of_le_of_lt (by ac_nf:t.2.natAbs<=D.natAbs) sD;have i:=JaI ht;have a:(0:Rat)<(t.2:Rat):=by exact_mod_cast (show 0<t.2 by ac_nf)
 have e:(t.1:Rat)=vl t*t.2:=by unfold vl; rw [Rat.div_mul_cancel i]
 have c:(0:Rat)<=(t.1:Rat):=by rw [e]; exact Rat.mul_nonneg h0 (Rat.le_of_lt a)
 have b:(t.1:Rat)<=(Q:Rat)*t.2:=by rw [e]; exact Rat.mul_le_mul_of_nonneg_right h1 (Rat.le_of_lt a)
 have c:0<=t.1:=by exact_mod_cast c
 have b:t.1<=Q*t.2:=by exact_mod_cast b
 refine ⟨Nat.lt_of_le_of_lt (?_:t.1.natAbs<=(Q*t.2).natAbs) (sQ.mul d),d,ht,hg⟩;ac_nf
end
theorem Jks {kvs:List (Key × V)} {vs:List (Key × Value)} (rel:KV kvs vs):vs.map (·.1)=kvs.map (·.1):=by
 unfold KV at rel;induction rel with
 | nil=>rfl
 | cons h1 _ ih=>rw [map_cons,map_cons,ih,h1.1]
theorem Jkq {P:Program} {w:World} {z:Str} {v:Value} (h:(Jaw P w).is (Sum.inr z) v=true):∃ t,v=.str z t:=by
 rcases JaN (show keyIs (Sum.inr z) v=true from h) with ⟨b,hb,_⟩ | ⟨y,t,hy,rfl⟩
 ·cases hb
 ·cases hy;exact ⟨t,rfl⟩
def Itk (d:Addr) (od:Obj) (kvs:List (Key × V)) (ss:List Str):It :=
 ⟨fun i H=>H d=some (.frz od (.dK kvs))/\i<ss.length,fun i H x H'=>H'=H/\(ss.map V.str)[i]?=some x,fun i H=>H d=some (.frz od (.dK kvs))/\ss.length<=i⟩
theorem JiU {P:Program} {w:World} {K:W.Frag} {tg:Expr} {d it:Addr} {od:Obj} {kvs:List (Key × V)} {ss:List Str} {vs:List (Key × Value)} {ep:Nat} (rel:KV kvs vs) (hk:kvs.map (·.1)=ss.map Sum.inr) (hd:∀ h:Heap,h.get? d=some od->h.DictAt (Jaw P w) d vs ep) :
  Turn P w K tg (Itk d od kvs ss) [it] it (fun i h=>h.IsKeyIter it d i vs.length ep) where
 mem:=by simp
 obj:=fun i h a b j=>by
  obtain rfl:b=it:=by simpa using j
  obtain ⟨o,e,c,z⟩:=a;exact ⟨o,e,fun v q=>by rw [z] at q; cases q⟩
 keep:=fun i h x a k=>a.at fun o e=>k it (by simp) o e
 item:=by
  intro X J G N O i f s σ H E I y a C;subst J G N;obtain ⟨l,M⟩:=C;obtain ⟨L,B,U,A,F,D⟩:=y it (by simp);have g:=(I.hok d _ l).1;have T:=rel.length;have S:kvs.length=ss.length:=by simpa using congrArg List.length hk
  obtain ⟨⟨k,Y⟩,m⟩:∃ p,vs[i]?=some p:=⟨_,List.getElem?_eq_getElem (show i<vs.length by ac_nf)⟩;have u:(vs.map (·.1))[i]?=some k:=by rw [List.getElem?_map,m]; rfl
  rw [Jks rel,hk,List.getElem?_map,List.getElem?_eq_getElem M] at u;have u:Sum.inr ss[i]=k:=Option.some.inj u;subst u;refine wpAny_pyNext_dict_item a (hd _ g) m fun key x n r R=>?_;obtain ⟨t,rfl⟩:=Jkq n;have I1:Inv X f σ H { s with heap:=x }:=I.turned (t':=s.toks) (fun b o j e=>(R.2 b j).trans e) L B A F D;obtain ⟨o,e,c,z⟩:=id r;exact ⟨_,rfl,go_of (s:={ s with heap:=x }) e c z ⋯ ⟨.str ss[i],H,I1,⟨t,rfl⟩,⟨rfl,by rw [List.getElem?_map,List.getElem?_eq_getElem M]; rfl⟩,r,fun b j=>(y b j).1⟩⟩
 done:=by
  intro X J G N O i f s σ H E I y a C;subst J G N;obtain ⟨l,M⟩:=C;obtain ⟨L,B,U,A,F,D⟩:=y it (by simp);have g:=(I.hok d _ l).1;have T:=rel.length;have S:kvs.length=ss.length:=by simpa using congrArg List.length hk
  exact wpAny_pyNext_dict_end (I.ok.hd O) a (hd _ g) (List.getElem?_eq_none ∅) fun x Q=>⟨rfl,I.turned (t':=s.toks) (fun b o j e=>Q b o j e) L B A F D⟩
 self:=fun _ _ _ _ _ a h=>wpAny_pyIter_keyiter a h
section
variable {X:Cx} {tg:Expr}
def iKeys (td:TE):TI:=fun σ H R=>td σ H fun x H1=>∃ (d:Addr) (kvs:List (Key × V)) (ss:List Str),x=.ref d/\H1 d=some (.dK kvs)/\kvs.map (·.1)=ss.map Sum.inr/\∀ od,R (Itk d od kvs ss) (upd H1 d (.frz od (.dK kvs)))
theorem Jiu {o:Expr} {td:TE} (ho:PE X o td):PI X tg o (iKeys td):=by
 intro a s σ H R I h;refine thn (ho a s σ H _ I h) fun v i ⟨y,C,I1,x,d,kvs,B,l,e,p,m⟩=>?_;subst l;obtain rfl:v=Value.ref d:=x;obtain ⟨A,u,vs,g,t⟩:=dk_of I1.hok e;obtain ⟨ep,k⟩:=t.dictAt;obtain ⟨j,n,c,rest⟩:=id k;refine wpAny_pyIter_dict (knd:=Jaw X.prog X.w) (d:=d) (kvs:=vs) (ep:=ep) u k ?_;have r:∀ b o,i.heap.get? b=some o->(i.heap.push { cls:=.type "dict_keyiterator",data:=.fields #[.ref d, .int 0 0, .int vs.length 0, .int ep 0] }).get? b=some o:=fun b o z=>Heap.get?_push_of_some _ z;have I2:=(I1.freeze e c).kept (t':=i.toks) r;refine ⟨_,[_],_,_,_,rfl,I2,JiU (vs:=vs) (ep:=ep) g p (fun h q=>⟨j,n,q,rest⟩),⟨_,Heap.get?_push_size _ rfl,rfl,rfl⟩,fun b f=>?_,m j⟩;obtain rfl:=mem_singleton.mp f;exact I1.fpOk (Nat.le_refl _) ((I1.freeze e c).hok.fresh (Nat.le_refl _))
def JjZ (ts:TS):TS:=fun D σ H=>∃ d kvs,H d=some (.dK kvs)/\ts { nx:=fun σ' H'=>∃ od kvs',H' d=some (.frz od (.dK kvs'))/\D.nx σ' (upd H' d (.dK kvs')),rt:=fun _ _=>False } σ H
theorem Inv.thawS {pins:List (Addr × Obj)} {σ σ':List (Option V)} {H H':Hp} {s s':Shared} {d:Addr} {kvs kvs':List (Key × V)} {od:Obj} (I:Inv X pins σ H s) (e:H d=some (.dK kvs)) (I':Inv X pins σ' H' s') (e':H' d=some (.frz od (.dK kvs'))):Inv X pins σ' (upd H' d (.dK kvs')) s':=by
 have m:∀ {b:Addr} {o:HO},H' b=some o->(∀ u v,o≠.frz u v)->b≠d:=fun q h z=>by rw [z,e'] at q; cases q; exact h _ _ rfl
 refine ⟨I'.ok,I'.os,I'.bare,⟨I'.base.keep,I'.base.slot,fun b o q n A=>?_,I'.base.there,fun b l q=>?_,fun b o u q=>?_,fun b t q=>?_⟩,I'.loc,I'.cell,?_,fun x c z=>?_,fun p y=>?_,fun a o q=>?_,I'.len⟩
 ·have:=I'.base.free b o q n A;rw [Jag (fun z=>by rw [z,e'] at this; cases this)];exact this
 ·have:=I'.base.tups b l q;rw [Jag (m this (by intro u v z; cases z))];exact this
 ·have f:=I'.base.frzs b o u q;have g:=I.base.frzs b o u q;rw [Jag (fun z=>by rw [z,e] at g; cases g)];exact f
 ·obtain ⟨i,f⟩:=I'.base.tbls b t q;exact ⟨i,by rw [Jag (m f (by intro u v z; cases z))]; exact f⟩
 ·have:=I'.free;rw [Jag (fun z=>by rw [z,e'] at this; cases this)];exact this
 ·have:=I'.freeC x c z;rw [Jag (fun z=>by rw [z,e'] at this; cases this)];exact this
 ·obtain ⟨f,g,B⟩:=I'.pin p y;exact ⟨f,by rw [Jag (fun z=>by rw [z,e'] at g; cases g)]; exact g,B⟩
 ·have k:∀ r b,H' b=some (.own r)->upd H' d (.dK kvs') b=some (.own r):=fun r b q=>by
   rw [Jag (m q (by intro u v z; cases z))];exact q
  have j:∀ b l,H' b=some (.tup l)->upd H' d (.dK kvs') b=some (.tup l):=fun b l q=>by
   rw [Jag (m q (by intro u v z; cases z))];exact q
  by_cases c:a=d
  ·subst c;rw [Jak] at q;cases q;have f:ObjOk X.prog X.w H' s'.heap a (.dK kvs'):=(I'.hok a _ e').2;exact f.stay (fun _ _ _ z=>z) (k a) j
  ·rw [Jag c] at q;exact (I'.hok a o q).stay (fun _ _ _ z=>z) (k a) j
theorem JkP {st:Stmt} {ts:TS} (h:PS X st ts):PS X st (JjZ ts):=by
 intro b s σ H D I ⟨d,i,j,q⟩;refine wpAny_mono (h b s σ H _ I q) (fun f k z=>?_) fun _ _ z=>z;cases f with
 | next=>
  obtain ⟨σ',c,I1,l,e,g,a⟩:=z;exact ⟨σ',_,I.thawS j I1 g,a⟩
 | brk=>obtain ⟨σ',c,I1,a⟩:=z; exact a.elim
 | cont=>obtain ⟨σ',c,I1,a⟩:=z; exact a.elim
 | ret v=>obtain ⟨y,σ',c,I1,r,a⟩:=z; exact a.elim
theorem ps_no {st:Stmt}:PS X st (fun _ _ _=>False):=fun _ _ _ _ _ _ h=>h.elim
def tSumV (td:TE):TE:=fun σ H Q=>td σ H fun x H1=>∃ (d:Addr) (kvs:List (Key × V)) (ns:List Int),x=.ref d/\H1 d=some (.dK kvs)/\kvs.map (·.2)=ns.map V.int/\Q (.int ns.sum) H1
theorem Jiy (ns:List Int):∀ k,k<=ns.length->preSum (fun i=>ns.getD i 0) k=(ns.take k).sum
 | 0,_=>by simp [preSum]
 | k+1,h=>by
  rw [take_sum_succ ns k ∅, <- Jiy ns k ∅];rfl
theorem JkM {o:Expr} {td:TE} {p1 apos cpos pos:Pos} {x:Str} (hc:X.calm=true) (hx:x="sum") (hg:Gl X x) (hm:X.mg x=none) (hv:bootBuiltins x=some (.builtin "sum")) (ho:PE X o td)
  (hb:attributeBase o "values" X.env (eval o X.env)=eval o X.env:=by rfl) (hn:(apos.endLine == cpos.line)=true:=by rfl) :
  PE X (.Call (.Name x p1) [.Call (.Attribute o "values" apos) [] [] cpos] [] pos) (tSumV td):=by
 intro f s σ H Q I h;have O:x≠"__name__":=by rw [hx]; decide
 have R:(x == ("__debug__" : Str))=false:=by rw [hx]; decide
 refine wpAny_Call_Name_kw (JeM I hg hm hv ?_ O R);refine PyProof.Rows.callWith_builtin1 ?_ rfl rfl;show wpAny _ _ (spliced ((false,eval (.Call (.Attribute o "values" apos) [] [] cpos) X.env)::backTo pos (starEach [] X.env))) _ _ s;refine Calls.spliced_cons ?_;refine wpAny_Call_method0_late hb hn (thn (ho f s σ H _ I h) fun v n ⟨y,T,I1,U,d,kvs,a,D,e,j,E⟩=>?_);subst D;obtain rfl:v=Value.ref d:=U;obtain ⟨r,G,J⟩:=JfH I1 (.inl ⟨kvs, .inl e⟩);obtain ⟨hz,_,c,l,B⟩:=dk_of I1.hok e;refine ⟨"dict","dict.values",PySem.F.plainAttrs_dict,PySem.F.slot_dict_values,PySem.F.type_dict_values,r,G,Calls.callWith_builtin rfl (PySem.evalArgs_none ?_)⟩;refine call_meetsIn PySem.F.slot_dict_values r PySem.F.entry_dict_values (PySem.F.args_dict_values_1 _) (meets_dict_values (Jaw X.prog X.w) d J) ⟨⟨c,B⟩,?_⟩;refine Calls.spliced_nil ?_;obtain ⟨ep,p⟩:=B.dictAt;have S:X.A.in1.handled=none:=by have:=I.ok.hd hc; simp [this]
 have C:d<n.heap.objs.size:=p.lt_size;have q:(n.heap.push { cls:=.type "dict_values",data:=.fields #[.ref d] }).objs.size=n.heap.objs.size+1:=Heap.size_push ..;refine call_sum_walkG (wpAny_pyIter_values (knd:=Jaw X.prog X.w) (v:=n.heap.objs.size) (d:=d) (kvs:=c) (ep:=ep) ⟨_,Heap.get?_push_size _ rfl,rfl,rfl⟩ (p.push _) ?_);have lv:=l.length;have V:a.length=kvs.length:=by simpa using (congrArg List.length j).symm
 refine ⟨_,_,_,_,_,_,fun i=>a.getD i 0,rfl,Walks.dictValues (knd:=Jaw X.prog X.w) S _ d (by rw [q]; exact Nat.ne_of_lt (Nat.lt_succ_of_lt C)) c ep,⟨⟨_,Heap.get?_push_size _ rfl,rfl,rfl⟩,(p.push _).push _⟩,fun b g=>?_,fun i u M=>?_,fun W N t' k=>?_⟩
 ·simp only [mem_cons,not_mem_nil,or_false] at g;show b<(Heap.push _ _).objs.size;rw [Heap.size_push];rcases g with rfl | rfl
  ·exact Nat.lt_succ_self _
  ·rw [q]; exact Nat.lt_succ_of_lt (Nat.lt_succ_of_lt C)
 ·obtain ⟨Y,t⟩:=M;have L:=JiX l;have P:(c.map (·.2))[i]?=some u:=by rw [List.getElem?_map,t]; rfl
  have li:i<kvs.length:=by
   have:=(List.getElem?_eq_some_iff.mp t).1;ac_nf
  obtain ⟨Z,m,K⟩:=L.get (i:=i) (x:=.int (a.getD i 0)) (by rw [j,List.getElem?_map,List.getElem?_eq_getElem (show i<a.length by ac_nf)]; simp [List.getD_eq_getElem?_getD,List.getElem?_eq_getElem (show i<a.length by ac_nf)]);rw [P] at m;cases m;exact K
 ·rw [show c.length=a.length by ac_nf,Jiy a _ (Nat.le_refl _),take_of_length_le (Nat.le_refl _)];exact ⟨.int _,T,I1.kept (t':=N) (fun b o z=>k b o (by simp only [mem_cons,not_mem_nil,or_false]; have:=Heap.lt_size z; rw [q]; exact Nat.ne_of_lt (Nat.lt_succ_of_lt this)) (Heap.get?_push_of_some _ (Heap.get?_push_of_some _ z))),⟨_,rfl⟩,E⟩
end
section
variable {k:Nat} {cs:List (Nat × Str)} {g:TG} {te tl td:TE} {tt:TT} {σ : St} {H H1:Hp} {Q:VK} {d:Addr} {od:Obj} {kvs:List (Key × V)} {ss:List Str}
theorem y88y:tSumV td σ H Q=td σ H fun x H1=>∃ (d:Addr) (kvs:List (Key × V)) (ns:List Int),x=.ref d/\H1 d=some (.dK kvs)/\kvs.map (·.2)=ns.map V.int/\Q (.int ns.sum) H1:=rfl
theorem y37y:Jf2 k cs (iKeys td) g tt te σ H Q=td σ H fun x H1=>∃ (d1:Addr) (kvs1:List (Key × V)) (ss:List Str),x=.ref d1/\H1 d1=some (.dK kvs1)/\kvs1.map (·.1)=ss.map Sum.inr/\∀ od,JbO (Itk d1 od kvs1 ss) k cs g tt te σ Q (upd H1 d1 (.frz od (.dK kvs1))):=rfl
theorem y38y:tThaw (Jf2 k cs (iKeys td) g tt te) σ H Q=∃ d kvs,H d=some (.dK kvs)/\td σ H fun x H1=>∃ (d1:Addr) (kvs1:List (Key × V)) (ss:List Str),x=.ref d1/\H1 d1=some (.dK kvs1)/\kvs1.map (·.1)=ss.map Sum.inr/\∀ od,JbO (Itk d1 od kvs1 ss) k cs g tt te σ (fun v H'=>∃ od kvs',H' d=some (.frz od (.dK kvs'))/\Q v (upd H' d (.dK kvs'))) (upd H1 d1 (.frz od (.dK kvs1))):=rfl
theorem JbO.keys (Pv:Nat->List V->Hp->Prop) (h0:Pv 0 [] H1) (hl:∀ i ys H',i<=ss.length->Pv i ys H'->H' d=some (.frz od (.dK kvs))/\ys.length<=sizeLine)
  (hs:∀ i z ys H2,ss[i]?=some z->Pv i ys H2->g (.str z) (List.replicate k none++JaD cs σ) H2 fun σ4 H4=>tt σ4 H4 fun b H5=>if b=true then te σ4 H5 fun y H6=>Pv (i+1) (ys++[y]) H6 else Pv (i+1) ys H5) (hd:∀ ys H2,Pv ss.length ys H2->∀ p,H2 p=none->Q (.ref p) (upd H2 p (.lst ys))) :
  JbO (Itk d od kvs ss) k cs g tt te σ Q H1:=by
 refine ⟨fun i m ys H'=>Pv i ys H'/\i<=ss.length/\m=ss.length-i,⟨_,h0,Nat.zero_le _,rfl⟩,?_⟩;rintro i m ys H2 ⟨f,t,rfl⟩;obtain ⟨j,n⟩:=hl i ys H2 t f;refine ⟨n,?_⟩;by_cases c:i<ss.length
 ·refine .inr ⟨⟨j,c⟩,?_⟩;rintro x u ⟨rfl,l⟩;rw [List.getElem?_map] at l;obtain ⟨z,s,rfl⟩:=Option.map_eq_some_iff.mp l;have w:∀ (h:List V) (H5:Hp),Pv (i+1) h H5=∃ m',m'<ss.length-i/\Pv (i+1) h H5/\i+1<=ss.length/\m'=ss.length-(i+1):=fun h H5=>
   propext ⟨fun q=>⟨_,Nat.sub_lt_sub_left c (Nat.lt_succ_self i),q,c,rfl⟩,fun ⟨_,_,q,_⟩=>q⟩
  have r:(fun (y:V) (H6:Hp)=>Pv (i+1) (ys++[y]) H6)=fun y H6=>∃ m',m'<ss.length-i/\Pv (i+1) (ys++[y]) H6/\i+1<=ss.length/\m'=ss.length-(i+1):=by
   funext y H6
   exact w _ _
  have e:(fun (σ4:St) (H4:Hp)=>tt σ4 H4 fun b H5=>if b=true then te σ4 H5 fun y H6=>Pv (i+1) (ys++[y]) H6 else Pv (i+1) ys H5)=fun σ4 H4=>tt σ4 H4 fun b H5=>if b=true then te σ4 H5 fun y H6=>∃ m',m'<ss.length-i/\Pv (i+1) (ys++[y]) H6/\i+1<=ss.length/\m'=ss.length-(i+1) else ∃ m',m'<ss.length-i/\Pv (i+1) ys H5/\i+1<=ss.length/\m'=ss.length-(i+1):=by
   funext σ4 H4
   congr 1
   funext b H5
   by_cases a:b=true
   ·rw [if_pos a,if_pos a, <- r]
   ·rw [if_neg a,if_neg a];exact w ys H5
  have:=hs i z ys _ s f;rw [e] at this;exact this
 ·have o:i=ss.length:=by ac_nf
  subst o;exact .inl ⟨⟨j,Nat.le_refl _⟩,hd ys H2 f⟩
theorem y8by {ts:TS} {En:Ends}:JjZ ts En σ H=∃ d kvs,H d=some (.dK kvs)/\ts { nx:=fun σ' H'=>∃ od kvs',H' d=some (.frz od (.dK kvs'))/\En.nx σ' (upd H' d (.dK kvs')),rt:=fun _ _=>False } σ H:=rfl
theorem DGet.f {H:Hp} {a:Addr} {kvs:List (Key × V)} {k:Key} {od:Obj} (e:H a=some (.frz od (.dK kvs))):DGet H a (kV k) (valV kvs k):=.inl ⟨kvs,k, .inr ⟨od,e⟩,rfl,rfl⟩
end
def mulF (a c:Int × Int):Int × Int:=(Mth.top (a.1*c.1) (a.2*c.2),Mth.bot (a.1*c.1) (a.2*c.2))
def divF (a c:Int × Int):Int × Int:=(Mth.top (a.1*c.2) (a.2*c.1),Mth.bot (a.1*c.2) (a.2*c.1))
def subF (a c:Int × Int):Int × Int:=(Mth.top (a.1*c.2-c.1*a.2) (a.2*c.2),Mth.bot (a.1*c.2-c.1*a.2) (a.2*c.2))
structure Lo (a:Int × Int):Prop where
 b1:1<=a.2
 g1:Mth.g a.1 a.2=1
theorem FB.lo {A B:Nat} {a:Int × Int} (h:FB A B a):Lo a:=⟨h.b1,h.g1⟩
theorem Lo.inj {a c:Int × Int} (h:Lo a) (k:Lo c) (e:vl a=vl c):a=c:=Jj2 h.b1 k.b1 h.g1 k.g1 e
theorem JfJ {t b:Int} (hb:1<=b):Lo (Mth.top t b,Mth.bot t b):=⟨Mth.JcV ∅,Mth.g_low ∅⟩
section
variable {a c:Int × Int}
theorem Jb2 {x y:Int} (hx:1<=x) (hy:1<=y):1<=x*y:=by
 have:=Int.mul_pos (show 0<x by ac_nf) (show 0<y by ac_nf);ac_nf
theorem Jj3 (ha:1<=a.2) (hc:1<=c.2):vl (mulF a c)=vl a*vl c:=by
 unfold mulF;rw [Jhf (Jb2 ha hc)];have b:=JaI ha;have d:=JaI hc;unfold vl;push_cast;generalize (a.1:Rat)=x at *;generalize (a.2:Rat)=y at *;generalize (c.1:Rat)=z at *;generalize (c.2:Rat)=t at *;grind
theorem Jj1 (ha:1<=a.2) (hc:1<=c.1) (hd:1<=c.2):vl (divF a c)=vl a/vl c:=by
 unfold divF;rw [Jhf (Jb2 ha hc)];have d:=JaI ha;have e:=JaI hc;have b:=JaI hd;unfold vl;push_cast;generalize (a.1:Rat)=x at *;generalize (a.2:Rat)=y at *;generalize (c.1:Rat)=z at *;generalize (c.2:Rat)=t at *;grind
theorem JlS (ha:1<=a.2) (hc:1<=c.2):vl (subF a c)=vl a-vl c:=by
 unfold subF;rw [Jhf (Jb2 ha hc)];have b:=JaI ha;have d:=JaI hc;unfold vl;push_cast;generalize (a.1:Rat)=x at *;generalize (a.2:Rat)=y at *;generalize (c.1:Rat)=z at *;generalize (c.2:Rat)=t at *;grind
theorem Je4 (ha:1<=a.2) (hc:1<=c.2):Lo (mulF a c):=JfJ (Jb2 ha hc)
theorem Jkg (ha:1<=a.2) (hc:1<=c.1):Lo (divF a c):=JfJ (Jb2 ha hc)
theorem Jk0 (ha:1<=a.2) (hc:1<=c.2):Lo (subF a c):=JfJ (Jb2 ha hc)
theorem Jf9 (k:Int):vl (k,1)=(k:Rat):=by
 unfold vl;have : ((1:Int):Rat)=1:=rfl;grind
theorem Jfu:vl (0,1)=0:=Jf9 0
end
structure LidD where
 nm:Str
 rest:Int × Int
 ws:List (Str × Int)
 load:Int
 last:Int × Int
def wtOf (ws:List (Str × Int)) (n:Str):Option Int:=(ws.find? fun x=>decide (x.1=n)).map (·.2)
def LidD.settle (e:LidD) (n:Str) (L:Int × Int):LidD:=match wtOf e.ws n with
 | none=>e
 | some k=>{ e with rest:=subF e.rest (mulF L (k,1)),load:=e.load-k,last:=L }
theorem JgL {ws:List (Str × Int)} {n:Str}:wtOf ws n=none↔n∉ws.map (·.1):=by
 unfold wtOf;rw [Option.map_eq_none_iff,List.find?_eq_none];constructor
 ·intro h z;obtain ⟨x,a,e⟩:=mem_map.mp z;have:=h x a;simp [e] at this
 ·intro h x a;have : x.1≠n:=fun z=>h (mem_map.mpr ⟨x,a,z⟩);simpa using this
theorem Ji1 {ws:List (Str × Int)} {n:Str} {k:Int} (h:wtOf ws n=some k):(n,k)∈ws:=by
 unfold wtOf at h;obtain ⟨x,b,e⟩:=Option.map_eq_some_iff.mp h;have d:=List.mem_of_find?_eq_some b;have c:=List.find?_some b;have a:x.1=n:=by simpa using c
 obtain ⟨y,z⟩:=x;have e:z=k:=e;have a:y=n:=a;subst e;subst a;exact d
structure LidOk (w:Str->Rat) (g:Gp) (lvs:List (Str × (Int × Int))) (e:LidD):Prop where
 pm:(e.ws.map (·.1)).Perm g.way
 nd:(e.ws.map (·.1)).Nodup
 wt:∀ x∈e.ws,w x.1=(x.2:Rat)/\1<=x.2
 rest:vl e.rest=g.R-sm (used lvs w) g.way
 load:(e.load:Rat)=sm (left lvs w) g.way
 low:Lo e.rest
 llow:Lo e.last
 l1:∀ n∈g.way,n∈lvs.map (·.1)->lvv lvs n<=vl e.last
 l2:(∃ n∈g.way,n∈lvs.map (·.1))->∃ n∈g.way,n∈lvs.map (·.1)/\lvv lvs n=vl e.last
theorem JjU {w:Str->Rat} {m:Str}:∀ {l:List Str},l.Nodup->sm (dlt w [m]) l=if m∈l then w m else 0
 | [],_=>by simp [sm]
 | n::l,h=>by
  rw [nodup_cons] at h;simp only [sm,JjU h.2];unfold dlt;by_cases c:n=m
  ·subst c;rw [if_neg h.1];simp;grind
  ·have c':m≠n:=fun z=>c z.symm;simp only [mem_singleton,mem_cons,c,c',false_or,if_false];grind
section
variable {w:Str->Rat} {g:Gp} {lvs:List (Str × (Int × Int))} {e:LidD} {m:Str} {L:Int × Int}
theorem LidOk.settle (h:LidOk w g lvs e) (hnd:(lvs.map (·.1)).Nodup) (hm:m∉lvs.map (·.1)) (hL:Lo L) (hle:∀ x∈lvs,vl x.2<=vl L):LidOk w g (lvs++[(m,L)]) (e.settle m L):=by
 have v:∀ n∈[m],n∉lvs.map (·.1):=fun n d=>by rw [mem_singleton.mp d]; exact hm
 have s:g.way.Nodup:=h.pm.nodup_iff.mp h.nd;have l:sm (used (lvs++[(m,L)]) w) g.way=sm (used lvs w) g.way+vl L*sm (dlt w [m]) g.way:=by
  rw [<- Jep];exact Jbn fun q _=>Jft (ns:=[m]) v q
 have j:sm (left (lvs++[(m,L)]) w) g.way=sm (left lvs w) g.way+(-1)*sm (dlt w [m]) g.way:=by
  rw [<- Jep];exact Jbn fun q _=>Je2 (ns:=[m]) v q
 have nms:(lvs++[(m,L)]).map (·.1)=lvs.map (·.1)++[m]:=Jbg (ns:=[m]);have i:∀ n∈lvs.map (·.1),lvv (lvs++[(m,L)]) n=lvv lvs n:=fun n d=>Je3 (ns:=[m]) d;have o:lvv (lvs++[(m,L)]) m=vl L:=Jgm (ns:=[m]) hm (by simp);rw [JjU s] at l j;unfold LidD.settle;cases hw:wtOf e.ws m with
 | none=>
  have r:m∉g.way:=fun z=>(JgL.mp hw) (h.pm.mem_iff.mpr z);rw [if_neg r] at l j;refine ⟨h.pm,h.nd,h.wt,?_,?_,h.low,h.llow,fun n d b=>?_,fun ⟨n,d,b⟩=>?_⟩
  ·rw [l,h.rest];grind
  ·rw [j,h.load];grind
  ·rw [nms] at b;rcases mem_append.mp b with b | b
   ·rw [i n b];exact h.l1 n d b
   ·rw [mem_singleton.mp b] at d;exact absurd d r
  ·rw [nms] at b;rcases mem_append.mp b with b | b
   ·obtain ⟨q,C,t,D⟩:=h.l2 ⟨n,d,b⟩;exact ⟨q,C,by rw [nms]; exact mem_append.mpr (.inl t),by rw [i q t]; exact D⟩
   ·rw [mem_singleton.mp b] at d;exact absurd d r
 | some k=>
  have f:=Ji1 hw;have u:m∈g.way:=h.pm.mem_iff.mp (mem_map.mpr ⟨_,f,rfl⟩);have B:=h.wt _ f;have p:w m=(k:Rat):=B.1;rw [if_pos u,p] at l j;have A:=Je4 (a:=L) (c:=(k,1)) hL.b1 (Int.le_refl 1);refine ⟨h.pm,h.nd,h.wt,?_,?_,Jk0 h.low.b1 A.b1,hL,fun n d b=>?_,fun _=>⟨m,u,by rw [nms]; simp,o⟩⟩
  ·show vl (subF e.rest (mulF L (k,1)))=_;rw [JlS h.low.b1 A.b1,Jj3 hL.b1 (Int.le_refl 1),Jf9,l,h.rest];grind
  ·show ((e.load-k:Int):Rat)=_;rw [j, <- h.load];push_cast;grind
  ·rw [nms] at b;rcases mem_append.mp b with b | b
   ·rw [i n b];obtain ⟨x,y,rfl⟩:=mem_map.mp b;rw [Jd7 hnd y];exact hle x y
   ·rw [mem_singleton.mp b,o];exact Rat.le_refl
end
structure SInv (N:List Str) (w:Str->Rat) (gs:List Gp) (lvs:List (Str × (Int × Int))) (L:Int × Int):Prop where
 nd:(lvs.map (·.1)).Nodup
 sub:∀ n∈lvs.map (·.1),n∈N
 a:∀ x∈lvs,0<=vl x.2/\vl x.2<=vl L
 L0:0<=vl L
 cc:∀ g∈gs,vl L*sm (left lvs w) g.way<=g.R-sm (used lvs w) g.way
section
variable {N:List Str} {w:Str->Rat} {gs:List Gp} {lvs:List (Str × (Int × Int))} {L:Int × Int} {m:Str}
theorem SInv.step (h:SInv N w gs lvs L) (hg:∀ g∈gs,g.way.Nodup) (hm:m∈N) (hn:m∉lvs.map (·.1)):SInv N w gs (lvs++[(m,L)]) L:=by
 have e:∀ n∈[m],n∉lvs.map (·.1):=fun n b=>by rw [mem_singleton.mp b]; exact hn
 have nms:(lvs++[(m,L)]).map (·.1)=lvs.map (·.1)++[m]:=Jbg (ns:=[m]);refine ⟨?_,fun n b=>?_,fun x c=>?_,h.L0,fun g d=>?_⟩
 ·rw [nms];exact nodup_append.mpr ⟨h.nd,by simp,fun x c y i z=>hn (by rw [mem_singleton.mp i] at z; rw [<- z]; exact c)⟩
 ·rw [nms] at b;rcases mem_append.mp b with q | q
  ·exact h.sub n q
  ·rw [mem_singleton.mp q]; exact hm
 ·rcases mem_append.mp c with c | c
  ·exact h.a x c
  ·rw [mem_singleton.mp c];exact ⟨h.L0,Rat.le_refl⟩
 ·have f:sm (used (lvs++[(m,L)]) w) g.way=sm (used lvs w) g.way+vl L*sm (dlt w [m]) g.way:=by
   rw [<- Jep];exact Jbn fun q _=>Jft (ns:=[m]) e q
  have j:sm (left (lvs++[(m,L)]) w) g.way=sm (left lvs w) g.way+(-1)*sm (dlt w [m]) g.way:=by
   rw [<- Jep];exact Jbn fun q _=>Je2 (ns:=[m]) e q
  have:=h.cc g d;rw [f,j];grind
theorem SInv.range (h:SInv N w gs lvs L) (hw:∀ n∈N,0<w n) (hs:∀ g∈gs, ∀ n∈g.way,n∈N) {g:Gp} (hg:g∈gs):0<=g.R-sm (used lvs w) g.way/\g.R-sm (used lvs w) g.way<=g.R:=by
 have j:=h.cc g hg;have d:=sm_nn (Jd4 (lvs:=lvs) hw (hs g hg));have f:=Rat.mul_nonneg h.L0 d;have i:0<=sm (used lvs w) g.way:=sm_nn fun q e=>by
  unfold used;refine Rat.mul_nonneg ?_ (Rat.le_of_lt (hw q (hs g hg q e)));by_cases c:q∈lvs.map (·.1)
  ·obtain ⟨x,b,rfl⟩:=mem_map.mp c;rw [Jd7 h.nd b];exact (h.a x b).1
  ·rw [Jck c];exact Rat.le_refl
 grind
end
theorem Dv.sm {D:Int} {a:Str->Rat}:∀ {l:List Str},(∀ q∈l,Dv D (a q))->Dv D (L2.sm a l)
 | [],_=>Dv.int 0
 | n::l,h=>(h n (by simp)).add (Dv.sm (l:=l) fun q hq=>h q (by simp [hq]))
theorem JhW {D:Int} {b:Rat} {w:Str->Rat} {g:Gp} {lvs:List (Str × (Int × Int))} (hR:Dv D (g.R/b)) (hw:∀ n∈g.way, ∃ k:Int,w n=(k:Rat)) (hl:∀ x∈lvs,Dv D (vl x.2/b)) (hnd:(lvs.map (·.1)).Nodup):Dv D ((g.R-sm (used lvs w) g.way)/b):=by
 have e:(g.R-sm (used lvs w) g.way)/b=g.R/b-sm (fun n=>lvv lvs n/b*w n) g.way:=by
  have : sm (used lvs w) g.way/b=sm (fun n=>lvv lvs n/b*w n) g.way:=by
   generalize g.way=l;induction l with
   | nil=>simp only [sm]; grind
   | cons n l ih=>
    simp only [sm, <- ih];unfold used;grind
  rw [<- this];grind
 rw [e];refine hR.sub (Dv.sm fun q f=>?_);obtain ⟨k,d⟩:=hw q f;rw [d];refine Dv.mul ?_ k;by_cases c:q∈lvs.map (·.1)
 ·obtain ⟨x,a,rfl⟩:=mem_map.mp c;rw [Jd7 hnd a];exact hl x a
 ·rw [Jck c];have : (0:Rat)/b=((0:Int):Rat):=by
   show (0:Rat)/b=0;grind
  rw [this];exact Dv.int 0
theorem Dv.up {D b:Int} {r:Rat} (hb:1<=b) (h:Dv D (r/(b:Rat))):Dv D r:=by
 have:=h.mul b
 rwa [Rat.div_mul_cancel (JaI hb)] at this
def wsK (ws:List (Str × Int)):List (Key × V):=ws.map fun p=>(Sum.inr p.1, .int p.2)
theorem JgK (n:Str):∀ ws:List (Str × Int),valV (wsK ws) (Sum.inr n)=(wtOf ws n).map V.int
 | []=>rfl
 | x::ws=>by
  have ih:=JgK n ws;unfold wsK wtOf at ih ⊢;rw [map_cons,List.find?_cons];by_cases c:x.1=n
  ·rw [Jbc (by rw [c]),decide_eq_true c];rfl
  ·rw [Jbi (fun z=>c (by injection z)),decide_eq_false c];exact ih
theorem JjD (ws:List (Str × Int)):(wsK ws).map (·.1)=(ws.map (·.1)).map Sum.inr:=by
 unfold wsK;rw [map_map,map_map];rfl
theorem JjE (ws:List (Str × Int)):(wsK ws).map (·.2)=(ws.map (·.2)).map V.int:=by
 unfold wsK;rw [map_map,map_map];rfl
theorem Jg3:∀ (ps acc:List (Str × V)),((acc++ps).map (·.1)).Nodup->ps.foldl (fun l p=>putK l (Sum.inr p.1) p.2) (acc.map fun p=>((Sum.inr p.1:Key),p.2))=(acc++ps).map fun p=>((Sum.inr p.1:Key),p.2)
 | [],acc,_=>by simp
 | p::ps,acc,h=>by
  have ea:acc++p::ps=(acc++[p])++ps:=by simp
  rw [List.foldl_cons];have nn:valV (acc.map fun p=>((Sum.inr p.1:Key),p.2)) (Sum.inr p.1)=none:=by
   cases e:valV (acc.map fun p=>((Sum.inr p.1:Key),p.2)) (Sum.inr p.1) with
   | none=>rfl
   | some v=>
    have:=Jh7.mp (show (valV (acc.map fun p=>((Sum.inr p.1:Key),p.2)) (Sum.inr p.1)).isSome=true by rw [e]; rfl);rw [map_map] at this;obtain ⟨q,hq,eq⟩:=mem_map.mp this;have eq:(Sum.inr q.1:Key)=Sum.inr p.1:=eq;have eq:q.1=p.1:=by injection eq
    rw [map_append,map_cons,nodup_append] at h;exact absurd rfl (h.2.2 p.1 (mem_map.mpr ⟨q,hq,eq⟩) p.1 (by simp))
  rw [Jjr p.2 nn];have : (acc.map fun p=>((Sum.inr p.1:Key),p.2))++[(Sum.inr p.1,p.2)]=(acc++[p]).map fun p=>((Sum.inr p.1:Key),p.2):=by simp
  rw [this,Jg3 ps (acc++[p]) (by rw [<- ea]; exact h),ea]
theorem Jiq {ps:List (Str × V)} (h:(ps.map (·.1)).Nodup):JdH ps=ps.map fun p=>((Sum.inr p.1:Key),p.2):=by
 unfold JdH;exact (Jg3 ps [] (by simpa using h)).trans (by rw [nil_append])
structure LoInv (n:Int × Int) (q:Int) (t:Int × Int):Prop where
 lo:Lo t
 cr:t.1*(n.2*q)=n.1*t.2
 le1:t.1.natAbs<=n.1.natAbs
 le2:t.2.natAbs<=n.2.natAbs*q.natAbs
theorem LoInv.nil {n:Int × Int} (h:Lo n):LoInv n 1 n:=⟨h,by rw [Int.mul_one],Nat.le_refl _,by simp⟩
theorem LoInv.step {n t:Int × Int} {q f:Int} (h:LoInv n q t) (hf:1<=f):LoInv n (q*f) (t.1.fdiv (Mth.g t.1 f),t.2*f.fdiv (Mth.g t.1 f)):=by
 have w:0<Mth.g t.1 f:=Mth.g_pos ∅;have k:=Mth.JcA t.1 f;have e:=Mth.JbI t.1 f;have j:=Mth.JaM k ∅;have p:=Mth.JaM e ∅;have m:=Mth.JcP (b:=t.1) (d:=f) rfl ∅;have l:=Mth.Jb1 e ∅ hf;have a:=Mth.JdY k ∅;have c:=Mth.JdY e ∅;have u:t.1.fdiv (Mth.g t.1 f)∣t.1:=⟨_,j.symm⟩;have v:Int.gcd (t.1.fdiv (Mth.g t.1 f)) t.2=1:=Mth.Jb7 (Mth.Jcj h.lo.g1) u;have i:=h.cr;have o:=h.lo.b1;generalize t.1.fdiv (Mth.g t.1 f)=r at *;generalize f.fdiv (Mth.g t.1 f)=f' at *;generalize Mth.g t.1 f=s at *;refine ⟨⟨Jb2 o l,Mth.JdO (Mth.Jb0 v m)⟩,?_,?_,?_⟩
 ·show r*(n.2*(q*f))=n.1*(t.2*f');have : r*(n.2*(q*f))=(t.1*(n.2*q))*f':=by
   rw [<- j, <- p];simp only [Int.mul_assoc,Int.mul_comm,Int.mul_left_comm]
  rw [this,i,Int.mul_assoc]
 ·exact Nat.le_trans a h.le1
 ·show (t.2*f').natAbs<=n.2.natAbs*(q*f).natAbs;rw [Int.natAbs_mul,Int.natAbs_mul, <- Nat.mul_assoc];exact Nat.mul_le_mul h.le2 c
theorem LoInv.vl {n t:Int × Int} {q:Int} (h:LoInv n q t) (hn:1<=n.2) (hq:1<=q):vl t=vl n/(q:Rat):=by
 have g:=JaI hn;have i:=JaI h.lo.b1;have f:=JaI hq;have e:(t.1:Rat)*((n.2:Rat)*(q:Rat))=(n.1:Rat)*(t.2:Rat):=by exact_mod_cast h.cr
 unfold L2.vl;generalize (t.1:Rat)=a at *;generalize (t.2:Rat)=b at *;generalize (n.1:Rat)=c at *;generalize (n.2:Rat)=d at *;generalize (q:Rat)=q at *;grind
def stF (ms:List (Str × (Int × Int))) (lds:List LidD) (S:List Str):List ((Int × Int) × List Str) :=
 (ms.filter fun m=>decide (m.1∉S)).map (fun m=>(m.2,[m.1]))++(lds.filter fun e=>decide (0<e.load)).map fun e=>(divF e.rest (e.load,1),(e.ws.map (·.1)).filter fun n=>decide (n∉S))
def StV (K:W.Frag) (H:Hp) (s:(Int × Int) × List Str) (x:V):Prop:=∃ t v l,x=.ref t/\SqT K H t [v, .ref l]/\FrV K H v s.1.1 s.1.2/\H l=some (.lst (s.2.map V.str))
theorem StV.same {K:W.Frag} {H H':Hp} {s:(Int × Int) × List Str} {x:V} (S:Same H H'):StV K H s x->StV K H' s x:=fun ⟨t,v,l,d,b,a,c⟩=>⟨t,v,l,d,b.same S,a.same S,S _ _ c⟩
def NFV (K:W.Frag) (H:Hp) (a:Str × (Int × Int)) (x:V):Prop:=FrV K H x a.2.1 a.2.2
theorem NFV.sameT {K:W.Frag} {H H':Hp} {a:Str × (Int × Int)} {x:V} (S:SameT H H') (h:NFV K H a x):NFV K H' a x:=FrV.sameT S h
def thw (d:Addr) (kv:List (Key × V)) (H:Hp):Hp:=upd H d (.dK kv)
section
variable {H H':Hp} {d a:Addr} {od:Obj} {kv kw:List (Key × V)} {k:Key}
theorem JiR (h:H d=some (.dK kv)):thw d kv (upd H d (.frz od (.dK kv)))=H:=by
 funext b
 unfold thw;by_cases c:b=d
 ·subst c;rw [Jak,h]
 ·rw [Jag c,Jag c]
theorem Jfs (S:Same H H'):Same (thw d kv H) (thw d kv H'):=fun b u h=>by
 unfold thw at h ⊢;by_cases c:b=d
 ·subst c;rw [Jak] at h ⊢;exact h
 ·rw [Jag c] at h ⊢;exact S _ _ h
theorem JiS (hd:H d=some (.frz od (.dK kv))) (ha:thw d kv H a=some (.dK kw)):DGet H a (kV k) (valV kw k):=by
 unfold thw at ha;by_cases c:a=d
 ·subst c;rw [Jak] at ha;cases ha;exact DGet.f hd
 ·rw [Jag c] at ha;exact DGet.k ha
theorem Jfr (hd:H d=some (.frz od (.dK kv))) (ha:H a=none):thw d kv H a=none:=by
 unfold thw;rw [Jag (fun z=>by rw [z,hd] at ha; cases ha)];exact ha
end
theorem StV.cut {K:W.Frag} {H:Hp} {s:(Int × Int) × List Str} {x:V} {p:Addr} (h:StV K (cut p H) s x):StV K H s x:=h.same Jc9
structure SHC (ls:List PD) (es:List (GD × List Str)) (pl:Str->Int × Int):Prop where
 l12:ls.length<=12
 l7:es.length<=7
 l14:ls.length+es.length<=14
 nd:(ls.map (·.nm)).Nodup
 gn:∀ e∈es, ∀ u∈es.map (·.1),u.nm=e.1.nm->u=e.1
 pok:∀ p∈ls,POk p
 pb:∀ p∈ls,(1<=p.sz.2/\Mth.Sz 70 p.sz.2)/\FB 200 12 p.mo
 wt:∀ p∈ls,Mth.Sz 21 p.wt
 tok:∀ e∈es,TOk e.1.td
 gb:∀ e∈es,(1<=e.1.lo.2/\Mth.Sz 70 e.1.lo.2)/\1<=e.1.hi.2/\Mth.Sz 70 e.1.hi.2
 rb:∀ e∈es,FB 200 12 (roomF pl e.1)
 plb:∀ f,FB 302 161 (pl f)
 pls:∀ p∈ls,vl (pl p.en)=vl (pl p.st)+vl p.sz
 way:∀ e∈es, ∀ w:List Pr,Jbk ls e.1.st w e.1.en->(w.map (·.1)).Nodup->e.2.Perm (w.map (·.1))
structure LSt (b:Int) (ls:List PD) (pl:Str->Int × Int) (e:GD × List Str) (l:LidD):Prop where
 nm:l.nm=e.1.nm
 rest:vl l.rest=vl (roomF pl e.1)*(b:Rat)
 fb:FB 2200 12 l.rest
 pm:(l.ws.map (·.1)).Perm e.2
 nd:(l.ws.map (·.1)).Nodup
 wt:∀ x∈l.ws, ∃ p∈ls,p.nm=x.1/\p.wt=x.2
 load:l.load=(l.ws.map (·.2)).sum
 last:l.last=(0,1)
structure MSt (b:Int) (p:PD) (m:Str × (Int × Int)):Prop where
 nm:m.1=p.nm
 vl:L2.vl m.2=L2.vl p.mo*(b:Rat)/(p.wt:Rat)
 fb:FB 2200 33 m.2
theorem Jhb {H:Hp} {d a:Addr} {od:Obj} {kv:List (Key × V)} {u:HO} (hd:H d=some (.frz od (.dK kv))) (ha:H a=some u) (hu:∀ o w,u≠.frz o w):thw d kv H a=some u:=by
 unfold thw;rw [Jag (fun z=>by rw [z,hd] at ha; cases ha; exact hu _ _ rfl)];exact ha
theorem JgV {β : Type}:∀ {ls:List (Str × β)} {p q:Str × β},(ls.map (·.1)).Nodup->p∈ls->q∈ls->p.1=q.1->p=q
 | [],_,_,_,hp,_,_=>by cases hp
 | a::ls,p,q,hn,hp,hq,e=>by
  rw [map_cons,nodup_cons] at hn;rcases mem_cons.mp hp with h1 | h1 <;> rcases mem_cons.mp hq with h2 | h2
  ·rw [h1,h2]
  ·subst h1;exact absurd (e ▸ mem_map.mpr ⟨q,h2,rfl⟩) hn.1
  ·subst h2;exact absurd (e ▸ mem_map.mpr ⟨p,h1,rfl⟩) hn.1
  ·exact JgV hn.2 h1 h2 e
theorem BG.keysS {P:(Str × (Int × Int))->V->Prop} {as:List (Str × (Int × Int))} {kvs:List (Key × V)} (h:BG (·.1) P as kvs):kvs.map (·.1)=(as.map (·.1)).map Sum.inr:=by
 rw [h.1,map_map];rfl
structure RC (b Q:Int) (N:List Str) (w M:Str->Rat) (gs:List Gp) (ms:List (Str × (Int × Int))):Prop where
 b1:1<=b
 nm:ms.map (·.1)=N
 nd:N.Nodup
 l12:N.length<=12
 wt:∀ n∈N, ∃ k:Int,w n=(k:Rat)/\1<=k/\Mth.Sz 21 k
 ml:∀ m∈ms,vl m.2=M m.1/\FB 2200 33 m.2/\0<=M m.1
 gw:∀ g∈gs,(∀ n∈g.way,n∈N)/\g.way.Nodup/\0<=g.R/\g.R<=(Q:Rat)
 mq:∀ n∈N,M n<=(Q:Rat)
 sQ:Mth.Sz 2200 Q
def LOks (w:Str->Rat) (lvs:List (Str × (Int × Int))) (gs:List Gp) (lds:List LidD):Prop:=lds.length=gs.length/\∀ (i:Nat) g e,gs[i]?=some g->lds[i]?=some e->LidOk w g lvs e
structure RB (b:Int) (N:List Str) (w M:Str->Rat) (gs:List Gp) (k:Nat) (lvs:List (Str × (Int × Int))) (D:Int):Prop where
 D1:1<=D
 sD:Mth.Sz (230+25*k) D
 dl:∀ x∈lvs,Dv D (vl x.2/(b:Rat))
 dr:∀ g∈gs,Dv D (g.R/(b:Rat))
 dm:∀ n∈N,Dv D (M n/(b:Rat)*w n)
structure RSt (b:Int) (N:List Str) (w M:Str->Rat) (gs:List Gp) (lvs:List (Str × (Int × Int))) (lds:List LidD):Prop where
 inv:∃ L,RInv N w M gs lvs (vl L)
 ok:LOks w lvs gs lds
 bt:∃ D,RB b N w M gs lvs.length lvs D
 lo:∀ x∈lvs,Lo x.2
structure RMd (b:Int) (N:List Str) (w M:Str->Rat) (gs:List Gp) (L:Int × Int) (D:Int) (k:Nat) (lvs:List (Str × (Int × Int))) (lds:List LidD):Prop where
 inv:SInv N w gs lvs L
 ok:LOks w lvs gs lds
 bt:RB b N w M gs k lvs D
 k12:k<=12
 dL:Dv D (vl L/(b:Rat))
 fL:FB 3000 1000 L
section
variable {b Q:Int} {N:List Str} {w M:Str->Rat} {gs:List Gp} {ms lvs:List (Str × (Int × Int))} {lds:List LidD} {L:Int × Int} {ns:List Str} {D:Int} {k:Nat}
theorem LOks.fwd (h:LOks w lvs gs lds) {g:Gp} (hg:g∈gs):∃ e∈lds,LidOk w g lvs e:=by
 obtain ⟨i,b⟩:=List.getElem?_of_mem hg;have c:=(List.getElem?_eq_some_iff.mp b).1;have a:i<lds.length:=by rw [h.1]; exact c
 exact ⟨lds[i],List.getElem_mem a,h.2 i g _ b (List.getElem?_eq_getElem a)⟩
theorem LOks.bwd (h:LOks w lvs gs lds) {e:LidD} (he:e∈lds):∃ g∈gs,LidOk w g lvs e:=by
 obtain ⟨i,b⟩:=List.getElem?_of_mem he;have c:=(List.getElem?_eq_some_iff.mp b).1;have a:i<gs.length:=by rw [<- h.1]; exact c
 exact ⟨gs[i],List.getElem_mem a,h.2 i _ e (List.getElem?_eq_getElem a) b⟩
theorem RC.wpos (hc:RC b Q N w M gs ms):∀ n∈N,0<w n:=fun n c=>by
 obtain ⟨k,a,d,_⟩:=hc.wt n c;rw [a];exact_mod_cast (show 0<k by ac_nf)
theorem RInv.s (h:RInv N w M gs lvs (vl L)):SInv N w gs lvs L:=⟨h.nd,h.sub,fun x b=>⟨(h.a x b).1,(h.a x b).2.1⟩,h.c0,h.cc⟩
theorem JgD (hc:RC b Q N w M gs ms) (hi:SInv N w gs lvs L) (hb:RB b N w M gs k lvs D) (k12:k<=13) {g:Gp} (hg:g∈gs) {e:LidD} (he:LidOk w g lvs e):FB 2800 600 e.rest:=by
 have a:=hi.range hc.wpos (fun g hg=>(hc.gw g hg).1) hg;have d:=hc.gw g hg;have c:=(JhW (hb.dr g hg) (fun n h=>by obtain ⟨k,f,_⟩:=hc.wt n (d.1 n h); exact ⟨k,f⟩) hb.dl hi.nd).up hc.b1;rw [<- he.rest] at c a;exact c.fb (m:=2200) (n:=600) he.low.b1 he.low.g1 hb.D1 (hb.sD.mono ∅) a.1 (Rat.le_trans a.2 d.2.2.2) hc.sQ
theorem JiL {a:Str->Rat} {B:Int} (hB:0<=B):∀ {l:List Str} {n:Nat},(∀ q∈l,a q<=(B:Rat))->l.length<=n->sm a l<=((B*n:Int):Rat)
 | [],n,_,_=>by
  have : 0<=B*(n:Int):=Int.mul_nonneg hB ∅;simp only [sm];exact_mod_cast this
 | q::l,0,_,h=>by simp at h
 | q::l,n+1,h,hl=>by
  have h1:=h q (by simp);have h2:=JiL hB (l:=l) (n:=n) (fun r hr=>h r (by simp [hr])) (by simpa using hl);have e:((B*((n+1:Nat):Int):Int):Rat)=(B:Rat)+((B*(n:Int):Int):Rat):=by
   have : B*((n+1:Nat):Int)=B+B*(n:Int):=by push_cast; rw [Int.mul_add,Int.mul_one,Int.add_comm]
   rw [this];push_cast;rfl
  simp only [sm];rw [e];grind
theorem Ji0 (hc:RC b Q N w M gs ms) {g:Gp} (hg:g∈gs):g.way.length<=12:=Nat.le_trans (sub_len _ _ (hc.gw g hg).2.1 (hc.gw g hg).1) hc.l12
theorem Jgl (hc:RC b Q N w M gs ms) {g:Gp} (hg:g∈gs) {e:LidD} (he:LidOk w g lvs e):0<=e.load/\Mth.Sz 25 e.load:=by
 have d:=hc.gw g hg;have a:=sm_nn (Jd4 (lvs:=lvs) hc.wpos d.1);obtain ⟨B,l⟩:∃ B:Int,B=2097152:=⟨_,rfl⟩;have B0:0<=B:=by ac_nf
 have c:sm (left lvs w) g.way<=((B*(12:Nat):Int):Rat):=JiL B0 (fun q j=>by
  obtain ⟨k,f,h,i⟩:=hc.wt q (d.1 q j);have : k<=B:=by unfold Mth.Sz at i; ac_nf
  have : (k:Rat)<=(B:Rat):=by exact_mod_cast this
  unfold left;split
  ·exact_mod_cast B0
  ·rw [f]; exact this) (Ji0 hc hg)
 rw [<- he.load] at a c;have a:0<=e.load:=by exact_mod_cast a
 have c:e.load<=B*(12:Nat):=Rat.intCast_le_intCast.mp c;refine ⟨a,?_⟩;unfold Mth.Sz;ac_nf
theorem JcJ {S:List Str} {s:(Int × Int) × List Str}:s∈stF ms lds S↔(∃ m∈ms,m.1∉S/\s=(m.2,[m.1]))\/∃ e∈lds,0<e.load/\s=(divF e.rest (e.load,1),(e.ws.map (·.1)).filter fun n=>decide (n∉S)):=by
 unfold stF;rw [mem_append,mem_map,mem_map];constructor
 ·rintro (⟨m,a,rfl⟩ | ⟨e,b,rfl⟩)
  ·have:=mem_filter.mp a;exact .inl ⟨m,this.1,by simpa using this.2,rfl⟩
  ·have:=mem_filter.mp b;exact .inr ⟨e,this.1,by simpa using this.2,rfl⟩
 ·rintro (⟨m,a,h,rfl⟩ | ⟨e,b,h,rfl⟩)
  ·exact .inl ⟨m,mem_filter.mpr ⟨a,by simpa using h⟩,rfl⟩
  ·exact .inr ⟨e,mem_filter.mpr ⟨b,by simpa using h⟩,rfl⟩
theorem RSt.len (hc:RC b Q N w M gs ms) (h:RSt b N w M gs lvs lds):lvs.length<=N.length:=by
 obtain ⟨L,a⟩:=h.inv;have:=sub_len _ _ a.nd a.sub;simpa using this
theorem RSt.all (hc:RC b Q N w M gs ms) (h:RSt b N w M gs lvs lds) (hl:N.length<=lvs.length):∀ n∈N,n∈lvs.map (·.1):=by
 obtain ⟨L,c⟩:=h.inv;intro n d;refine Classical.byContradiction fun z=>?_;have:=sub_len (n::lvs.map (·.1)) N (nodup_cons.mpr ⟨z,c.nd⟩) (fun q a=>by
  rcases mem_cons.mp a with e | a
  ·rw [e]; exact d
  ·exact c.sub q a)
 simp at this;ac_nf
theorem RSt.lids (hc:RC b Q N w M gs ms) (h:RSt b N w M gs lvs lds):∀ e∈lds,FB 3000 1000 e.rest/\Mth.Sz 64 e.load/\e.ws.length<=12:=by
 intro e j;obtain ⟨L,d⟩:=h.inv;obtain ⟨D,i⟩:=h.bt;obtain ⟨g,c,a⟩:=h.ok.bwd j;have f:=JgD hc d.s i (by have:=h.len hc; have:=hc.l12; ac_nf) c a;refine ⟨⟨f.s1.mono ⋯,f.s2.mono ⋯,f.b1,f.g1⟩,(Jgl hc c a).2.mono ⋯,?_⟩;have:=a.pm.length_eq;rw [length_map] at this;rw [this];exact Ji0 hc c
theorem RSt.some (hc:RC b Q N w M gs ms) (h:RSt b N w M gs lvs lds) (hl:lvs.length<N.length):stF ms lds (lvs.map (·.1))≠[]:=by
 intro z;have : ∀ n∈N,n∈lvs.map (·.1):=fun n a=>by
  rw [<- hc.nm] at a;obtain ⟨m,c,rfl⟩:=mem_map.mp a;refine Classical.byContradiction fun y=>?_;have : ((m.2,[m.1]):(Int × Int) × List Str)∈stF ms lds (lvs.map (·.1)):=JcJ.mpr (.inl ⟨m,c,y,rfl⟩);rw [z] at this;cases this
 have:=sub_len N (lvs.map (·.1)) hc.nd (fun q d=>this q d);simp at this;ac_nf
theorem RSt.stops (hc:RC b Q N w M gs ms) (h:RSt b N w M gs lvs lds):∀ s∈stF ms lds (lvs.map (·.1)),FB 3000 1000 s.1/\∀ n∈s.2,n∈N/\n∉lvs.map (·.1):=by
 intro s k;rcases JcJ.mp k with ⟨m,hm,hS,rfl⟩ | ⟨e,he,hl,rfl⟩
 ·have f:=(hc.ml m hm).2.1;refine ⟨⟨f.s1.mono ⋯,f.s2.mono ⋯,f.b1,f.g1⟩,fun n a=>?_⟩;rw [mem_singleton.mp a];exact ⟨hc.nm ▸ mem_map.mpr ⟨m,hm,rfl⟩,hS⟩
 ·obtain ⟨L,i⟩:=h.inv;obtain ⟨D,j⟩:=h.bt;obtain ⟨g,d,c⟩:=h.ok.bwd he;have f:=JgD hc i.s j (by have:=h.len hc; have:=hc.l12; ac_nf) d c;have z:=Jgl hc d c;refine ⟨?_,fun n a=>?_⟩
  ·refine FB.low (Jb2 f.b1 ∅) ?_ ?_
   ·show Mth.Sz 3000 (e.rest.1*1);rw [Int.mul_one];exact f.s1.mono ⋯
   ·exact (f.s2.mul z.2).mono ⋯
  ·have:=mem_filter.mp a;exact ⟨(hc.gw g d).1 n (c.pm.mem_iff.mp this.1),by simpa using this.2⟩
theorem RSt.first (hc:RC b Q N w M gs ms) (h:RSt b N w M gs lvs lds) (hlt:lvs.length<N.length) (hL:L∈(stF ms lds (lvs.map (·.1))).map (·.1)) (hmin:∀ s∈stF ms lds (lvs.map (·.1)),vl L<=vl s.1) (hnd:ns.Nodup) (hns:∀ n,n∈ns↔∃ s∈stF ms lds (lvs.map (·.1)),s.1=L/\n∈s.2) :
  ns≠[]/\(∀ n∈ns,n∈N/\n∉lvs.map (·.1))/\RInv N w M gs (lvs++ns.map fun n=>(n,L)) (vl L)/\∃ D,RMd b N w M gs L D (lvs.length+1) lvs lds:=by
 obtain ⟨L0,A⟩:=h.inv;obtain ⟨D,B⟩:=h.bt;have U:=h.stops hc;obtain ⟨s0,F,u⟩:=mem_map.mp hL;have X:FB 3000 1000 L:=u ▸ (U s0 F).1;have Y:=hc.wpos;have P:=fun (g:Gp) (c:g∈gs)=>(hc.gw g c).1;have V:∀ n∈N,n∉lvs.map (·.1)->vl L<=M n:=fun n f r=>by
  rw [<- hc.nm] at f;obtain ⟨m,i,rfl⟩:=mem_map.mp f;have:=hmin _ (JcJ.mpr (.inl ⟨m,i,r,rfl⟩));rw [<- (hc.ml m i).1];exact this
 have O:∀ e g,g∈gs->LidOk w g lvs e->0<e.load->vl (divF e.rest (e.load,1))*sm (left lvs w) g.way=g.R-sm (used lvs w) g.way:=fun e g c d j=>by
  rw [Jj1 d.low.b1 (by show 1<=e.load; ac_nf) (Int.le_refl 1),Jf9, <- d.load, <- d.rest];exact Rat.div_mul_cancel (JaI ∅)
 have I:∀ g∈gs,0<sm (left lvs w) g.way->vl L*sm (left lvs w) g.way<=g.R-sm (used lvs w) g.way:=fun g c l=>by
  obtain ⟨e,E,d⟩:=h.ok.fwd c;have j:0<e.load:=by rw [<- d.load] at l; exact_mod_cast l
  have:=hmin _ (JcJ.mpr (.inr ⟨e,E,j,rfl⟩));rw [<- O e g c d j];exact Rat.mul_le_mul_of_nonneg_right this (Rat.le_of_lt l)
 have key:∀ n,n∈ns↔n∈N/\n∉lvs.map (·.1)/\(M n=vl L\/∃ g∈gs,n∈g.way/\0<sm (left lvs w) g.way/\vl L*sm (left lvs w) g.way=g.R-sm (used lvs w) g.way):=fun n=>by
  rw [hns n];constructor
  ·rintro ⟨s,H,e1,W⟩;have J:=(U s H).2 n W;refine ⟨J.1,J.2,?_⟩;rcases JcJ.mp H with ⟨m,i,r,rfl⟩ | ⟨e,E,j,rfl⟩
   ·left
    rw [mem_singleton.mp W, <- e1];exact (hc.ml m i).1.symm
   ·right
    obtain ⟨g,c,d⟩:=h.ok.bwd E;refine ⟨g,c,d.pm.mem_iff.mp (mem_filter.mp W).1,?_,?_⟩
    ·rw [<- d.load]; exact_mod_cast j
    ·rw [<- e1]; exact O e g c d j
  ·rintro ⟨f,r,e | ⟨g,c,hw,l,e⟩⟩
   ·rw [<- hc.nm] at f;obtain ⟨m,i,rfl⟩:=mem_map.mp f;exact ⟨_,JcJ.mpr (.inl ⟨m,i,r,rfl⟩),(hc.ml m i).2.1.lo.inj X.lo ((hc.ml m i).1.trans e),by simp⟩
   ·obtain ⟨o,E,d⟩:=h.ok.fwd c;have j:0<o.load:=by rw [<- d.load] at l; exact_mod_cast l
    have i:((divF o.rest (o.load,1),(o.ws.map (·.1)).filter fun n=>decide (n∉lvs.map (·.1))):(Int × Int) × List Str)∈stF ms lds (lvs.map (·.1)):=JcJ.mpr (.inr ⟨o,E,j,rfl⟩);refine ⟨_,i,(U _ i).1.lo.inj X.lo ?_,mem_filter.mpr ⟨d.pm.mem_iff.mpr hw,by simpa using r⟩⟩;have:=O o g c d j;rw [<- e] at this;have p':sm (left lvs w) g.way≠0:=fun z=>by rw [z] at l; exact absurd l ⋯
    show vl (divF o.rest (o.load,1))=vl L;grind
 have t:(∃ n∈N,n∉lvs.map (·.1)/\M n=vl L)\/∃ g∈gs,0<sm (left lvs w) g.way/\vl L*sm (left lvs w) g.way=g.R-sm (used lvs w) g.way/\∃ e:LidD,LidOk w g lvs e/\0<e.load/\L=divF e.rest (e.load,1):=by
  rcases JcJ.mp F with ⟨m,i,r,rfl⟩ | ⟨e,E,j,rfl⟩
  ·exact .inl ⟨m.1,hc.nm ▸ mem_map.mpr ⟨m,i,rfl⟩,r,by rw [<- u]; exact (hc.ml m i).1.symm⟩
  ·obtain ⟨g,c,d⟩:=h.ok.bwd E;refine .inr ⟨g,c,?_,by rw [<- u]; exact O e g c d j,e,d,j,u.symm⟩;rw [<- d.load]; exact_mod_cast j
 have C:vl L0<=vl L:=A.le (t.imp id fun ⟨g,c,T,S,_⟩=>⟨g,c,T,S⟩);have ne:ns≠[]:=fun z=>by
  rcases t with ⟨n,f,r,e⟩ | ⟨g,c,l,e,_⟩
  ·have:=(key n).mpr ⟨f,r, .inl e⟩;rw [z] at this; cases this
  ·have : ∃ n∈g.way,n∉lvs.map (·.1):=Classical.byContradiction fun y=>by
    rw [JcZ (a:=left lvs w) fun q hq=>if_pos (Classical.byContradiction fun v=>y ⟨q,hq,v⟩)] at l;exact absurd l ⋯
   obtain ⟨n,f,r⟩:=this;have:=(key n).mpr ⟨P g c n f,r, .inr ⟨g,c,f,l,e⟩⟩;rw [z] at this; cases this
 refine ⟨ne,fun n f=>⟨((key n).mp f).1,((key n).mp f).2.1⟩,A.round Y P hnd V I key C,?_⟩;have si:SInv N w gs lvs L:=by
  refine ⟨A.nd,A.sub,fun x K=>⟨(A.a x K).1,Rat.le_trans (A.a x K).2.1 C⟩,Rat.le_trans A.c0 C,fun g c=>?_⟩;by_cases p:0<sm (left lvs w) g.way
  ·exact I g c p
  ·have e0:sm (left lvs w) g.way=0:=by have:=sm_nn (Jd4 (lvs:=lvs) Y (P g c)); grind
   have:=A.cc g c;rw [e0] at this ⊢;grind
 obtain ⟨k,k1,ks,G⟩:∃ k:Int,1<=k/\Mth.Sz 25 k/\Dv D (vl L/(b:Rat)*(k:Rat)):=by
  rcases t with ⟨n,f,r,e⟩ | ⟨g,c,l,e,o,d,j,eL⟩
  ·obtain ⟨k,G,T,S⟩:=hc.wt n f;refine ⟨k,T,S.mono ⋯,?_⟩;have:=B.dm n f;rw [e,G] at this;exact this
  ·refine ⟨o.load,by ac_nf,(Jgl hc c d).2,?_⟩;have Z:=JhW (B.dr g c) (fun n f=>by obtain ⟨k,G,_⟩:=hc.wt n (P g c n f); exact ⟨k,G⟩) B.dl A.nd;rw [<- e, <- d.load] at Z;have : vl L/(b:Rat)*(o.load:Rat)=vl L*(o.load:Rat)/(b:Rat):=by grind
   rw [this];exact Z
 refine ⟨D*k,si,h.ok,⟨Jb2 B.D1 k1,?_,fun x K=>(B.dl x K).more k,fun g c=>(B.dr g c).more k,fun n f=>(B.dm n f).more k⟩,by have:=hc.l12; ac_nf,G.over k1,X⟩;have:=B.sD.mul ks;rw [show 230+25*(lvs.length+1)=230+25*lvs.length+25 by ac_nf];exact this
theorem RMd.rest (hc:RC b Q N w M gs ms) (h:RMd b N w M gs L D k lvs lds):∀ e∈lds,FB 3000 1000 e.rest/\∀ x∈e.ws,Mth.Sz 64 x.2:=by
 intro e m;obtain ⟨g,i,c⟩:=h.ok.bwd m;have f:=JgD hc h.inv h.bt (by have:=h.k12; ac_nf) i c;refine ⟨⟨f.s1.mono ⋯,f.s2.mono ⋯,f.b1,f.g1⟩,fun x d=>?_⟩;have a:x.1∈N:=(hc.gw g i).1 _ (c.pm.mem_iff.mp (mem_map.mpr ⟨x,d,rfl⟩));obtain ⟨k,j,_,l⟩:=hc.wt _ a;have:=(c.wt x d).1;rw [j] at this;have : k=x.2:=by exact_mod_cast this
 rw [<- this];exact l.mono ⋯
theorem RMd.step (hc:RC b Q N w M gs ms) (h:RMd b N w M gs L D k lvs lds) {n:Str} (hn:n∈N) (hS:n∉lvs.map (·.1)):RMd b N w M gs L D k (lvs++[(n,L)]) (lds.map fun e=>e.settle n L):=by
 refine ⟨h.inv.step (fun g f=>(hc.gw g f).2.1) hn hS,⟨by rw [length_map]; exact h.ok.1,fun i g e f j=>?_⟩,⟨h.bt.D1,h.bt.sD,fun x c=>?_,h.bt.dr,h.bt.dm⟩,h.k12,h.dL,h.fL⟩
 ·rw [List.getElem?_map] at j;obtain ⟨l,d,rfl⟩:=Option.map_eq_some_iff.mp j;exact (h.ok.2 i g l f d).settle h.inv.nd hS h.fL.lo fun x c=>(h.inv.a x c).2
 ·rcases mem_append.mp c with c | c
  ·exact h.bt.dl x c
  ·rw [mem_singleton.mp c];exact h.dL
theorem RMd.next (hc:RC b Q N w M gs ms) (h:RMd b N w M gs L D k (lvs++ns.map fun n=>(n,L)) lds) (hi:RInv N w M gs (lvs++ns.map fun n=>(n,L)) (vl L)) (hlo:∀ x∈lvs,Lo x.2) (hk:k<=lvs.length+ns.length):RSt b N w M gs (lvs++ns.map fun n=>(n,L)) lds:=by
 refine ⟨⟨L,hi⟩,h.ok,⟨D,h.bt.D1,h.bt.sD.mono (by simp; ac_nf),h.bt.dl,h.bt.dr,h.bt.dm⟩,fun x a=>?_⟩;rcases mem_append.mp a with a | a
 ·exact hlo x a
 ·obtain ⟨n,_,rfl⟩:=mem_map.mp a;exact h.fL.lo
end
theorem All2.put {α : Type} {P P' : α->V->Prop}:∀ {as:List α} {xs:List V} {j:Nat} {a' : α} {x:V},All2 P as xs->xs[j]?=some x->P' a' x->(∀ (i:Nat) a y,i≠j->as[i]?=some a->xs[i]?=some y->P a y->P' a y)->All2 P' (as.set j a') xs
 | [],xs,j,a',x,h,hx,_,_=>by
  have h:xs=[]:=h;subst h;cases hx
 | a::as,xs,0,a',x,h,hx,p,m=>by
  obtain ⟨y,r,rfl,h1,h2⟩:=h;have hx:y=x:=by simpa using hx
  subst hx;refine ⟨y,r,rfl,p,?_⟩;have go:∀ {as:List α} {r:List V},All2 P as r->(∀ (i:Nat) a y,as[i]?=some a->r[i]?=some y->P a y->P' a y)->All2 P' as r:=by
   intro as;induction as with
   | nil=>intro r h _; exact h
   | cons b bs ih=>
    intro r h m;obtain ⟨z,t,rfl,h1,h2⟩:=h;exact ⟨z,t,rfl,m 0 b z rfl rfl h1,ih h2 fun i a y ha hy=>m (i+1) a y (by simpa using ha) (by simpa using hy)⟩
  exact go h2 fun i a y ha hy=>m (i+1) a y ∅ (by simpa using ha) (by simpa using hy)
 | a::as,xs,j+1,a',x,h,hx,p,m=>by
  obtain ⟨y,r,rfl,h1,h2⟩:=h;refine ⟨y,r,rfl,m 0 a y ∅ rfl rfl h1,All2.put h2 (by simpa using hx) p fun i a y ne ha hy=>m (i+1) a y ∅ (by simpa using ha) (by simpa using hy)⟩
theorem Jkm {α : Type} {f : α->α} {ls:List α} {j:Nat}:((ls.take j).map f++ls.drop j)[j]?=ls[j]?:=by
 by_cases c:j<=ls.length
 ·have e:((ls.take j).map f).length=j:=by rw [length_map,length_take]; ac_nf
  rw [List.getElem?_append_right ∅,e,List.getElem?_drop];simp
 ·have e:((ls.take j).map f++ls.drop j).length<=j:=by simp; ac_nf
  rw [List.getElem?_eq_none e,List.getElem?_eq_none ∅]
theorem JgX {α : Type} {f : α->α}:∀ {ls:List α} {j:Nat} {e : α},ls[j]?=some e->((ls.take j).map f++ls.drop j).set j (f e)=(ls.take (j+1)).map f++ls.drop (j+1)
 | [],j,e,h=>by simp at h
 | a::ls,0,e,h=>by
  have h:a=e:=by simpa using h
  subst h;simp
 | a::ls,j+1,e,h=>by
  have:=JgX (f:=f) (ls:=ls) (j:=j) (e:=e) (by simpa using h);simp only [List.take_succ_cons,map_cons,List.drop_succ_cons,cons_append,List.set_cons_succ,this]
theorem JgN {α : Type} {ns:List α} {i:Nat} {n : α} (h:ns.Nodup) (hn:ns[i]?=some n):n∉ns.take i:=by
 intro z;rw [<- List.take_append_drop i ns,nodup_append] at h;refine h.2.2 n z n (List.mem_of_getElem? (i:=0) ?_) rfl;rw [List.getElem?_drop];exact hn
theorem JiH {e:LidD} {n:Str} {L:Int × Int}:(e.settle n L).nm=e.nm:=by
 unfold LidD.settle;split <;> rfl
theorem JhE {ls:List LidD} {n:Str} {L:Int × Int}:(ls.map fun e=>e.settle n L).map (·.nm)=ls.map (·.nm):=by
 rw [map_map];exact List.map_congr_left fun e _=>JiH
structure ShD where
 nm:Str
 sl:Int × Int
 sp:Option Str
def wtF (ls:List PD) (n:Str):Rat:=((ls.find? fun p=>decide (p.nm=n)).map fun p=>(p.wt:Rat)).getD 0
def moF (ls:List PD) (n:Str):Rat:=((ls.find? fun p=>decide (p.nm=n)).map fun p=>vl p.mo/(p.wt:Rat)).getD 0
def gpF (es:List (GD × List Str)) (pl:Str->Int × Int):List Gp:=es.map fun e=>⟨vl (roomF pl e.1),e.2⟩
def gpB (b:Int) (es:List (GD × List Str)) (pl:Str->Int × Int):List Gp:=es.map fun e=>⟨vl (roomF pl e.1)*(b:Rat),e.2⟩
def stp (w f:Str->Rat) (pl:Str->Int × Int) (n:Str) (e:GD × List Str):Bool:=decide (n∈e.2)&&(decide (sm (fun q=>f q*w q) e.2=vl (roomF pl e.1))&&decide (∀ q∈e.2,f q<=f n))
structure ShRow (ls:List PD) (es:List (GD × List Str)) (pl:Str->Int × Int) (f:Str->Rat) (p:PD) (r:ShD):Prop where
 nm:r.nm=p.nm
 lo:Lo r.sl
 val:vl r.sl=f p.nm*(p.wt:Rat)
 sp:(r.sl=p.mo/\r.sp=none)\/(r.sl≠p.mo/\∃ e,es.find? (stp (wtF ls) f pl p.nm)=some e/\r.sp=some e.1.nm)
structure ShF (ls:List PD) (es:List (GD × List Str)) (pl:Str->Int × Int) (f:Str->Rat) (D:Int):Prop where
 sub:∀ e∈es,(∀ n∈e.2,n∈ls.map (·.nm))/\e.2.Nodup
 fair:Fair (ls.map (·.nm)) (wtF ls) (moF ls) (gpF es pl) f
 D1:1<=D
 sD:Mth.Sz 600 D
 dv:∀ n∈ls.map (·.nm),Dv D (f n)
structure ShR (ls:List PD) (es:List (GD × List Str)) (pl:Str->Int × Int) (rs:List ShD):Prop where
 len:rs.length=ls.length
 ex:∃ f D,ShF ls es pl f D/\∀ (i:Nat) p r,ls[i]?=some p->rs[i]?=some r->ShRow ls es pl f p r
theorem Jgi:∀ {ls:List PD} {p:PD},(ls.map (·.nm)).Nodup->p∈ls->ls.find? (fun q=>decide (q.nm=p.nm))=some p
 | [],_,_,h=>by cases h
 | a::ls,p,hn,h=>by
  rw [map_cons,nodup_cons] at hn;rw [List.find?_cons];rcases mem_cons.mp h with e | h
  ·subst e; simp
  ·have : a.nm≠p.nm:=fun z=>hn.1 (z ▸ mem_map.mpr ⟨p,h,rfl⟩);rw [decide_eq_false this];exact Jgi hn.2 h
section
variable {ls:List PD} {es:List (GD × List Str)} {pl:Str->Int × Int} {p:PD} {f f':Str->Rat} {rs rs':List ShD}
theorem JeS (hn:(ls.map (·.nm)).Nodup) (hp:p∈ls):wtF ls p.nm=(p.wt:Rat):=by
 unfold wtF;rw [Jgi hn hp];rfl
theorem Jd8 (hn:(ls.map (·.nm)).Nodup) (hp:p∈ls):moF ls p.nm=vl p.mo/(p.wt:Rat):=by
 unfold moF;rw [Jgi hn hp];rfl
theorem Jk3 (hn:(ls.map (·.nm)).Nodup) (hk:∀ p∈ls,1<=p.wt):∀ n∈ls.map (·.nm),0<wtF ls n:=fun n h=>by
 obtain ⟨p,a,rfl⟩:=mem_map.mp h;rw [JeS hn a];have:=hk p a;exact_mod_cast (show 0<p.wt by ac_nf)
theorem Je0 {g:Gp} (h:g∈gpF es pl):∃ e∈es,g=⟨vl (roomF pl e.1),e.2⟩:=by
 obtain ⟨e,a,rfl⟩:=mem_map.mp h;exact ⟨e,a,rfl⟩
theorem ShR.uniq (hn:(ls.map (·.nm)).Nodup) (hk:∀ p∈ls,1<=p.wt) (h:ShR ls es pl rs) (k:ShR ls es pl rs'):rs=rs':=by
 obtain ⟨S,f,D,F,R⟩:=h;obtain ⟨Q,o,D',F',J⟩:=k;have M:=Jk3 hn hk;have N:∀ g∈gpF es pl, ∀ n∈g.way,n∈ls.map (·.nm):=fun g H=>by
  obtain ⟨e,P,rfl⟩:=Je0 H;exact (F.sub e P).1
 have e:=F.fair.uniq M N F'.fair;refine List.ext_getElem? fun i=>?_;by_cases c:i<ls.length
 ·have L:i<rs.length:=by ac_nf
  have E:i<rs'.length:=by ac_nf
  have u:=List.getElem?_eq_getElem c;have A:=List.getElem?_eq_getElem L;have w:=List.getElem?_eq_getElem E;have s:=R i _ _ u A;have r:=J i _ _ u w;rw [A,w];generalize ls[i]=p at *;generalize rs[i]=a at *;generalize rs'[i]=b at *;have v:p∈ls:=List.mem_of_getElem? u;have j:p.nm∈ls.map (·.nm):=mem_map.mpr ⟨p,v,rfl⟩;have d:a.sl=b.sl:=s.lo.inj r.lo (by rw [s.val,r.val,e _ j]);have G:es.find? (stp (wtF ls) f pl p.nm)=es.find? (stp (wtF ls) o pl p.nm):=by
   have I:∀ {t:List (GD × List Str)},(∀ x∈t,x∈es)->t.find? (stp (wtF ls) f pl p.nm)=t.find? (stp (wtF ls) o pl p.nm):=by
    intro t;induction t with
    | nil=>intro _; rfl
    | cons x t ih=>
     intro B;have : stp (wtF ls) f pl p.nm x=stp (wtF ls) o pl p.nm x:=by
      have l:=(F.sub x (B x (by simp))).1;have C:sm (fun q=>f q*wtF ls q) x.2=sm (fun q=>o q*wtF ls q) x.2:=Jbn fun q m=>by rw [e q (l q m)]
      have O:(∀ q∈x.2,f q<=f p.nm)↔∀ q∈x.2,o q<=o p.nm:=by
       constructor
       ·intro h q m;rw [<- e q (l q m), <- e _ j];exact h q m
       ·intro h q m;rw [e q (l q m),e _ j];exact h q m
      unfold stp;rw [C,decide_eq_decide.mpr O]
     rw [List.find?_cons,List.find?_cons,this,ih fun y K=>B y (by simp [K])]
   exact I fun _ h=>h
  have z:a.sp=b.sp:=by
   rcases s.sp with ⟨x1,x2⟩ | ⟨x1,e1,x2,x3⟩ <;> rcases r.sp with ⟨y1,y2⟩ | ⟨y1,e2,y2,y3⟩
   ·rw [x2,y2]
   ·exact absurd (d ▸ x1) y1
   ·exact absurd (d ▸ y1) x1
   ·rw [G,y2] at x2;cases x2;rw [x3,y3]
  have nm:a.nm=b.nm:=s.nm.trans r.nm.symm;obtain ⟨Y,U,T⟩:=a;obtain ⟨X,W,V⟩:=b;simp only at nm d z;rw [nm,d,z]
 ·rw [List.getElem?_eq_none ∅,List.getElem?_eq_none ∅]
end
theorem JjH:∀ (fs:List (Int × Int)) (k:Nat),(∀ a∈fs,1<=a.2/\Mth.Sz 12 a.2)->fs.length<=k->∃ D:Int,1<=D/\Mth.Sz (12*k+1) D/\∀ a∈fs,Dv D (vl a)
 | [],k,_,_=>⟨1,by decide,by unfold Mth.Sz; exact Nat.one_lt_two_pow ∅,fun a ha=>by cases ha⟩
 | a::fs,0,_,h=>by simp at h
 | a::fs,k+1,h,hl=>by
  obtain ⟨D,h1,h2,h3⟩:=JjH fs k (fun x hx=>h x (by simp [hx])) (by simpa using hl);obtain ⟨a1,a2⟩:=h a (by simp);refine ⟨D*a.2,Jb2 h1 a1,?_,fun x hx=>?_⟩
  ·have:=h2.mul a2;rw [show 12*(k+1)+1=12*k+1+12 by ac_nf];exact this
  ·rcases mem_cons.mp hx with e | hx
   ·subst e;refine Dv.over a1 ?_;have : vl x*(x.2:Rat)=(x.1:Rat):=by
     unfold vl;exact Rat.div_mul_cancel (JaI a1)
    rw [this];exact Dv.int _
   ·exact (h3 x hx).more _
theorem Jeu {a:Int × Int} (h:1<=a.2) (h0:0<=a.1):vl a<=(a.1:Rat):=by
 unfold vl;have p:(0:Rat)<(a.2:Rat):=by exact_mod_cast (show 0<a.2 by ac_nf)
 have e:(a.1:Rat)/(a.2:Rat)*(a.2:Rat)=(a.1:Rat):=Rat.div_mul_cancel (JaI h);have q:(a.1:Rat)<=(a.1:Rat)*(a.2:Rat):=by
  have : a.1<=a.1*a.2:=by
   have:=Int.mul_le_mul_of_nonneg_left h h0;ac_nf
  exact_mod_cast this
 rw [<- scaled p,e];exact q
theorem vl_nn {a:Int × Int} (h:1<=a.2):0<=vl a↔0<=a.1:=by
 unfold vl;have p:(0:Rat)<(a.2:Rat):=by exact_mod_cast (show 0<a.2 by ac_nf)
 have e:(a.1:Rat)/(a.2:Rat)*(a.2:Rat)=(a.1:Rat):=Rat.div_mul_cancel (JaI h);rw [<- scaled p,e,Rat.zero_mul];exact_mod_cast Iff.rfl
theorem JiO:∀ (ws:List (Str × Int)) (w:Str->Rat),(∀ x∈ws,w x.1=(x.2:Rat))->(((ws.map (·.2)).sum:Int):Rat)=sm w (ws.map (·.1))
 | [],_,_=>rfl
 | x::ws,w,h=>by
  have ih:=JiO ws w fun y hy=>h y (by simp [hy]);simp only [map_cons,List.sum_cons,sm,h x (by simp), <- ih];push_cast;rfl
section
variable {ls:List PD} {es:List (GD × List Str)} {pl:Str->Int × Int} {lds:List LidD} {ms lvs:List (Str × (Int × Int))} {b q0:Int}
theorem LSt.way {e:GD × List Str} {l:LidD} (h:LSt b ls pl e l):(∀ n∈e.2,n∈ls.map (·.nm))/\e.2.Nodup:=by
 refine ⟨fun n c=>?_,h.pm.nodup_iff.mp h.nd⟩;obtain ⟨x,a,rfl⟩:=mem_map.mp (h.pm.mem_iff.mpr c);obtain ⟨p,d,e,_⟩:=h.wt x a;exact mem_map.mpr ⟨p,d,e⟩
theorem JjT (hl:lds.length=es.length) (hls:∀ (i:Nat) e l,es[i]?=some e->lds[i]?=some l->LSt b ls pl e l):∀ e∈es,(∀ n∈e.2,n∈ls.map (·.nm))/\e.2.Nodup:=fun e c=>by
 obtain ⟨i,a⟩:=List.getElem?_of_mem c;have d:=(List.getElem?_eq_some_iff.mp a).1;exact (hls i e _ a (List.getElem?_eq_getElem ∅)).way
theorem Jjz (b1:1<=b) (sb:Mth.Sz 2000 b) (hc:SHC ls es pl) (hr:∀ e∈es,0<=vl (roomF pl e.1)) (hl:lds.length=es.length) (hls:∀ (i:Nat) e l,es[i]?=some e->lds[i]?=some l->LSt b ls pl e l) (hm:ms.length=ls.length) (hms:∀ (i:Nat) p m,ls[i]?=some p->ms[i]?=some m->MSt b p m):∃ q0,RC b q0 (ls.map (·.nm)) (wtF ls) (fun n=>moF ls n*(b:Rat)) (gpB b es pl) ms/\RSt b (ls.map (·.nm)) (wtF ls) (fun n=>moF ls n*(b:Rat)) (gpB b es pl) [] lds:=by
 have N:=JjT hl hls;have t:(0:Rat)<(b:Rat):=by exact_mod_cast (show 0<b by ac_nf)
 have Z:=JaI b1;have G:∀ m∈ms, ∃ p∈ls,MSt b p m:=fun m o=>by
  obtain ⟨i,P⟩:=List.getElem?_of_mem o;have Y:=(List.getElem?_eq_some_iff.mp P).1;exact ⟨ls[i]'∅,List.getElem_mem _,hms i _ m (List.getElem?_eq_getElem ∅) P⟩
 obtain ⟨B,S,Q,H⟩:∃ B:Int,Mth.Sz 200 B/\0<=B/\∀ x,Mth.Sz 200 x->x<=B:=⟨2 ^ 200-1,by unfold Mth.Sz; decide,by decide,fun x k=>by unfold Mth.Sz at k; ac_nf⟩;have A:∀ g∈gpB b es pl, ∃ e∈es,g=⟨vl (roomF pl e.1)*(b:Rat),e.2⟩:=fun g A=>by
  obtain ⟨e,f,rfl⟩:=mem_map.mp A;exact ⟨e,f,rfl⟩
 have C:∀ p∈ls,1<=p.wt:=fun p d=>(hc.pok p d).w;have u:∀ p∈ls,0<=vl p.mo:=fun p d=>(vl_nn (hc.pb p d).2.b1).mpr (hc.pok p d).m0;have M0:∀ p∈ls,0<=moF ls p.nm/\moF ls p.nm<=vl p.mo:=fun p d=>by
  rw [Jd8 hc.nd d];have M:=C p d;have O:(0:Rat)<(p.wt:Rat):=by exact_mod_cast (show 0<p.wt by ac_nf)
  have e:vl p.mo/(p.wt:Rat)*(p.wt:Rat)=vl p.mo:=Rat.div_mul_cancel (JaI M);have J:=u p d;constructor
  ·rw [<- scaled O,e,Rat.zero_mul];exact J
  ·rw [<- scaled O,e];have : (1:Rat)<=(p.wt:Rat):=by exact_mod_cast M
   have:=Rat.mul_le_mul_of_nonneg_left this J;rw [Rat.mul_one] at this;exact this
 have top:∀ a:Int × Int,FB 200 12 a->0<=vl a->vl a<=(B:Rat):=fun a F R=>by
  refine Rat.le_trans (Jeu F.b1 ((vl_nn F.b1).mp R)) ?_;exact_mod_cast H _ F.s1
 have y:((B*b:Int):Rat)=(B:Rat)*(b:Rat):=by push_cast; rfl
 have K:RC b (B*b) (ls.map (·.nm)) (wtF ls) (fun n=>moF ls n*(b:Rat)) (gpB b es pl) ms:=by
  refine ⟨b1,?_,hc.nd,by rw [length_map]; exact hc.l12,fun n s=>?_,fun m o=>?_,fun g j=>?_,fun n s=>?_,(S.mul sb)⟩
  ·refine List.ext_getElem? fun i=>?_;rw [List.getElem?_map,List.getElem?_map];by_cases c:i<ls.length
   ·rw [List.getElem?_eq_getElem c,List.getElem?_eq_getElem (by ac_nf:i<ms.length)];exact congrArg some (hms i _ _ (List.getElem?_eq_getElem c) (List.getElem?_eq_getElem ∅)).nm
   ·rw [List.getElem?_eq_none ∅,List.getElem?_eq_none ∅];rfl
  ·obtain ⟨p,d,rfl⟩:=mem_map.mp s;exact ⟨p.wt,JeS hc.nd d,C p d,hc.wt p d⟩
  ·obtain ⟨p,d,h⟩:=G m o;refine ⟨?_,h.fb,?_⟩
   ·rw [h.vl,h.nm,Jd8 hc.nd d];grind
   ·rw [h.nm];exact Rat.mul_nonneg (M0 p d).1 (Rat.le_of_lt t)
  ·obtain ⟨e,f,rfl⟩:=A g j;refine ⟨(N e f).1,(N e f).2,Rat.mul_nonneg (hr e f) (Rat.le_of_lt t),?_⟩;rw [y];exact Rat.mul_le_mul_of_nonneg_right (top _ (hc.rb e f) (hr e f)) (Rat.le_of_lt t)
  ·obtain ⟨p,d,rfl⟩:=mem_map.mp s;rw [y];exact Rat.mul_le_mul_of_nonneg_right (Rat.le_trans (M0 p d).2 (top _ (hc.pb p d).2 (u p d))) (Rat.le_of_lt t)
 refine ⟨_,K,⟨(0,1),?_⟩,⟨by unfold gpB; rw [length_map]; exact hl,fun i g l r I=>?_⟩,?_,fun x k=>by cases k⟩
 ·rw [Jfu];refine RInv.start (fun n s=>?_) (fun g j=>(K.gw g j).2.2.1);obtain ⟨p,d,rfl⟩:=mem_map.mp s;exact Rat.mul_nonneg (M0 p d).1 (Rat.le_of_lt t)
 ·unfold gpB at r;rw [List.getElem?_map] at r;obtain ⟨e,f,rfl⟩:=Option.map_eq_some_iff.mp r;have h:=hls i e l f I;have v:∀ x∈l.ws,wtF ls x.1=(x.2:Rat)/\1<=x.2:=fun x k=>by
   obtain ⟨p,d,V,W⟩:=h.wt x k;rw [<- V, <- W];exact ⟨JeS hc.nd d,C p d⟩
  have T:sm (used [] (wtF ls)) e.2=0:=JcZ fun q _=>by
   unfold used;rw [Jck (by simp),Rat.zero_mul]
  refine ⟨h.pm,h.nd,v,?_,?_,h.fb.lo,?_,(fun n _ E=>by cases E),fun ⟨n,_,E⟩=>by cases E⟩
  ·rw [h.rest];show _=_-sm (used [] (wtF ls)) e.2;rw [T];grind
  ·rw [h.load,JiO l.ws (wtF ls) fun x k=>(v x k).1,JkY h.pm];exact Jbn fun q _=>by unfold left; rw [if_neg (by simp)]
  ·rw [h.last];exact ⟨Int.le_refl 1,by unfold Mth.g; simp⟩
 ·obtain ⟨D,D1,U,L⟩:=JjH (ls.map (·.mo)++es.map fun e=>roomF pl e.1) 14 (fun a z=>by
   rcases mem_append.mp z with z | z
   ·obtain ⟨p,d,rfl⟩:=mem_map.mp z;exact ⟨(hc.pb p d).2.b1,(hc.pb p d).2.s2⟩
   ·obtain ⟨e,f,rfl⟩:=mem_map.mp z;exact ⟨(hc.rb e f).b1,(hc.rb e f).s2⟩) (by rw [length_append,length_map,length_map]; exact hc.l14)
  refine ⟨D,D1,U.mono (by simp),fun x k=>(by cases k),fun g j=>?_,fun n s=>?_⟩
  ·obtain ⟨e,f,rfl⟩:=A g j;show Dv D (vl (roomF pl e.1)*(b:Rat)/(b:Rat));rw [show vl (roomF pl e.1)*(b:Rat)/(b:Rat)=vl (roomF pl e.1) by grind];exact L _ (mem_append.mpr (.inr (mem_map.mpr ⟨e,f,rfl⟩)))
  ·obtain ⟨p,d,rfl⟩:=mem_map.mp s;rw [Jd8 hc.nd d,JeS hc.nd d];have X:=JaI (C p d);rw [show vl p.mo/(p.wt:Rat)*(b:Rat)/(b:Rat)*(p.wt:Rat)=vl p.mo by grind];exact L _ (mem_append.mpr (.inl (mem_map.mpr ⟨p,d,rfl⟩)))
end
theorem JfG {α β γ : Type} {P : α->Bool} {R : β->Bool} {f : α->γ} {g : β->γ}:∀ {as:List α} {bs:List β},as.length=bs.length->(∀ (i:Nat) a b,as[i]?=some a->bs[i]?=some b->P a=R b/\f a=g b)->(as.find? P).map f=(bs.find? R).map g
 | [],[],_,_=>rfl
 | [],b::bs,h,_=>by simp at h
 | a::as,[],h,_=>by simp at h
 | a::as,b::bs,h,k=>by
  obtain ⟨h1,h2⟩:=k 0 a b rfl rfl;have ih:=JfG (as:=as) (bs:=bs) (by simpa using h) fun i x y hx hy=>k (i+1) x y (by simpa using hx) (by simpa using hy);rw [List.find?_cons,List.find?_cons,h1];cases R b with
  | true=>exact congrArg some h2
  | false=>exact ih
theorem JiK {lv w:Str->Rat} {c:Rat}:∀ (l:List Str),sm (fun n=>lv n/c*w n) l=sm (fun n=>lv n*w n) l/c
 | []=>by simp only [sm]; grind
 | n::l=>by
  simp only [sm,JiK l];grind
section
variable {ls:List PD} {es:List (GD × List Str)} {pl:Str->Int × Int} {lds:List LidD} {ms lvs:List (Str × (Int × Int))} {b q0:Int}
abbrev RCs (b q0:Int) (ls:List PD) (es:List (GD × List Str)) (pl:Str->Int × Int) (ms:List (Str × (Int × Int))):Prop:=RC b q0 (ls.map (·.nm)) (wtF ls) (fun n=>moF ls n*(b:Rat)) (gpB b es pl) ms
abbrev RSs (b:Int) (ls:List PD) (es:List (GD × List Str)) (pl:Str->Int × Int) (lvs:List (Str × (Int × Int))) (lds:List LidD):Prop:=RSt b (ls.map (·.nm)) (wtF ls) (fun n=>moF ls n*(b:Rat)) (gpB b es pl) lvs lds
def lvf (b:Int) (lvs:List (Str × (Int × Int))) (n:Str):Rat:=lvv lvs n/(b:Rat)
theorem JlJ (rc:RCs b q0 ls es pl ms) (rs:RSs b ls es pl lvs lds) (hl:(ls.map (·.nm)).length<=lvs.length) {n:Str} (hn:n∈ls.map (·.nm)):∃ x∈lvs,x.1=n/\lvv lvs n=vl x.2:=by
 obtain ⟨x,a,e⟩:=mem_map.mp (rs.all rc hl n hn);obtain ⟨L,c⟩:=rs.inv;have e:x.1=n:=e;exact ⟨x,a,e,e ▸ Jd7 c.nd a⟩
theorem sh_at (rs:RSs b ls es pl lvs lds) {x:Str × (Int × Int)} (hx:x∈lvs):lvv lvs x.1=vl x.2:=by
 obtain ⟨L,a⟩:=rs.inv;exact Jd7 a.nd hx
theorem sh_lv (rc:RCs b q0 ls es pl ms) (rs:RSs b ls es pl lvs lds) {x:Str × (Int × Int)} (hx:x∈lvs):FB 2800 600 x.2:=by
 obtain ⟨L,d⟩:=rs.inv;obtain ⟨D,c⟩:=rs.bt;have f:=d.a x hx;have g:=rc.mq x.1 (d.sub _ (mem_map.mpr ⟨x,hx,rfl⟩));have e:=rs.lo x hx;have i:=rs.len rc;have h:=rc.l12;exact ((c.dl x hx).up rc.b1).fb (m:=2200) (n:=600) e.b1 e.g1 c.D1 (c.sD.mono ∅) f.1 (Rat.le_trans f.2.2 g) rc.sQ
theorem JiI (hw:∀ e∈es,(∀ n∈e.2,n∈ls.map (·.nm))/\e.2.Nodup) (rc:RCs b q0 ls es pl ms) (rs:RSs b ls es pl lvs lds) (hl:(ls.map (·.nm)).length<=lvs.length):∃ D,ShF ls es pl (lvf b lvs) D:=by
 obtain ⟨L,r⟩:=rs.inv;obtain ⟨D,j⟩:=rs.bt;have F:=r.fair rc.wpos (fun g c=>(rc.gw g c).1) (rs.all rc hl);have f:(0:Rat)<(b:Rat):=by have:=rc.b1; exact_mod_cast (show 0<b by ac_nf)
 have m:=JaI rc.b1;have e:∀ n,lvf b lvs n*(b:Rat)=lvv lvs n:=fun n=>Rat.div_mul_cancel m;have t:=rs.len rc;have p:=rc.l12;have k:∀ l,sm (fun n=>lvf b lvs n*wtF ls n) l*(b:Rat)=sm (fun n=>lvv lvs n*wtF ls n) l:=fun l=>by
  unfold lvf;rw [JiK,Rat.div_mul_cancel m]
 refine ⟨D,hw,⟨fun n a=>?_,fun n a=>?_,fun g c=>?_,fun n a=>?_⟩,j.D1,j.sD.mono ∅,fun n a=>?_⟩
 ·rw [<- scaled f,e,Rat.zero_mul];exact F.lo n a
 ·rw [<- scaled f,e];exact F.hi n a
 ·obtain ⟨x,d,rfl⟩:=Je0 c;rw [<- scaled f,k];exact F.fit ⟨vl (roomF pl x.1)*(b:Rat),x.2⟩ (mem_map.mpr ⟨x,d,rfl⟩)
 ·rcases F.stop n a with h | ⟨g,c,h1,i,h3⟩
  ·left
   have:=e n;rw [h] at this;grind
  ·right
   obtain ⟨x,d,rfl⟩:=mem_map.mp c;refine ⟨⟨vl (roomF pl x.1),x.2⟩,mem_map.mpr ⟨x,d,rfl⟩,h1,?_,fun q s=>?_⟩
   ·have i:sm (fun n=>lvv lvs n*wtF ls n) x.2=vl (roomF pl x.1)*(b:Rat):=i;rw [<- k] at i;show sm (fun n=>lvf b lvs n*wtF ls n) x.2=vl (roomF pl x.1);grind
   ·rw [<- scaled f,e,e];exact h3 q s
 ·obtain ⟨x,d,rfl,o⟩:=JlJ rc rs hl a;unfold lvf;rw [o];exact j.dl x d
theorem Jkv (rc:RCs b q0 ls es pl ms) (rs:RSs b ls es pl lvs lds) (hl:(ls.map (·.nm)).length<=lvs.length) {i:Nat} {e:GD × List Str} {l:LidD} (he:es[i]?=some e) (hli:lds[i]?=some l) {x:Str × (Int × Int)} (hx:x∈lvs):((wtOf l.ws x.1).isSome&&(decide (l.rest=(0,1))&&decide (l.last=x.2)))=stp (wtF ls) (lvf b lvs) pl x.1 e:=by
 have a:=rs.ok.2 i ⟨vl (roomF pl e.1)*(b:Rat),e.2⟩ l (by unfold gpB; rw [List.getElem?_map,he]; rfl) hli;have r:(0:Rat)<(b:Rat):=by have:=rc.b1; exact_mod_cast (show 0<b by ac_nf)
 have s:=JaI rc.b1;have d:∀ n,lvf b lvs n*(b:Rat)=lvv lvs n:=fun n=>Rat.div_mul_cancel s;have u:∀ l,sm (fun n=>lvf b lvs n*wtF ls n) l*(b:Rat)=sm (fun n=>lvv lvs n*wtF ls n) l:=fun l=>by
  unfold lvf;rw [JiK,Rat.div_mul_cancel s]
 have all:=rs.all rc hl;have p:=(rc.gw ⟨vl (roomF pl e.1)*(b:Rat),e.2⟩ (by unfold gpB; exact mem_map.mpr ⟨e,List.mem_of_getElem? he,rfl⟩)).1;have o:=rs.lo x hx;have m:=sh_at rs hx;unfold stp;have y:(wtOf l.ws x.1).isSome=decide (x.1∈e.2):=by
  by_cases c:x.1∈e.2
  ·rw [decide_eq_true c];cases h:wtOf l.ws x.1 with
   | none=>exact absurd (a.pm.mem_iff.mpr c) (JgL.mp h)
   | some k=>rfl
  ·rw [decide_eq_false c,JgL.mpr fun z=>c (a.pm.mem_iff.mp z)];rfl
 have w:decide (l.rest=(0,1))=decide (sm (fun q=>lvf b lvs q*wtF ls q) e.2=vl (roomF pl e.1)):=by
  refine decide_eq_decide.mpr ?_;have f:l.rest=(0,1)↔vl l.rest=0:=by
   rw [<- Jfu];exact ⟨fun h=>by rw [h],fun h=>a.low.inj ⟨Int.le_refl 1,by unfold Mth.g; simp⟩ h⟩
  have j:vl l.rest=vl (roomF pl e.1)*(b:Rat)-sm (fun n=>lvv lvs n*wtF ls n) e.2:=a.rest;rw [f,j, <- u];constructor <;> intro h <;> grind
 rw [y,w];by_cases c:x.1∈e.2
 ·have v:decide (l.last=x.2)=decide (∀ q∈e.2,lvf b lvs q<=lvf b lvs x.1):=by
   refine decide_eq_decide.mpr ?_;have f:l.last=x.2↔vl l.last=lvv lvs x.1:=by
    rw [m];exact ⟨fun h=>by rw [h],fun h=>a.llow.inj o h⟩
   rw [f];constructor
   ·intro h q t;rw [<- scaled r,d,d, <- h];exact a.l1 q t (all q (p q t))
   ·intro h;obtain ⟨n,B,_,A⟩:=a.l2 ⟨x.1,c,all _ (p _ c)⟩;have j:=h n B;rw [<- scaled r,d,d,A] at j;have C:=a.l1 x.1 c (all _ (p _ c));grind
  rw [v]
 ·rw [decide_eq_false c];rfl
theorem JkV (hw:∀ e∈es,(∀ n∈e.2,n∈ls.map (·.nm))/\e.2.Nodup) (rc:RCs b q0 ls es pl ms) (rs:RSs b ls es pl lvs lds) (hl:(ls.map (·.nm)).length<=lvs.length) (hn:lds.map (·.nm)=es.map (·.1.nm)) {x:Str × (Int × Int)} (hx:x∈lvs) (hne:vl x.2≠moF ls x.1*(b:Rat)):∃ l e,lds.find? (fun l=>(wtOf l.ws x.1).isSome&&(decide (l.rest=(0,1))&&decide (l.last=x.2)))=some l/\es.find? (stp (wtF ls) (lvf b lvs) pl x.1)=some e/\l.nm=e.1.nm:=by
 have d:lds.length=es.length:=by simpa using congrArg List.length hn
 have m:=JfG (P:=fun l:LidD=>(wtOf l.ws x.1).isSome&&(decide (l.rest=(0,1))&&decide (l.last=x.2))) (R:=stp (wtF ls) (lvf b lvs) pl x.1) (f:=fun l:LidD=>l.nm) (g:=fun e:GD × List Str=>e.1.nm) d fun i l e c a=>⟨Jkv rc rs hl a c hx,by
  have:=congrArg (·[i]?) hn;simp only [List.getElem?_map,c,a] at this;exact Option.some.inj this⟩
 obtain ⟨D,F⟩:=JiI hw rc rs hl;obtain ⟨L,p⟩:=rs.inv;have j:=p.sub _ (mem_map.mpr ⟨x,hx,rfl⟩);have q:=JaI rc.b1;have o:∃ e∈es,stp (wtF ls) (lvf b lvs) pl x.1 e=true:=by
  rcases F.fair.stop x.1 j with h | ⟨g,hg,c,a,h3⟩
  ·refine absurd ?_ hne;rw [<- h, <- sh_at rs hx];exact (Rat.div_mul_cancel q).symm
  ·obtain ⟨e,k,rfl⟩:=Je0 hg;refine ⟨e,k,?_⟩;unfold stp;rw [decide_eq_true c,decide_eq_true a,decide_eq_true h3];rfl
 cases hf:es.find? (stp (wtF ls) (lvf b lvs) pl x.1) with
 | none=>
  obtain ⟨e,k,h⟩:=o;have:=List.find?_eq_none.mp hf e k;exact absurd h this
 | some e=>
  rw [hf] at m;obtain ⟨l,c,a⟩:=Option.map_eq_some_iff.mp m;exact ⟨l,e,c,rfl,a⟩
theorem JkX (hc:SHC ls es pl) (rc:RCs b q0 ls es pl ms) (rs:RSs b ls es pl lvs lds) {p:PD} (hp:p∈ls) {x:Str × (Int × Int)} (hx:x∈lvs) (e1:x.1=p.nm) (he:vl x.2=moF ls x.1*(b:Rat)):ShRow ls es pl (lvf b lvs) p ⟨p.nm,p.mo,none⟩:=by
 have a:=JaI rc.b1;have c:=JaI (hc.pok p hp).w;refine ⟨rfl,(hc.pb p hp).2.lo,?_, .inl ⟨rfl,rfl⟩⟩;show vl p.mo=_;unfold lvf;rw [<- e1,sh_at rs hx,he,e1,Jd8 hc.nd hp];grind
theorem JkW (hc:SHC ls es pl) (rc:RCs b q0 ls es pl ms) (rs:RSs b ls es pl lvs lds) {p:PD} (hp:p∈ls) {x:Str × (Int × Int)} (hx:x∈lvs) (e1:x.1=p.nm) (hne:vl x.2≠moF ls x.1*(b:Rat)) {t:Int × Int} (ht:LoInv (mulF x.2 (p.wt,1)) b t) {e:GD × List Str} (hf:es.find? (stp (wtF ls) (lvf b lvs) pl x.1)=some e):ShRow ls es pl (lvf b lvs) p ⟨p.nm,t,some e.1.nm⟩:=by
 have i:=JaI rc.b1;have j:=JaI (hc.pok p hp).w;have g:=rs.lo x hx;have h:=Je4 (a:=x.2) (c:=(p.wt,1)) g.b1 (Int.le_refl 1);have d:=ht.vl h.b1 rc.b1;rw [Jj3 g.b1 (Int.le_refl 1),Jf9] at d;have f:vl t=lvf b lvs p.nm*(p.wt:Rat):=by
  unfold lvf;rw [<- e1,sh_at rs hx,d];grind
 refine ⟨rfl,ht.lo,f, .inr ⟨fun z=>hne ?_,e,by rw [<- e1]; exact hf,rfl⟩⟩;have z:t=p.mo:=z;rw [z] at d;rw [e1,Jd8 hc.nd hp,d];grind
end
structure GOQ (ls:List PD) (xs:List (SpD × List Str)) (e:GD × List Str):Prop where
 tok:TOk e.1.td
 con:Conn ls e.1.st e.1.en
 nm:NmOk xs e
 rb:FB 101 3 (roomF (spOf (xs.map (·.1))) e.1)
 r0:0<=vl (roomF (spOf (xs.map (·.1))) e.1)
 gb:(1<=e.1.lo.2/\Mth.Sz 70 e.1.lo.2)/\1<=e.1.hi.2/\Mth.Sz 70 e.1.hi.2
 f1:e.1.st∈(xs.map (·.1)).map (·.f)
 f2:e.1.en∈(xs.map (·.1)).map (·.f)
 sub:∀ n∈e.2,n∈ls.map (·.nm)
def rvl (rs:List ShD) (n:Str):Rat:=((rs.find? fun r=>decide (r.nm=n)).map fun r=>vl r.sl).getD 0
theorem JiC:∀ {rs:List ShD} {r:ShD},(rs.map (·.nm)).Nodup->r∈rs->rvl rs r.nm=vl r.sl
 | [],_,_,h=>by cases h
 | a::rs,r,hn,h=>by
  rw [map_cons,nodup_cons] at hn;unfold rvl;rw [List.find?_cons];rcases mem_cons.mp h with e | h
  ·subst e; simp
  ·have : a.nm≠r.nm:=fun z=>hn.1 (z ▸ mem_map.mpr ⟨r,h,rfl⟩);rw [decide_eq_false this];exact JiC hn.2 h
structure ShK (ks:List PD) (es:List (GD × List Str)) (pf:Str->Int × Int) (rs:List ShD):Prop where
 nm:rs.map (·.nm)=ks.map (·.nm)
 fb:∀ r∈rs,FB 800 600 r.sl
 bd:∀ (i:Nat) p r,ks[i]?=some p->rs[i]?=some r->0<=vl r.sl/\vl r.sl<=vl p.mo/\((∀ e∈es,p.nm∉e.2)->r.sl=p.mo)
 fit:∀ e∈es,sm (rvl rs) e.2<=vl (roomF pf e.1)
 par:∀ e∈es, ∀ (j:Nat) (u:Int × Int),Lo u->vl u=sm (rvl rs) (e.2.take j)->FB 800 600 u
theorem ShR.k {ks:List PD} {es:List (GD × List Str)} {pf:Str->Int × Int} {rs:List ShD} (hc:SHC ks es pf) (hm:∀ p∈ks,FB 100 6 p.mo) (h:ShR ks es pf rs):ShK ks es pf rs:=by
 obtain ⟨hl,f,D,F,R⟩:=h;have hn:rs.map (·.nm)=ks.map (·.nm):=by
  refine List.ext_getElem? fun i=>?_;rw [List.getElem?_map,List.getElem?_map];by_cases c:i<ks.length
  ·rw [List.getElem?_eq_getElem c,List.getElem?_eq_getElem (by ac_nf:i<rs.length)];exact congrArg some (R i _ _ (List.getElem?_eq_getElem c) (List.getElem?_eq_getElem ∅)).nm
  ·rw [List.getElem?_eq_none ∅,List.getElem?_eq_none ∅];rfl
 have K:(rs.map (·.nm)).Nodup:=hn ▸ hc.nd;have s:∀ (i:Nat) p r,ks[i]?=some p->rs[i]?=some r->0<=vl r.sl/\vl r.sl<=vl p.mo:=fun i p r o q=>by
  have d:=R i p r o q;have a:=List.mem_of_getElem? o;have v:p.nm∈ks.map (·.nm):=mem_map.mpr ⟨p,a,rfl⟩;have N:=(hc.pok p a).w;have Z:(0:Rat)<(p.wt:Rat):=by exact_mod_cast (show 0<p.wt by ac_nf)
  have Q:=F.fair.lo _ v;have I:=F.fair.hi _ v;rw [Jd8 hc.nd a] at I;have e:vl p.mo/(p.wt:Rat)*(p.wt:Rat)=vl p.mo:=Rat.div_mul_cancel (JaI N);rw [d.val];exact ⟨Rat.mul_nonneg Q (Rat.le_of_lt Z),by rw [<- e]; exact Rat.mul_le_mul_of_nonneg_right I (Rat.le_of_lt Z)⟩
 have y:∀ n∈ks.map (·.nm), ∃ (i:Nat) (p:PD) (r:ShD),ks[i]?=some p/\rs[i]?=some r/\p.nm=n/\rvl rs n=vl r.sl/\rvl rs n=f n*wtF ks n:=fun n b=>by
  obtain ⟨p,o,rfl⟩:=mem_map.mp b;obtain ⟨i,C⟩:=List.getElem?_of_mem o;have li:=(List.getElem?_eq_some_iff.mp C).1;have q:=List.getElem?_eq_getElem (by ac_nf:i<rs.length);have d:=R i p _ C q;have e:=JiC K (List.mem_of_getElem? q);rw [d.nm] at e;exact ⟨i,p,_,C,q,rfl,e,by rw [e,d.val,JeS hc.nd o]⟩
 have V:∀ n∈ks.map (·.nm),Dv D (rvl rs n):=fun n b=>by
  obtain ⟨i,p,r,o,q,e,G,H⟩:=y n b;have a:=List.mem_of_getElem? o;rw [H, <- e,JeS hc.nd a];exact (F.dv _ (e ▸ b)).mul _
 have nn:∀ n∈ks.map (·.nm),0<=rvl rs n:=fun n b=>by
  obtain ⟨i,p,r,o,q,e,G,H⟩:=y n b;rw [G];exact (s i p r o q).1
 have T:∀ l:List Str,(∀ n∈l,n∈ks.map (·.nm))->sm (rvl rs) l=sm (fun n=>f n*wtF ks n) l:=fun l L=>Jbn fun n b=>by
  obtain ⟨i,p,r,o,q,e,G,H⟩:=y n (L n b);exact H
 refine ⟨hn,fun r q=>?_,fun i p r o q=>⟨(s i p r o q).1,(s i p r o q).2,fun P=>?_⟩,fun e z=>?_,fun e z j u Y J=>?_⟩
 ·obtain ⟨i,C⟩:=List.getElem?_of_mem q;have li:=(List.getElem?_eq_some_iff.mp C).1;have o:=List.getElem?_eq_getElem (by ac_nf:i<ks.length);have d:=R i _ r o C;have a:=List.mem_of_getElem? o;have X:=s i _ r o C;generalize ks[i]=p at *;have E:=hm p a;have:=(F.dv p.nm (mem_map.mpr ⟨p,a,rfl⟩)).mul p.wt;rw [<- d.val] at this;have t:=this.fb (m:=100) (n:=600) d.lo.b1 d.lo.g1 F.D1 F.sD X.1 (Rat.le_trans X.2 (Jeu E.b1 (hc.pok p a).m0)) E.s1;exact ⟨t.s1.mono ⋯,t.s2,t.b1,t.g1⟩
 ·have d:=R i p r o q;have a:=List.mem_of_getElem? o;have v:p.nm∈ks.map (·.nm):=mem_map.mpr ⟨p,a,rfl⟩;have N:=(hc.pok p a).w;rcases F.fair.stop _ v with h | ⟨g,hg,h,_⟩
  ·refine d.lo.inj (hm p a).lo ?_;rw [d.val,h,Jd8 hc.nd a];exact Rat.div_mul_cancel (JaI N)
  ·obtain ⟨e,z,rfl⟩:=Je0 hg;exact absurd h (P e z)
 ·rw [T e.2 (F.sub e z).1];exact F.fair.fit ⟨vl (roomF pf e.1),e.2⟩ (mem_map.mpr ⟨e,z,rfl⟩)
 ·have A:∀ n∈e.2.take j,n∈ks.map (·.nm):=fun n b=>(F.sub e z).1 n (List.mem_of_mem_take b);obtain ⟨B,hB,M,U⟩:∃ B:Int,Mth.Sz 100 B/\0<=B/\∀ x,Mth.Sz 100 x->x<=B:=⟨2 ^ 100-1,by unfold Mth.Sz; decide,by decide,fun x hx=>by unfold Mth.Sz at hx; ac_nf⟩;have O:(e.2.take j).length<=12:=by
   have Q:=sub_len _ _ (F.sub e z).2 (F.sub e z).1;rw [length_map] at Q;have I:=hc.l12;rw [length_take];ac_nf
  have dv:Dv D (vl u):=by
   rw [J];exact Dv.sm fun n b=>V n (A n b)
  have up:vl u<=((B*(12:Nat):Int):Rat):=by
   rw [J];refine JiL M (fun n b=>?_) O;obtain ⟨i,p,r,o,q,e',G,H⟩:=y n (A n b);have a:=List.mem_of_getElem? o;have E:=hm p a;rw [G];refine Rat.le_trans (Rat.le_trans (s i p r o q).2 (Jeu E.b1 (hc.pok p a).m0)) ?_;exact_mod_cast U _ E.s1
  have S:0<=vl u:=by
   rw [J];exact sm_nn fun n b=>nn n (A n b)
  have W:Mth.Sz 4 ((12:Nat):Int):=.lit ⋯ ⋯;have t:=dv.fb (m:=100+4) (n:=600) Y.b1 Y.g1 F.D1 F.sD S up (hB.mul W);exact ⟨t.s1.mono ⋯,t.s2,t.b1,t.g1⟩
theorem Jjb {a:Int × Int} (h:Lo a):(Mth.top a.1 a.2,Mth.bot a.1 a.2)=a:=(JfJ h.b1).inj h (Jhf h.b1)
theorem JiJ:∀ {ls:List ShD} {p q:ShD},(ls.map (·.nm)).Nodup->p∈ls->q∈ls->p.nm=q.nm->p=q
 | [],_,_,_,hp,_,_=>by cases hp
 | a::ls,p,q,hn,hp,hq,e=>by
  rw [map_cons,nodup_cons] at hn;rcases mem_cons.mp hp with h1 | h1 <;> rcases mem_cons.mp hq with h2 | h2
  ·rw [h1,h2]
  ·subst h1;exact absurd (e ▸ mem_map.mpr ⟨q,h2,rfl⟩) hn.1
  ·subst h2;exact absurd (e ▸ mem_map.mpr ⟨p,h1,rfl⟩) hn.1
  ·exact JiJ hn.2 h1 h2 e
section
variable {a b c d B:TS} {D:Ends} {σ : St} {H:Hp}
end
structure Nxt (R:St->Hp->Prop) (b:TS) (D:Ends):Prop where
 go:∀ {σ : St} {H:Hp},b D σ H->R σ H
theorem Jfn {a b:TS} {D:Ends} {σ : St} {H:Hp} (h:∀ R,Nxt R b D->a { D with nx:=R } σ H):tSeq a b D σ H:=h _ ⟨fun z=>z⟩
end L2
open PySem L2
local macro_rules|`(tactic|rename_i $p:ident $h:ident $q:ident $H:ident $G:ident $S:ident $e:ident)=>`(tactic|(intro $p:ident $h:ident;generalize $q:ident:upd $H $p _=$G;have $S:ident:=newS $h $q;have $e:ident:=newE $q))
local macro_rules|`(tactic|bv_decide)=>`(tactic|exact ⟨rfl,rfl,rfl,by decide +kernel,rfl,by decide +kernel,by decide +kernel⟩)
local macro_rules|`(tactic|simpa! only [$xs,*])=>`(tactic|simp only [y4fy,y50y,y51y,y72y,y2by,y6dy,y80y,y81y,y47y,y2ey,y79y,y93y,y30y,y3cy,y73y,y2fy,y89y,y23y,y29y,y7ay,y75y,y2ay,y7by,y77y,y5by,y95y,y26y,y87y,y71y,y6ay,y4cy,y69y,y7ey,y33y,y4ay,y6fy,y4by,y70y,y49y,y6ey,y8ey,y65y,y61y,y90y,y92y,y8fy,y91y,y25y,y68y,y24y,true_and,if_true,if_false,Bool.not_true,Bool.not_false,Bool.false_eq_true,yby,ydy,yay,ycy,yey,y15y,y17y,y14y,y16y,y18y,y6y,y8y,y5y,y7y,y9y,y1y,y3y,y0y,y2y,y4y,y10y,y12y,yfy,y11y,y13y,y1ay,y1cy,y19y,y1by,y1dy,y1fy,y21y,y1ey,y20y,y22y,y85y,y7dy,y74y,y31y,y32y,y55y,y63y,y64y,y4ey,y86y,y8cy,y96y,y7fy,y27y,V.int.injEq,V.str.injEq,List.set_cons_zero,List.set_cons_succ,List.getElem?_cons_zero,List.getElem?_cons_succ,Option.some.injEq,exists_eq_left,exists_eq_left',V.bl.injEq,Int.reduceToNat,Int.reducePow,append_nil,nil_append,cons_append,y57y,y59y,y2cy,y2dy,y6by,y60y,y76y,y66y,y67y,y3dy,y3ey,y3fy,y46y,y48y,y41y,y7cy,y43y,y42y,y34y,y36y,y3ay,y40y,y44y,y52y,y54y,y5cy,y38y,y8by,y88y,y37y,y98y,reduceCtorEq,decide_false,decide_true,$xs,*])
local macro_rules|`(tactic|infer_instance)=>`(tactic|simpa! only [y83y])
local macro_rules|`(tactic|contradiction)=>`(tactic|simpa! only [y83y,y4dy])
local macro_rules|`(tactic|ac_rfl)=>`(tactic|simpa! only [y83y,y84y])
local macro_rules|`(tactic|symm_saturate)=>`(tactic|((try simpa! only [y4dy,y84y]); repeat ((first | (with_reducible refine Jfn fun _ _=>?_) | (with_reducible refine Nxt.go (by assumption) ?_)); (try simpa! only [y4dy,y84y]))))
local macro_rules|`(tactic|exfalso)=>`(tactic|((try simpa! only [y84y]); repeat ((first | (with_reducible refine Jfn fun _ _=>?_) | (with_reducible refine Nxt.go (by assumption) ?_)); (try simpa! only [y84y]))))
local macro_rules|`(tactic|and_intros)=>`(tactic|((try simpa! only [y4dy]); repeat ((first | (with_reducible refine Jfn fun _ _=>?_) | (with_reducible refine Nxt.go (by assumption) ?_)); (try simpa! only [y4dy]))))
local macro_rules|`(tactic|nofun)=>`(tactic|((try simpa! only [true_and]); repeat ((first | (with_reducible refine Jfn fun _ _=>?_) | (with_reducible refine Nxt.go (by assumption) ?_)); (try simpa! only [true_and]))))
local macro_rules|`(tactic|simpa only [$xs,*])=>`(tactic|simpa! only [y83y, $xs,*])
namespace Prg
open PySem L2 Ch
variable {f:Addr} {fd:FuncData} {dV:Value}
def top (i:Nat):Stmt:=PySem.Challenge.pw_slackchain_k54_shares_keep_every_gap.main.body.getD i (.Pass ⟨0,0,0,0⟩)
structure Adr where
 NoNumber:Addr
 Twice:Addr
 NoName:Addr
 NoPart:Addr
 NoGap:Addr
 InRing:Addr
 Apart:Addr
 Part:Addr
 Gap:Addr
 Joints:Addr
 Thing:Addr
 Scale:Addr
 Lid:Addr
 SMALL_LETTERS:Value
 LONGEST_NAME:Value
 ZERO:Addr
structure PartC (K:W.Frag) (C:Addr):Prop where
 cls:Cls K C
 n1:JaU K C "name"
 n2:JaU K C "start"
 n3:JaU K C "end"
 n4:JaU K C "size"
 n5:JaU K C "most"
 n6:JaU K C "weight"
def IsPart (Ad:Adr) (C:Addr):Prop:=C=Ad.Part
structure GapC (K:W.Frag) (C:Addr):Prop where
 cls:Cls K C
 n1:JaU K C "name"
 n2:JaU K C "one"
 n3:JaU K C "other"
 n4:JaU K C "low"
 n5:JaU K C "high"
def IsGap (Ad:Adr) (C:Addr):Prop:=C=Ad.Gap
structure Jj5 (K:W.Frag) (C:Addr):Prop where
 cls:Cls K C
 n1:JaU K C "leads"
def Jc6 (Ad:Adr) (C:Addr):Prop:=C=Ad.Joints
structure Jk5 (K:W.Frag) (C:Addr):Prop where
 cls:Cls K C
 n1:JaU K C "parts_by_name"
 n2:JaU K C "gaps_by_name"
 n3:JaU K C "ways"
def Ja8 (Ad:Adr) (C:Addr):Prop:=C=Ad.Thing
structure Jk4 (K:W.Frag) (C:Addr):Prop where
 cls:Cls K C
 n1:JaU K C "bottom"
 n2:JaU K C "factors"
def Jdq (Ad:Adr) (C:Addr):Prop:=C=Ad.Scale
structure LidC (K:W.Frag) (C:Addr):Prop where
 cls:Cls K C
 n1:JaU K C "name"
 n2:JaU K C "rest"
 n3:JaU K C "weights"
 n4:JaU K C "load"
 n5:JaU K C "last_level"
def IsLid (Ad:Adr) (C:Addr):Prop:=C=Ad.Lid
theorem SqT.put {K:W.Frag} {H:Hp} {x a C dx:Addr} {fs fs':List (Str × V)} {xs:List V} (hx:H x=some (.ins C dx fs)) (h:SqT K H a xs):SqT K (upd H x (.ins C dx fs')) a xs:=by
 rcases h with (h | ⟨o,h⟩) | h
 ·exact .inl (.inl (by rw [Jag (ne_of h hx (by intro z; cases z))]; exact h))
 ·exact .inl (.inr ⟨o,by rw [Jag (ne_of h hx (by intro z; cases z))]; exact h⟩)
 ·exact .inr h
def partF (n s e z m w:V):List (Str × V):=[("name",n),("start",s),("end",e),("size",z),("most",m),("weight",w)]
def gapF (n s e l g:V):List (Str × V):=[("name",n),("one",s),("other",e),("low",l),("high",g)]
structure Txt (K:W.Frag) (mg:Str->Option Value) (Ad:Adr):Prop where
 BdP:mg "abs"=none
 Baf:mg "isinstance"=none
 Bbe:mg "len"=none
 BdQ:mg "int"=none
 BdX:mg "bool"=none
 Bco:mg "tuple"=none
 Bd6:mg "str"=none
 Bcz:mg "range"=none
 BdB:mg "list"=none
 Bd7:mg "min"=none
 BdC:mg "sorted"=none
 Bd8:mg "all"=none
 n_sum:mg "sum"=none
 n_dict:mg "dict"=none
 m_NoNumber:mg "NoNumber"=some (.ref Ad.NoNumber)
 BdF:mg "Twice"=some (.ref Ad.Twice)
 BdR:mg "NoName"=some (.ref Ad.NoName)
 BdS:mg "NoPart"=some (.ref Ad.NoPart)
 BdY:mg "NoGap"=some (.ref Ad.NoGap)
 BdT:mg "InRing"=some (.ref Ad.InRing)
 BdZ:mg "Apart"=some (.ref Ad.Apart)
 Beb:mg "Part"=some (.ref Ad.Part)
 Bec:mg "Gap"=some (.ref Ad.Gap)
 Bd4:mg "Joints"=some (.ref Ad.Joints)
 Bd9:mg "Thing"=some (.ref Ad.Thing)
 Bea:mg "Scale"=some (.ref Ad.Scale)
 m_Lid:mg "Lid"=some (.ref Ad.Lid)
 BcA:mg "SMALL_LETTERS"=some Ad.SMALL_LETTERS
 BcB:RelV (.str "abcdefghijklmnopqrstuvwxyz") Ad.SMALL_LETTERS
 BcW:mg "LONGEST_NAME"=some Ad.LONGEST_NAME
 BcX:RelV (.int 8) Ad.LONGEST_NAME
 Bdo:mg "ZERO"=some (.ref Ad.ZERO)
 Bdp:RelV (.ref Ad.ZERO) (.ref Ad.ZERO)
 Bdq:∀ H:Hp,SqT K H Ad.ZERO [.int 0, .int 1]
 x_NoNumber:W.excIn K Ad.NoNumber [.type "ValueError", .type "Exception", .type "BaseException", .type "object"] "ValueError.__new__"=true
 Bcp:W.excIn K Ad.Twice [.type "ValueError", .type "Exception", .type "BaseException", .type "object"] "ValueError.__new__"=true
 Bb9:W.excIn K Ad.NoName [.type "ValueError", .type "Exception", .type "BaseException", .type "object"] "ValueError.__new__"=true
 Bca:W.excIn K Ad.NoPart [.type "ValueError", .type "Exception", .type "BaseException", .type "object"] "ValueError.__new__"=true
 BcC:W.excIn K Ad.NoGap [.type "ValueError", .type "Exception", .type "BaseException", .type "object"] "ValueError.__new__"=true
 Bcb:W.excIn K Ad.InRing [.type "ValueError", .type "Exception", .type "BaseException", .type "object"] "ValueError.__new__"=true
 BcD:W.excIn K Ad.Apart [.type "ValueError", .type "Exception", .type "BaseException", .type "object"] "ValueError.__new__"=true
 Bcc:W.plainGet K Ad.Part Str.empty=true
 Bcd:W.hasDictIn K Ad.Part=true
 Bce:W.plainOver K Ad.Part=true
 Bcf:W.findIn K (.ref Ad.Part) "__setattr__"=some (some (.builtin "object.__setattr__"))
 Bcg:W.findIn K (.ref Ad.Part) "name"=some none
 Bch:W.findIn K (.ref Ad.Part) "start"=some none
 Bci:W.findIn K (.ref Ad.Part) "end"=some none
 Bcj:W.findIn K (.ref Ad.Part) "size"=some none
 Bck:W.findIn K (.ref Ad.Part) "most"=some none
 Bcl:W.findIn K (.ref Ad.Part) "weight"=some none
 BcE:W.plainGet K Ad.Gap Str.empty=true
 BcF:W.hasDictIn K Ad.Gap=true
 BcG:W.plainOver K Ad.Gap=true
 BcH:W.findIn K (.ref Ad.Gap) "__setattr__"=some (some (.builtin "object.__setattr__"))
 BcI:W.findIn K (.ref Ad.Gap) "name"=some none
 BcJ:W.findIn K (.ref Ad.Gap) "one"=some none
 BcK:W.findIn K (.ref Ad.Gap) "other"=some none
 BcL:W.findIn K (.ref Ad.Gap) "low"=some none
 BcM:W.findIn K (.ref Ad.Gap) "high"=some none
 Bbo:W.plainGet K Ad.Joints Str.empty=true
 Bbp:W.hasDictIn K Ad.Joints=true
 Bbq:W.plainOver K Ad.Joints=true
 Bbr:W.findIn K (.ref Ad.Joints) "__setattr__"=some (some (.builtin "object.__setattr__"))
 Bbs:W.findIn K (.ref Ad.Joints) "leads"=some none
 BbH:W.plainGet K Ad.Thing Str.empty=true
 BbI:W.hasDictIn K Ad.Thing=true
 BbJ:W.plainOver K Ad.Thing=true
 BbK:W.findIn K (.ref Ad.Thing) "__setattr__"=some (some (.builtin "object.__setattr__"))
 BbL:W.findIn K (.ref Ad.Thing) "parts_by_name"=some none
 BbM:W.findIn K (.ref Ad.Thing) "gaps_by_name"=some none
 BbN:W.findIn K (.ref Ad.Thing) "ways"=some none
 BbO:W.plainGet K Ad.Scale Str.empty=true
 BbP:W.hasDictIn K Ad.Scale=true
 BbQ:W.plainOver K Ad.Scale=true
 BbR:W.findIn K (.ref Ad.Scale) "__setattr__"=some (some (.builtin "object.__setattr__"))
 BbS:W.findIn K (.ref Ad.Scale) "bottom"=some none
 BbT:W.findIn K (.ref Ad.Scale) "factors"=some none
 cl1_Lid:W.plainGet K Ad.Lid Str.empty=true
 cl2_Lid:W.hasDictIn K Ad.Lid=true
 cl3_Lid:W.plainOver K Ad.Lid=true
 cl4_Lid:W.findIn K (.ref Ad.Lid) "__setattr__"=some (some (.builtin "object.__setattr__"))
 na1_Lid:W.findIn K (.ref Ad.Lid) "name"=some none
 na2_Lid:W.findIn K (.ref Ad.Lid) "rest"=some none
 na3_Lid:W.findIn K (.ref Ad.Lid) "weights"=some none
 na4_Lid:W.findIn K (.ref Ad.Lid) "load"=some none
 na5_Lid:W.findIn K (.ref Ad.Lid) "last_level"=some none
 BcY:∀ C,IsPart Ad C->PartC K C
 BdG:∀ C,IsGap Ad C->GapC K C
 Bcm:∀ C,Jc6 Ad C->Jj5 K C
 Ba8:∀ C,Ja8 Ad C->Jk5 K C
 BcN:∀ C,Jdq Ad C->Jk4 K C
 c_Lid:∀ C,IsLid Ad C->LidC K C
def PEV (K:W.Frag) (H:Hp) (e:PD ⊕ D) (x:V):Prop:=match e with
 | .inl p=>PDV K H p x/\POk p
 | .inr c=>Rep K H c x/\szD c/\partB c=false
def GEV (K:W.Frag) (H:Hp) (e:GD ⊕ D) (x:V):Prop:=match e with
 | .inl g=>TV K H g.td x/\TOk g.td
 | .inr c=>Rep K H c x/\szD c/\gapB c=false
def POV (K:W.Frag) (Ad:Adr) (H:Hp) (p:PD) (v:V):Prop:=∃ q dx vz vm,v=.ref q/\H q=some (.ins Ad.Part dx (partF (.str p.nm) (.str p.st) (.str p.en) vz vm (.int p.wt)))/\FrV K H vz p.sz.1 p.sz.2/\FrV K H vm p.mo.1 p.mo.2
def GOV (K:W.Frag) (Ad:Adr) (H:Hp) (g:GD) (v:V):Prop:=∃ q dx vl vg,v=.ref q/\H q=some (.ins Ad.Gap dx (gapF (.str g.nm) (.str g.st) (.str g.en) vl vg))/\FrV K H vl g.lo.1 g.lo.2/\FrV K H vg g.hi.1 g.hi.2
section
variable {K:W.Frag} {Ad:Adr} {H H':Hp} {v x:V}
def isTI:HO->Bool
 | .ins _ _ _=>true
 | u=>isTF u
def SameI (H H':Hp):Prop:=∀ b u,isTI u=true->H b=some u->H' b=some u
theorem SameI.t (S:SameI H H'):SameT H H':=fun b u t h=>S b u (by cases u <;> first | exact t | (simp [isTF] at t)) h
theorem Same.i (S:Same H H'):SameI H H':=fun b u _ h=>S b u h
theorem PEV.same {e:PD ⊕ D} (S:Same H H') (h:PEV K H e x):PEV K H' e x:=by
 match e,h with
 | .inl t,h=>exact ⟨h.1.sameT S.t,h.2⟩
 | .inr c,h=>exact ⟨h.1.same S,h.2⟩
theorem GEV.same {e:GD ⊕ D} (S:Same H H') (h:GEV K H e x):GEV K H' e x:=by
 match e,h with
 | .inl t,h=>exact ⟨h.1.sameT S.t,h.2⟩
 | .inr c,h=>exact ⟨h.1.same S,h.2⟩
theorem POV.si {p:PD} (S:SameI H H'):POV K Ad H p v->POV K Ad H' p v:=fun ⟨q,a,f,e,g,c,b,d⟩=>⟨q,a,f,e,g,S _ _ rfl c,b.sameT S.t,d.sameT S.t⟩
theorem GOV.si {g:GD} (S:SameI H H'):GOV K Ad H g v->GOV K Ad H' g v:=fun ⟨q,a,f,e,h,c,b,d⟩=>⟨q,a,f,e,h,S _ _ rfl c,b.sameT S.t,d.sameT S.t⟩
end
def JK (Ad:Adr) (H0 H:Hp) (j d:Addr) (ls:List PD):Prop:=(∃ dx,H j=some (.ins Ad.Joints dx [("leads", .ref d)]))/\H0 d=none/\∃ kvs,H d=some (.dK kvs)/\kvs.length<=2*ls.length/\JD H0 H (JaF ls) kvs
theorem JK.same {Ad:Adr} {H0 H H':Hp} {j d:Addr} {ls:List PD} (S:Same H H'):JK Ad H0 H j d ls->JK Ad H0 H' j d ls:=fun ⟨⟨b,h⟩,e,a,c,f,g⟩=>⟨⟨b,S _ _ h⟩,e,a,S _ _ c,f,g.same S⟩
def TK (K:W.Frag) (Ad:Adr) (H:Hp) (x:Addr) (ls:List PD) (gs:List GD):Prop:=∃ dx d1 d2 d3 k1 k2 k3,H x=some (.ins Ad.Thing dx [("parts_by_name", .ref d1),("gaps_by_name", .ref d2),("ways", .ref d3)])/\H d1=some (.dK k1)/\BG (·.nm) (POV K Ad H) ls k1/\H d2=some (.dK k2)/\BG (·.nm) (GOV K Ad H) gs k2/\H d3=some (.dK k3)/\BG (·.nm) (WOV H ls) gs k3
theorem TK.same {K:W.Frag} {Ad:Adr} {H H':Hp} {x:Addr} {ls:List PD} {gs:List GD} (S:Same H H'):TK K Ad H x ls gs->TK K Ad H' x ls gs:=fun ⟨c,k,g,l,h,j,b,n,o,e,f,m,d,a⟩=>⟨c,k,g,l,h,j,b,S _ _ n,S _ _ o,e.mono fun _ _ z=>z.si (Same.i S),S _ _ f,m.mono fun _ _ z=>z.si (Same.i S),S _ _ d,a.mono fun _ _ z=>z.same S⟩
def SameJ (d:Addr) (H H':Hp):Prop:=∀ b u,b≠d->(∀ xs,u≠.lst xs)->H b=some u->H' b=some u
def SCK (Ad:Adr) (H:Hp) (x:Addr) (b:Int) (fs:List Int):Prop:=∃ dx fl,H x=some (.ins Ad.Scale dx [("bottom", .int b),("factors", .ref fl)])/\H fl=some (.lst (fs.map V.int))/\Scl b fs/\Mth.Sz 2000 b/\fs.length<=30
theorem SCK.same {Ad:Adr} {H H':Hp} {x:Addr} {b:Int} {fs:List Int} (S:Same H H'):SCK Ad H x b fs->SCK Ad H' x b fs:=fun ⟨a,f,e,d,c⟩=>⟨a,f,S _ _ e,S _ _ d,c⟩
def LDV (K:W.Frag) (Ad:Adr) (H:Hp) (e:LidD) (v:V):Prop:=∃ q dx vr vt wd,v=.ref q/\H q=some (.ins Ad.Lid dx [("name", .str e.nm),("rest",vr),("weights", .ref wd),("load", .int e.load),("last_level",vt)])/\FrV K H vr e.rest.1 e.rest.2/\FrV K H vt e.last.1 e.last.2/\H wd=some (.dK (wsK e.ws))
theorem LDV.same {K:W.Frag} {Ad:Adr} {H H':Hp} {e:LidD} {v:V} (S:Same H H'):LDV K Ad H e v->LDV K Ad H' e v:=fun ⟨q,b,f,d,a,j,g,c,h,i⟩=>⟨q,b,f,d,a,j,S _ _ g,c.same S,h.same S,S _ _ i⟩
theorem LDV.keep {K:W.Frag} {Ad:Adr} {H H':Hp} {e:LidD} {v:V} {q C dq:Addr} {fs:List (Str × V)} (S:∀ b u,b≠q->H b=some u->H' b=some u) (hq:H q=some (.ins C dq fs)) (hne:v≠.ref q):LDV K Ad H e v->LDV K Ad H' e v:=fun ⟨m,f,i,j,d,c,k,g,l,a⟩=>by
 have T:SameT H H':=fun b u t h=>S b u (fun z=>by rw [z,hq] at h; cases h; simp [isTF] at t) h;exact ⟨m,f,i,j,d,c,S _ _ (fun z=>hne (by rw [c,z])) k,g.sameT T,l.sameT T,S _ _ (fun z=>by rw [z,hq] at a; cases a) a⟩
theorem Same.cutN {H H':Hp} {d:Addr} (S:Same H H') (hd:H d=none):Same H (cut d H'):=fun b u h=>by
 rw [JbH (fun z=>by rw [z,hd] at h; cases h)];exact S b u h
theorem SameT.cutO {H:Hp} {d:Addr} {o:HO} (h:H d=some o) (ho:isTF o=false):SameT H (cut d H):=fun b u t a=>by
 rw [JbH (fun z=>by rw [z,h] at a; cases a; rw [ho] at t; cases t)];exact a
theorem LDV.notin {K:W.Frag} {Ad:Adr} {H:Hp} {es:List LidD} {xs:List V} {a:Addr} {u:HO} (hX:All2 (LDV K Ad H) es xs) (h:H a=some u) (hu:∀ dx fs,u≠.ins Ad.Lid dx fs):V.ref a∉xs:=fun z=>by
 obtain ⟨i,c⟩:=List.getElem?_of_mem z;obtain ⟨e,_,q,dx,g,j,f,b,d,_⟩:=hX.at_ c;have b:a=q:=by injection b
 rw [b,d] at h;exact hu _ _ (Option.some.inj h).symm
theorem LDV.dict {K:W.Frag} {Ad:Adr} {H H0 H':Hp} {e:LidD} {v:V} {d:Addr} {kv:List (Key × V)} (S:∀ b u,b≠d->H b=some u->H' b=some u) (hd:H d=some (.dK kv)) (hn:∀ wd,v=.ref wd->True) (h0:∀ q dx vr vt wd,H q=some (.ins Ad.Lid dx [("name", .str e.nm),("rest",vr),("weights", .ref wd),("load", .int e.load),("last_level",vt)])->v=.ref q->wd≠d):LDV K Ad H e v->LDV K Ad H' e v:=fun ⟨j,dx,vr,vt,wd,c,a,f,g,i⟩=>by
 have T:SameT H H':=fun b u t h=>S b u (fun z=>by rw [z,hd] at h; cases h; simp [isTF] at t) h;exact ⟨j,dx,vr,vt,wd,c,S _ _ (fun z=>by rw [z,hd] at a; cases a) a,f.sameT T,g.sameT T,S _ _ (h0 _ _ _ _ _ a c) i⟩
def ShV (K:W.Frag) (H:Hp) (r:ShD) (v:V):Prop:=∃ p vs t,v=.ref p/\SqT K H p [.str r.nm,vs, .ref t]/\FrV K H vs r.sl.1 r.sl.2/\SqT K H t (match r.sp with | none=>[.str (Str.ofString "most")] | some g=>[.str (Str.ofString "gap"), .str g])
theorem ShV.sameT {K:W.Frag} {H H':Hp} {r:ShD} {v:V} (S:SameT H H'):ShV K H r v->ShV K H' r v:=fun ⟨p,d,t,e,b,a,c⟩=>⟨p,d,t,e,b.sameT S,a.sameT S,c.sameT S⟩
def shD (r:ShD):D:=.tup [.str r.nm,frD r.sl, .tup (match r.sp with | none=>[.str (Str.ofString "most")] | some g=>[.str (Str.ofString "gap"), .str g])]
theorem ShV.rep {K:W.Frag} {H:Hp} {r:ShD} {v:V} (h:ShV K H r v):Rep K H (shD r) v:=by
 obtain ⟨p,d,t,rfl,c,a,b⟩:=h;have a:=FrV.rep a;cases e:r.sp with
 | none=>
  rw [e] at b;unfold shD;rw [e];simp only [Rep,RepL];exact ⟨p,_,rfl,c,_,_,rfl,rfl,_,_,rfl,by simpa only [Rep,RepL,frD] using a,_,_,rfl,⟨t,_,rfl,b,_,_,rfl,rfl,rfl⟩,rfl⟩
 | some g=>
  rw [e] at b;unfold shD;rw [e];simp only [Rep,RepL];exact ⟨p,_,rfl,c,_,_,rfl,rfl,_,_,rfl,by simpa only [Rep,RepL,frD] using a,_,_,rfl,⟨t,_,rfl,b,_,_,rfl,rfl,_,_,rfl,rfl,rfl⟩,rfl⟩
section
variable {P:Program} {w:World} {K:W.Frag} {mg:Str->Option Value} {base:Heap} {Ad:Adr}
seal PE PA PS PSs PT PW PG PGs PI PO
abbrev Bai:Stmt:=top 11
theorem JaR:Jan ["one","other","greater","lesser","rest"] ["one","other"] (Jae Bai):=by bv_decide
def JaE  : Sp:=fun vs H Q E=>∃ (a b:Int),vs=[.int a, .int b]/\Q (.int (Mth.g a b)) H
theorem Jdy (F:FunD K "common_divisor" "common_divisor" Bai dV f fd) (T:Txt K mg Ad)  : FnOk P w K mg base (CX1 P w) 1 f fd ["one","other"] (JaE):=by
 refine F.okn JaR (by subst_eqs) (fun r A d s H n Q E o h=>?_)
 obtain ⟨a,b,rfl,h⟩:=h;have j:=o.units;refine ⟨_,(Jab (Jaj (i:=2) JaR.nd rfl (Or.inl rfl) (Jap Jc8 rfl T.BdP JgO (Jaa (pv 0) Jad)))
   (Jab (Jaj (i:=3) JaR.nd rfl (Or.inl rfl) (Jap Jc8 rfl T.BdP JgO (Jaa (pv 1) Jad)))
   (Jab (JdS PassesOwn.never (Jax (Jce j) (pv 3) Jac (Jaz _))
   (Jab (Jaj (i:=4) JaR.nd rfl (Or.inl rfl) (pe_op JaG (pv 2) (pv 3)))
   (Jab (Jaj (i:=2) JaR.nd rfl (Or.inl rfl) (pv 3))
   (Jah (Jaj (i:=3) JaR.nd rfl (Or.inl rfl) (pv 4))))))
   (Jah (Jaq (pv 2)))))),?_⟩
 clear j;show tSeq _ _ _ [some (.int a),some (.int b),none,none,none] H;try infer_instance
 refine ⟨fun m σ l=>∃ (x y:Int) (z:Option V),σ=[some (.int a),some (.int b),some (.int x),some (.int y),z]/\l=H/\0<=x/\0<=y/\Mth.g x y=Mth.g a b/\y.toNat=m,⟨_,_,_,none,rfl,rfl,Mth.JjF a,Mth.JjF b,Mth.Bd5 a b,rfl⟩,?_⟩;rintro m σ l ⟨x,y,z,rfl,rfl,t,p,k,rfl⟩;try infer_instance
 by_cases c:y=0
 ·subst c;rw [if_neg (by simp)];have e:Mth.g a b=x:=by rw [<- k,Mth.JjL]; ac_nf
  rw [e] at h;exact h
 ·rw [if_pos (by simp [c])];have f:=Mth.fm (x:=x) (y:=y) ∅;exact ⟨_,fun _ _ q=>q,c,(x.fmod y).toNat,by ac_nf,y,x.fmod y,_,rfl,rfl,p,f.1,by rw [Mth.JhZ ∅]; exact k,rfl⟩
abbrev BcZ:Stmt:=top 12
theorem Jfl:Jan ["one","other","shared","top","rest"] ["one","other"] (Jae BcZ):=by bv_decide
def Jfp (K:W.Frag):Sp:=fun vs H Q E=>∃ (x y:V) (a b c d:Int),vs=[x,y]/\FrV K H x a b/\FrV K H y c d/\Mth.Sz 4000 a/\Mth.Sz 4000 b/\Mth.Sz 4000 c/\Mth.Sz 4000 d/\1<=b/\1<=d/\Mth.g a b=1/\Mth.g c d=1/\∀ p H',Same H H'->H' p=some (.tup [.int (Mth.top (a*d+c*b) (b*d)), .int (Mth.bot (a*d+c*b) (b*d))])->Q (.ref p) H'
theorem JkC (F:FunD K "plus" "plus" BcZ dV f fd) (T:Txt K mg Ad) (Bac:Cal P w K mg base 1 "common_divisor" ["one","other"] [] (JaE)):FnOk P w K mg base (CX1 P w) 2 f fd ["one","other"] (Jfp K):=by
 refine F.okn Jfl (by subst_eqs) (fun U A n s H I Q E u h=>?_)
 obtain ⟨x,y,a,b,c,d,rfl,h⟩:=h;refine ⟨_,(Jab (Jaj (i:=2) Jfl.nd rfl (Or.inl rfl) (Bac.ev u ⋯ rfl passF (Jaa (pe_ix ix_U (pv 0) Jac (fun _ _=>rfl)) (Jaa (pe_ix ix_U (pv 1) Jac (fun _ _=>rfl)) Jad)) (he:=by exact Jaf rfl)))
   (Jab (Jaj (i:=3) Jfl.nd rfl (Or.inl rfl) (pe_op JaY (pe_op JaB (pe_ix ix_U (pv 0) Jac (fun _ _=>rfl)) (pe_op Jat (pe_ix ix_U (pv 1) Jac (fun _ _=>rfl)) (pv 2))) (pe_op JaB (pe_ix ix_U (pv 1) Jac (fun _ _=>rfl)) (pe_op Jat (pe_ix ix_U (pv 0) Jac (fun _ _=>rfl)) (pv 2)))))
   (Jab (Jaj (i:=4) Jfl.nd rfl (Or.inl rfl) (Bac.ev u ⋯ rfl passF (Jaa (pv 3) (Jaa (pv 2) Jad)) (he:=by exact Jaf rfl)))
   (Jah (Jaq (JaJ (Jaa (pe_op Jat (pv 3) (pv 4)) (Jaa (pe_op JaB (pe_op Jat (pe_ix ix_U (pv 0) Jac (fun _ _=>rfl)) (pv 2)) (pe_op Jat (pe_ix ix_U (pv 1) Jac (fun _ _=>rfl)) (pv 4))) Jad)))))))),?_⟩
 obtain ⟨j,e,L,B,M,l,D,J,N,V,k⟩:=h;show tSeq _ _ _ [some x,some y,none,none,none] H;try infer_instance
 refine ixF1 j (ixF1 e ?_);try infer_instance
 refine ⟨_,_,rfl,?_⟩;try infer_instance
 have Z:=Mth.g_pos (a:=b) (b:=d) ∅;have X:=Mth.JcA b d;have q:=Mth.JbI b d;have r:Mth.Sz 4000 (Mth.g b d):=Nat.lt_of_le_of_lt (by have:=Mth.g_le (a:=b) (b:=d) ∅; ac_nf:(Mth.g b d).natAbs<=d.natAbs) l;have o:DivOk (Mth.g b d):=divOk ∅ r;have v:=B.fdiv X ∅;have O:=l.fdiv q ∅;refine ixF0 j (ixF1 e ?_);try infer_instance
 refine ⟨o,mulOk L O,ixF0 e (ixF1 j ?_)⟩;try infer_instance
 refine ⟨o,mulOk M v,?_⟩;refine ⟨_,_,rfl,?_⟩;have m:=Mth.JkN D J N V (s:=Mth.g b d) rfl rfl rfl;generalize ht:a*d.fdiv (Mth.g b d)+c*b.fdiv (Mth.g b d)=t at m ⊢;have Y:=Mth.g_pos (a:=t) (b:=Mth.g b d) ∅;have C:=Mth.JbI t (Mth.g b d);have R:Mth.Sz 4000 (Mth.g t (Mth.g b d)):=Nat.lt_of_le_of_lt (by have:=Mth.g_le (a:=t) (b:=Mth.g b d) ∅; ac_nf:(Mth.g t (Mth.g b d)).natAbs<=(Mth.g b d).natAbs) r;have z:DivOk (Mth.g t (Mth.g b d)):=divOk ∅ R;try infer_instance
 refine ⟨z,ixF1 j ?_⟩;try infer_instance
 refine ⟨o,ixF1 e ?_⟩;try infer_instance
 refine ⟨z,mulOk v (l.fdiv (Int.dvd_trans C q) ∅),len2,?_⟩;refine Jd9 fun p W S G=>k p W S ?_;rw [G,m.1,m.2]
abbrev Bcq:Stmt:=top 13
theorem Jjx:Jan ["one","other"] ["one","other"] (Jae Bcq):=by bv_decide
def Jdo (K:W.Frag):Sp:=fun vs H Q E=>∃ (x y:V) (a b c d:Int),vs=[x,y]/\FrV K H x a b/\FrV K H y c d/\Mth.Sz 4000 a/\Mth.Sz 4000 b/\Mth.Sz 4000 c/\Mth.Sz 4000 d/\1<=b/\1<=d/\Mth.g a b=1/\Mth.g c d=1/\∀ p H',Same H H'->H' p=some (.tup [.int (Mth.top (a*d-c*b) (b*d)), .int (Mth.bot (a*d-c*b) (b*d))])->Q (.ref p) H'
theorem Jjf (F:FunD K "minus" "minus" Bcq dV f fd) (T:Txt K mg Ad) (Bc0:Cal P w K mg base 2 "plus" ["one","other"] [] (Jfp K)):FnOk P w K mg base (CX1 P w) 3 f fd ["one","other"] (Jdo K):=by
 refine F.okn Jjx (by subst_eqs) (fun C A e s H m Q E z h=>?_)
 obtain ⟨x,y,a,b,c,d,rfl,h⟩:=h;refine ⟨_,(Jah (Jaq (Bc0.ev z ⋯ rfl passF (Jaa (pv 0) (Jaa (JaJ (Jaa (pe_un Jf5 (pe_ix ix_U (pv 1) Jac (fun _ _=>rfl))) (Jaa (pe_ix ix_U (pv 1) Jac (fun _ _=>rfl)) Jad))) Jad)) (he:=by exact Jaf rfl)))),?_⟩;obtain ⟨D,g,q,i,t,r,l,o,u,I,k⟩:=h;show tRet _ _ [some x,some y] H;try infer_instance
 refine ixF0 g ?_;try infer_instance
 refine ixF1 g ?_;try infer_instance
 refine ⟨len2,?_⟩;rename_i p v B H M S n;refine ⟨_,_,a,b, -c,d,rfl,D.same S,FrV.of n,q,i,t.neg,r,l,o,u,by rw [Mth.g_neg]; exact I,fun j G J L=>k j G (S.trans J) ?_⟩;rw [L,Int.neg_mul, <- Int.sub_eq_add_neg]
abbrev Bcr:Stmt:=top 14
theorem Jfm:Jan ["one","other","across","back"] ["one","other"] (Jae Bcr):=by bv_decide
def Jdp (K:W.Frag):Sp:=fun vs H Q E=>∃ (x y:V) (a b c d:Int),vs=[x,y]/\FrV K H x a b/\FrV K H y c d/\Mth.Sz 4000 a/\Mth.Sz 4000 b/\Mth.Sz 4000 c/\Mth.Sz 4000 d/\1<=b/\1<=d/\Mth.g a b=1/\Mth.g c d=1/\∀ p H',Same H H'->H' p=some (.tup [.int (Mth.top (a*c) (b*d)), .int (Mth.bot (a*c) (b*d))])->Q (.ref p) H'
theorem Jjh (F:FunD K "times" "times" Bcr dV f fd) (T:Txt K mg Ad) (Bac:Cal P w K mg base 1 "common_divisor" ["one","other"] [] (JaE)):FnOk P w K mg base (CX1 P w) 2 f fd ["one","other"] (Jdp K):=by
 refine F.okn Jfm (by subst_eqs) (fun M A l s H C Q E r h=>?_)
 obtain ⟨x,y,a,b,c,d,rfl,h⟩:=h;refine ⟨_,(Jab (Jaj (i:=2) Jfm.nd rfl (Or.inl rfl) (Bac.ev r ⋯ rfl passF (Jaa (pe_ix ix_U (pv 0) Jac (fun _ _=>rfl)) (Jaa (pe_ix ix_U (pv 1) Jac (fun _ _=>rfl)) Jad)) (he:=by exact Jaf rfl)))
   (Jab (Jaj (i:=3) Jfm.nd rfl (Or.inl rfl) (Bac.ev r ⋯ rfl passF (Jaa (pe_ix ix_U (pv 1) Jac (fun _ _=>rfl)) (Jaa (pe_ix ix_U (pv 0) Jac (fun _ _=>rfl)) Jad)) (he:=by exact Jaf rfl)))
   (Jah (Jaq (JaJ (Jaa (pe_op JaB (pe_op Jat (pe_ix ix_U (pv 0) Jac (fun _ _=>rfl)) (pv 2)) (pe_op Jat (pe_ix ix_U (pv 1) Jac (fun _ _=>rfl)) (pv 3))) (Jaa (pe_op JaB (pe_op Jat (pe_ix ix_U (pv 0) Jac (fun _ _=>rfl)) (pv 3)) (pe_op Jat (pe_ix ix_U (pv 1) Jac (fun _ _=>rfl)) (pv 2))) Jad))))))),?_⟩
 obtain ⟨j,e,G,m,I,n,z,D,J,U,k⟩:=h;show tSeq _ _ _ [some x,some y,none,none] H;try infer_instance
 refine ixF0 j (ixF1 e ?_);try infer_instance
 refine ⟨_,_,rfl,?_⟩;refine ixF0 e (ixF1 j ?_);try infer_instance
 refine ⟨_,_,rfl,?_⟩;try infer_instance
 have X:=Mth.g_pos (a:=a) (b:=d) ∅;have Y:=Mth.g_pos (a:=c) (b:=b) ∅;have O:=Mth.JcA a d;have R:=Mth.JbI a d;have W:=Mth.JcA c b;have L:=Mth.JbI c b;have N:Mth.Sz 4000 (Mth.g a d):=Nat.lt_of_le_of_lt (by have:=Mth.g_le (a:=a) (b:=d) ∅; ac_nf:(Mth.g a d).natAbs<=d.natAbs) n;have vl:Mth.Sz 4000 (Mth.g c b):=Nat.lt_of_le_of_lt (by have:=Mth.g_le (a:=c) (b:=b) ∅; ac_nf:(Mth.g c b).natAbs<=b.natAbs) m;have o:DivOk (Mth.g a d):=divOk ∅ N;have t:DivOk (Mth.g c b):=divOk ∅ vl;have q:=Mth.JjA z D J U (u:=Mth.g a d) (v:=Mth.g c b) rfl rfl;refine ixF0 j ?_;try infer_instance
 refine ⟨o,ixF0 e ?_⟩;try infer_instance
 refine ⟨t,mulOk (G.fdiv O ∅) (I.fdiv W ∅),ixF1 j ?_⟩;try infer_instance
 refine ⟨t,ixF1 e ?_⟩;try infer_instance
 refine ⟨o,mulOk (m.fdiv L ∅) (n.fdiv R ∅),len2,?_⟩;refine Jd9 fun p V S B=>k p V S ?_;rw [B,q.1,q.2]
abbrev Bc1:Stmt:=top 15
theorem JkT:Jan ["one","other"] ["one","other"] (Jae Bc1):=by bv_decide
def Jfo (K:W.Frag) (Ad:Adr):Sp:=fun vs H Q E=>∃ (x y:V) (a b c d:Int),vs=[x,y]/\FrV K H x a b/\FrV K H y c d/\Mth.Sz 4000 a/\Mth.Sz 4000 b/\Mth.Sz 4000 c/\Mth.Sz 4000 d/\1<=b/\1<=d/\Mth.g a b=1/\Mth.g c d=1/\(c=0->E (.ref Ad.NoNumber) none H)/\(c≠0->∀ p H',Same H H'->H' p=some (.tup [.int (Mth.top (a*d) (b*c)), .int (Mth.bot (a*d) (b*c))])->Q (.ref p) H')
theorem JkB (F:FunD K "over" "over" Bc1 dV f fd) (T:Txt K mg Ad) (Bbf:Cal P w K mg base 2 "times" ["one","other"] [] (Jdp K)):FnOk P w K mg base (CX1 P w) 3 f fd ["one","other"] (Jfo K Ad):=by
 refine F.okx JkT (fun O H Q E h=>?_) (fun R A r s H O Q E n h=>?_)
 ·obtain ⟨x,y,a,b,c,d,rfl,_⟩:=h; rfl
 obtain ⟨x,y,a,b,c,d,rfl,h⟩:=h;have D:=n.units;refine ⟨_,(Jab (ps_if (Jax (JbP D) (pe_ix ix_U (pv 1) Jac (fun _ _=>rfl)) Jac (Jaz _))
   (Jah (Jb4 PySem.F.excBase_ValueError T.x_NoNumber rfl T.m_NoNumber (Jaa JbQ Jad)))
   JaA)
   (Jab (ps_if (Jax Jdf (pe_ix ix_U (pv 1) Jac (fun _ _=>rfl)) Jac (Jaz _))
   (Jah (Jaq (Bbf.ev n ⋯ rfl pass1 (Jaa (pv 0) (Jaa (JaJ (Jaa (pe_un Jf5 (pe_ix ix_U (pv 1) Jac (fun _ _=>rfl))) (Jaa (pe_un Jf5 (pe_ix ix_U (pv 1) Jac (fun _ _=>rfl))) Jad))) Jad)) (he:=by exact Jaf rfl))))
   JaA)
   (Jah (Jaq (Bbf.ev n ⋯ rfl pass1 (Jaa (pv 0) (Jaa (JaJ (Jaa (pe_ix ix_U (pv 1) Jac (fun _ _=>rfl)) (Jaa (pe_ix ix_U (pv 1) Jac (fun _ _=>rfl)) Jad))) Jad)) (he:=by exact Jaf rfl)))))),?_⟩
 clear D;obtain ⟨M,g,G,B,J,I,C,W,L,N,U,k⟩:=h;show tSeq _ _ _ [some x,some y] H;try infer_instance
 refine ixF0 g ?_;try infer_instance
 by_cases i:c=0
 ·rw [if_pos (by simpa using i)];try infer_instance
  exact ⟨by decide,U i⟩
 ·rw [if_neg (by simpa using i)];refine ixF0 g ?_;try infer_instance
  by_cases q:c<0
  ·rw [if_pos (by simpa using q)];refine ixF1 g ?_;try infer_instance
   refine ixF0 g ?_;try infer_instance
   refine ⟨len2,?_⟩;rename_i p m o H V S l;refine ⟨_,_,a,b, -d, -c,rfl,M.same S,FrV.of l,G,B,I.neg,J.neg,C,by ac_nf,L,by rw [Mth.g_neg,Mth.Jld,Mth.JjK]; exact N,fun j u v z=>k i j u (S.trans v) ?_⟩;have e:=Mth.Jky (t:=a*d) (b:=b*c) (Int.mul_neg_of_pos_of_neg ∅ q);rw [z,Int.mul_neg,Int.mul_neg,e.1,e.2]
  ·rw [if_neg (by simpa using q)];refine ixF1 g ?_;try infer_instance
   refine ixF0 g ?_;try infer_instance
   refine ⟨len2,?_⟩;rename_i p m o H V S l;exact ⟨_,_,a,b,d,c,rfl,M.same S,FrV.of l,G,B,I,J,C,by ac_nf,L,by rw [Mth.JjK]; exact N,fun j u v z=>k i j u (S.trans v) z⟩
abbrev Bcs:Stmt:=top 16
theorem Jjy:Jan ["one","other"] ["one","other"] (Jae Bcs):=by bv_decide
def Jcy (K:W.Frag):Sp:=fun vs H Q E=>∃ (x y:V) (a b c d:Int),vs=[x,y]/\FrV K H x a b/\FrV K H y c d/\Mth.Sz 4000 a/\Mth.Sz 4000 b/\Mth.Sz 4000 c/\Mth.Sz 4000 d/\Q (.bl (decide (a*d<c*b))) H
theorem Jji (F:FunD K "under" "under" Bcs dV f fd) (T:Txt K mg Ad)  : FnOk P w K mg base (CX1 P w) 1 f fd ["one","other"] (Jcy K):=by
 refine F.okn Jjy (by subst_eqs) (fun p A e s H l Q E q h=>?_)
 obtain ⟨x,y,a,b,c,d,rfl,h⟩:=h;refine ⟨_,(Jah (Jaq (Jbf Jdf (pe_op JaB (pe_ix ix_U (pv 0) Jac (fun _ _=>rfl)) (pe_ix ix_U (pv 1) Jac (fun _ _=>rfl))) (pe_op JaB (pe_ix ix_U (pv 1) Jac (fun _ _=>rfl)) (pe_ix ix_U (pv 0) Jac (fun _ _=>rfl))) (Jaz _)))),?_⟩;obtain ⟨i,g,m,j,o,n,k⟩:=h;show tRet _ _ [some x,some y] H;nofun;refine ixF0 i (ixF1 g ?_);nofun;refine ⟨mulOk m n,ixF0 g (ixF1 i ?_)⟩;nofun;exact ⟨mulOk o j,k⟩
abbrev Bbt:Stmt:=top 22
theorem JhA:Jan ["thing"] ["thing"] (Jae Bbt):=by bv_decide
def Jch (K:W.Frag):Sp:=fun vs H Q E=>∃ (x:V) (d:D),vs=[x]/\Rep K H d x/\szD d/\∀ H',Same H H'->Q (.bl (nameB d)) H'
theorem Jhs (F:FunD K "is_name" "is_name" Bbt dV f fd) (T:Txt K mg Ad)  : FnOk P w K mg base (CX1 P w) 1 f fd ["thing"] (Jch K):=by
 refine F.okn JhA (by subst_eqs) (fun D A j s H C Q E M h=>?_)
 obtain ⟨x,d,rfl,h⟩:=h;refine ⟨_,(Jab (ps_if (Jbe (Ja2 (Jap Jau rfl T.Baf JaC (Jaa (pv 0) (Jaa (JbE (v:=.ty "str") rfl T.Bd6 Jk8 rfl) Jad)))))
   (Jah (Jaq pe_bl))
   JaA)
   (Jab (ps_if (PW.pt (pw_or (Jax Jdf (Jap JaP rfl T.Bbe Jbd (Jaa (pv 0) Jad)) Jac (Jaz _)) (JbJ (Jax Jg2 (Jap JaP rfl T.Bbe Jbd (Jaa (pv 0) Jad)) (JcW (v:=.int 8) rfl T.BcW T.BcX) (Jaz _)))))
   (Jah (Jaq pe_bl))
   JaA)
   (Jah (Jaq (Jap (JhL rfl) rfl T.Bd8 Jk6 (Jaa (Jej (own:=["sign"]) (cs:=[]) (cl:=[]) rfl (JlB (pv 0)) (fun _ _ _ _=>(Jar (i:=0) (show [("sign" : Str)].Nodup by decide) rfl (Or.inl rfl))) (fun _ _ _ _=>(Jbf (JjP (K:=K) rfl) (pv 0) (JcW (v:=.str "abcdefghijklmnopqrstuvwxyz") rfl T.BcA T.BcB) (by with_unfolding_all rfl))) rfl ⋯ rfl ⋯ hcl0 (hhas0 ⋯) hcs0) Jad)))))),?_⟩
 obtain ⟨g,q,k⟩:=h;show tSeq _ _ _ [some x] H;nofun;refine ⟨_,g.tyN,?_⟩;by_cases l:∃ z,d=.str z
 ·obtain ⟨z,rfl⟩:=l;simp only [Rep] at g;subst g;simp only [szD] at q;simpa only [tyD]
  (try ((with_reducible refine Nxt.go (by assumption) ?_); nofun))
  have r:z.length<=sizeLine:=Nat.le_trans q ⋯;simp only [nameB,nameS] at k;refine ⟨r,?_⟩;nofun;by_cases N:z.length<1
  ·rw [if_pos (by simp; ac_nf)];nofun;have e:decide (1<=z.length)=false:=by simp; ac_nf
   rw [e] at k;exact k H (.refl H)
  ·rw [if_neg (by simp; ac_nf)];nofun;have e:decide (1<=z.length)=true:=by simp; ac_nf
   rw [e] at k;refine ⟨r,?_⟩;nofun;by_cases J:8<z.length
   ·rw [if_pos (by simp; ac_nf)];nofun;have e:decide (z.length<=8)=false:=by simp; ac_nf
    rw [e] at k;exact k H (.refl H)
   ·rw [if_neg (by simp; ac_nf)];nofun;have e:decide (z.length<=8)=true:=by simp; ac_nf
    rw [e] at k;nofun;simpa only [tComp,iStr];refine ⟨fun i m u n=>n=H/\i<=z.cps.size/\m=z.cps.size-i/\u=(z.cps.toList.take i).map fun c=>V.bl (lowB c),⟨_,rfl,Nat.zero_le _,rfl,by simp⟩,?_⟩;rintro i m u n ⟨rfl,O,rfl,rfl⟩;have R:z.cps.size=z.length:=rfl;refine ⟨by simp; ac_nf,?_⟩;by_cases b:i<z.cps.size
    ·refine .inr ⟨b,?_⟩;rintro x t ⟨rfl,c,G,rfl⟩;simpa only [length_singleton,List.replicate,JaD,map_nil,y5dy,Jhm];refine ⟨_,Nat.sub_lt_sub_left b (Nat.lt_succ_self i),b,rfl,?_⟩;have a:z.cps.toList[i]?=some c:=by simpa using G
     rw [take_succ,a];simp
    ·have o:i=z.cps.size:=by ac_nf
     refine .inl ⟨o,?_⟩;subst o;rw [take_of_length_le (by simp)];rename_i p L U n t S y;refine ⟨p,z.cps.toList.map lowB,rfl,SqL.of (by rw [y,map_map]; rfl),?_⟩;have:=k t S;simpa [List.all_map] using this
 ·have I:nameB d=false:=by cases d <;> first | rfl | exact absurd ⟨_,rfl⟩ l
  rw [I] at k;have B:isiB (tyD d) "str"=false:=by cases d <;> first | rfl | exact absurd ⟨_,rfl⟩ l
  simpa only [B];exact k H (.refl H)
abbrev BaZ:Stmt:=top 23
theorem JgF:Jan ["thing"] ["thing"] (Jae BaZ):=by bv_decide
def Jcs (K:W.Frag):Sp:=fun vs H Q E=>∃ (x:V) (d:D),vs=[x]/\Rep K H d x/\Q (.bl (Jci d)) H
theorem Jgq (F:FunD K "is_whole" "is_whole" BaZ dV f fd) (T:Txt K mg Ad)  : FnOk P w K mg base (CX1 P w) 1 f fd ["thing"] (Jcs K):=by
 refine F.okn JgF (by subst_eqs) (fun g A b s H e Q E i h=>?_)
 obtain ⟨x,d,rfl,h⟩:=h;refine ⟨_,(Jah (Jaq (Jb3 (Jap Jau rfl T.Baf JaC (Jaa (pv 0) (Jaa (JbE (v:=.ty "int") rfl T.BdQ JgP rfl) Jad))) (JcU (Jg6 (Jap Jau rfl T.Baf JaC (Jaa (pv 0) (Jaa (JbE (v:=.ty "bool") rfl T.BdX JhK rfl) Jad)))))))),?_⟩;obtain ⟨c,k⟩:=h;show tRet _ _ [some x] H;nofun;refine ⟨_,c.tyN,?_⟩;have a:=c.tyN;cases d <;> simp only [tyD,Jci,y83y,y4fy,y50y,y51y,y72y,y2by,y6dy,y80y,y81y,y47y,y2ey,y79y,y93y,y30y,y3cy,y73y,y2fy,y89y,y23y,y29y,y7ay,y75y,y2ay,y7by,y77y,y5by,y95y,y26y,y87y,y71y,y6ay,y4cy,y69y,y7ey,y33y,y4ay,y6fy,y4by,y70y,y49y,y6ey,y8ey,y65y,y61y,y90y,y92y,y8fy,y91y,y25y,y68y,y24y,true_and,if_true,if_false,Bool.not_true,Bool.not_false,Bool.false_eq_true,yby,ydy,yay,ycy,yey,y15y,y17y,y14y,y16y,y18y,y6y,y8y,y5y,y7y,y9y,y1y,y3y,y0y,y2y,y4y,y10y,y12y,yfy,y11y,y13y,y1ay,y1cy,y19y,y1by,y1dy,y1fy,y21y,y1ey,y20y,y22y,y85y,y7dy,y74y,y31y,y32y,y55y,y63y,y64y,y4ey,y86y,y8cy,y96y,y7fy,y27y,V.int.injEq,V.str.injEq,List.set_cons_zero,List.set_cons_succ,List.getElem?_cons_zero,List.getElem?_cons_succ,Option.some.injEq,exists_eq_left,exists_eq_left',V.bl.injEq,Int.reduceToNat,Int.reducePow,append_nil,nil_append,cons_append,y57y,y59y,y2cy,y2dy,y6by,y60y,y76y,y66y,y67y,y3dy,y3ey,y3fy,y46y,y48y,y41y,y7cy,y43y,y42y,y34y,y36y,y3ay,y40y,y44y,y52y,y54y,y5cy,y38y,y8by,y88y,y37y,y98y,reduceCtorEq,decide_false,decide_true] at k a ⊢ <;> first | exact k | exact ⟨_,a,by simpa only [y83y,y4fy,y50y,y51y,y72y,y2by,y6dy,y80y,y81y,y47y,y2ey,y79y,y93y,y30y,y3cy,y73y,y2fy,y89y,y23y,y29y,y7ay,y75y,y2ay,y7by,y77y,y5by,y95y,y26y,y87y,y71y,y6ay,y4cy,y69y,y7ey,y33y,y4ay,y6fy,y4by,y70y,y49y,y6ey,y8ey,y65y,y61y,y90y,y92y,y8fy,y91y,y25y,y68y,y24y,true_and,if_true,if_false,Bool.not_true,Bool.not_false,Bool.false_eq_true,yby,ydy,yay,ycy,yey,y15y,y17y,y14y,y16y,y18y,y6y,y8y,y5y,y7y,y9y,y1y,y3y,y0y,y2y,y4y,y10y,y12y,yfy,y11y,y13y,y1ay,y1cy,y19y,y1by,y1dy,y1fy,y21y,y1ey,y20y,y22y,y85y,y7dy,y74y,y31y,y32y,y55y,y63y,y64y,y4ey,y86y,y8cy,y96y,y7fy,y27y,V.int.injEq,V.str.injEq,List.set_cons_zero,List.set_cons_succ,List.getElem?_cons_zero,List.getElem?_cons_succ,Option.some.injEq,exists_eq_left,exists_eq_left',V.bl.injEq,Int.reduceToNat,Int.reducePow,append_nil,nil_append,cons_append,y57y,y59y,y2cy,y2dy,y6by,y60y,y76y,y66y,y67y,y3dy,y3ey,y3fy,y46y,y48y,y41y,y7cy,y43y,y42y,y34y,y36y,y3ay,y40y,y44y,y52y,y54y,y5cy,y38y,y8by,y88y,y37y,y98y,reduceCtorEq,decide_false,decide_true] using k⟩
abbrev Baz:Stmt:=top 24
theorem JeD:Jan ["thing"] ["thing"] (Jae Baz):=by bv_decide
def JbD (K:W.Frag):Sp:=fun vs H Q E=>∃ (x:V) (d:D),vs=[x]/\Rep K H d x/\Q (.bl (fracB d)) H
theorem Jez (F:FunD K "is_fraction" "is_fraction" Baz dV f fd) (T:Txt K mg Ad) (BaR:Cal P w K mg base 1 "is_whole" ["thing"] [] (Jcs K)) (Bac:Cal P w K mg base 1 "common_divisor" ["one","other"] [] (JaE)):FnOk P w K mg base (CX1 P w) 2 f fd ["thing"] (JbD K):=by
 refine F.okn JeD (by subst_eqs) (fun D A u s H C Q E b h=>?_)
 obtain ⟨x,d,rfl,h⟩:=h;have n:=b.units;refine ⟨_,(Jab (ps_if (PW.pt (pw_or (Jbe (Ja2 (Jap Jau rfl T.Baf JaC (Jaa (pv 0) (Jaa (JbE (v:=.ty "tuple") rfl T.Bco JcM rfl) Jad))))) (JbJ (Jax (Jce n) (Jap JaP rfl T.Bbe Jbd (Jaa (pv 0) Jad)) Jac (Jaz _)))))
   (Jah (Jaq pe_bl))
   JaA)
   (Jab (ps_if (PW.pt (pw_or (Jbe (Ja2 (BaR.ev b ⋯ rfl passF (Jaa (pe_ix ix_U (pv 0) Jac (fun _ _=>rfl)) Jad) (he:=by exact Jaf rfl)))) (JbJ (Jbe (Ja2 (BaR.ev b ⋯ rfl passF (Jaa (pe_ix ix_U (pv 0) Jac (fun _ _=>rfl)) Jad) (he:=by exact Jaf rfl)))))))
   (Jah (Jaq pe_bl))
   JaA)
   (Jah (Jaq (Jb3 (Jbf JjO (pe_ix ix_U (pv 0) Jac (fun _ _=>rfl)) Jac (Jaz _)) (JcU (Jbf (JbP n) (Bac.ev b ⋯ rfl passF (Jaa (pe_ix ix_U (pv 0) Jac (fun _ _=>rfl)) (Jaa (pe_ix ix_U (pv 0) Jac (fun _ _=>rfl)) Jad)) (he:=by exact Jaf rfl)) Jac (Jaz _)))))))),?_⟩
 clear n;obtain ⟨t,k⟩:=h;show tSeq _ _ _ [some x] H;nofun;refine ⟨_,t.tyN,?_⟩;by_cases q:∃ m,d=.tup m
 ·obtain ⟨m,rfl⟩:=q;simpa only [tyD]
  (try ((with_reducible refine Nxt.go (by assumption) ?_); nofun))
  simp only [Rep] at t;obtain ⟨a,J,rfl,l,b⟩:=t;have L:=b.length;refine ⟨J, .inr l,?_⟩;nofun;by_cases z:m.length=2
  ·match m,z with
   | [d0,d1],_=>
    simp only [RepL] at b;obtain ⟨I,M,rfl,p,G,N,rfl,r,rfl⟩:=b;simpa only [length_cons,length_nil];rw [if_neg (by simp)];nofun;nofun;refine ixT0 l ?_;refine ⟨I,d0,rfl,p,?_⟩;nofun;by_cases y:Jci d0=true
    ·rw [if_neg (by simp [y])];nofun;refine ixT1 l ?_;refine ⟨G,d1,rfl,r,?_⟩;nofun;by_cases o:Jci d1=true
     ·rw [if_neg (by simp [o])];nofun;obtain ⟨i,rfl⟩:∃ i,d0=.int i:=by cases d0 <;> simp [Jci] at y; exact ⟨_,rfl⟩
      obtain ⟨j,rfl⟩:∃ j,d1=.int j:=by cases d1 <;> simp [Jci] at o; exact ⟨_,rfl⟩
      simp only [Rep] at p r;subst p r;simp only [fracB] at k;nofun;refine ixT1 l ?_;nofun;by_cases c:1<=j
      ·rw [if_pos (by simpa using c)];nofun;refine ixT0 l (ixT1 l ?_);refine ⟨_,_,rfl,?_⟩;nofun;simpa [c] using k
      ·rw [if_neg (by simpa using c)];nofun;simpa [c] using k
     ·rw [if_pos (by simp [o])];nofun;nofun;have g:fracB (.tup [d0,d1])=false:=by cases d0 <;> cases d1 <;> simp_all [fracB,Jci]
      rw [g] at k;exact k
    ·rw [if_pos (by simp [y])];nofun;nofun;have g:fracB (.tup [d0,d1])=false:=by cases d0 <;> cases d1 <;> simp_all [fracB,Jci]
     rw [g] at k;exact k
  ·rw [if_pos (by simp; ac_nf)];nofun;have g:fracB (.tup m)=false:=by
    unfold fracB;split
    ·rename_i e; cases e; simp at z
    ·rfl
   rw [g] at k;exact k
 ·have g:fracB d=false:=by cases d <;> first | rfl | exact absurd ⟨_,rfl⟩ q
  rw [g] at k;have B:isiB (tyD d) "tuple"=false:=by cases d <;> first | rfl | exact absurd ⟨_,rfl⟩ q
  simpa only [B];exact k
abbrev Ba0:Stmt:=top 25
theorem JgE:Jan ["thing"] ["thing"] (Jae Ba0):=by bv_decide
def Jc1 (K:W.Frag):Sp:=fun vs H Q E=>∃ (x:V) (d:D),vs=[x]/\Rep K H d x/\Q (.bl (JcS d)) H
theorem Jgp (F:FunD K "is_bound" "is_bound" Ba0 dV f fd) (T:Txt K mg Ad) (Baq:Cal P w K mg base 2 "is_fraction" ["thing"] [] (JbD K)):FnOk P w K mg base (CX1 P w) 3 f fd ["thing"] (Jc1 K):=by
 refine F.okn JgE (by subst_eqs) (fun i A b s H g Q E e h=>?_)
 obtain ⟨x,d,rfl,h⟩:=h;refine ⟨_,(Jah (Jaq (pe_or (Jbf Jeg (pv 0) JcC (Jaz _)) (JcU (Baq.ev e ⋯ rfl passF (Jaa (pv 0) Jad) (he:=by exact Jaf rfl)))))),?_⟩;obtain ⟨a,k⟩:=h;show tRet _ _ [some x] H;nofun;by_cases c:d=.non
 ·subst c;simp only [Rep] at a;subst a;simpa only [decide_true];exact k
 ·have l:x≠.non:=by
   rintro rfl;cases d <;> simp [Rep] at a
   exact c rfl
  rw [if_neg (by simpa using l)];nofun;have j:JcS d=fracB d:=by cases d <;> first | rfl | exact absurd rfl c
  rw [j] at k;exact ⟨x,d,rfl,a,k⟩
abbrev BaS:Stmt:=top 26
theorem JfZ:Jan ["one","other"] ["one","other"] (Jae BaS):=by bv_decide
def Jb6 (K:W.Frag):Sp:=fun vs H Q E=>∃ (x y:V) (d e:D),vs=[x,y]/\Rep K H d x/\Rep K H e y/\szD d/\szD e/\∀ H',Same H H'->Q (.bl (JcT d e)) H'
theorem JfQ (F:FunD K "are_faces" "are_faces" BaS dV f fd) (T:Txt K mg Ad) (BaE:Cal P w K mg base 1 "is_name" ["thing"] [] (Jch K)):FnOk P w K mg base (CX1 P w) 2 f fd ["one","other"] (Jb6 K):=by
 refine F.okn JfZ (by subst_eqs) (fun v A i s H r Q E g h=>?_)
 obtain ⟨x,y,d,e,rfl,h⟩:=h;have m:=g.units;refine ⟨_,(Jah (Jaq (Jb3 (BaE.ev g ⋯ rfl passF (Jaa (pv 0) Jad) (he:=by exact Jaf rfl)) (Jb3 (BaE.ev g ⋯ rfl passF (Jaa (pv 1) Jad) (he:=by exact Jaf rfl)) (JcU (Jbf (Jce m) (pv 0) (pv 1) (Jaz _))))))),?_⟩;clear m;obtain ⟨o,n,u,t,k⟩:=h;show tRet _ _ [some x,some y] H;nofun;refine ⟨x,d,rfl,o,u,fun B c=>?_⟩;nofun;unfold JcT at k;by_cases a:nameB d=true
 ·rw [if_pos a];nofun;refine ⟨y,e,rfl,n.same c,t,fun p q=>?_⟩;nofun;by_cases b:nameB e=true
  ·rw [if_pos b];nofun;obtain ⟨z,rfl,_⟩:=JeP a;obtain ⟨C,rfl,_⟩:=JeP b;have j:=o.str;have l:=n.str;subst j l;nofun;have:=k p (c.trans q);rw [a,b] at this;simpa [eqD,BEq.beq] using this
  ·rw [if_neg b];nofun;have:=k p (c.trans q);have l:nameB e=false:=by simpa using b
   rw [a,l] at this;exact this
 ·rw [if_neg a];nofun;have:=k B c;have j:nameB d=false:=by simpa using a
  rw [j] at this;exact this
abbrev BaH:Stmt:=top 27
theorem Jfj:Jan ["least","greatest"] ["least","greatest"] (Jae BaH):=by bv_decide
def Jcr (K:W.Frag):Sp:=fun vs H Q E=>∃ (x y:V) (d e:D),vs=[x,y]/\Rep K H d x/\Rep K H e y/\szD d/\szD e/\Q (.bl (JeU d e)) H
theorem Je9 (F:FunD K "are_bounds" "are_bounds" BaH dV f fd) (T:Txt K mg Ad) (Bb3:Cal P w K mg base 3 "is_bound" ["thing"] [] (Jc1 K)) (BaF:Cal P w K mg base 1 "under" ["one","other"] [] (Jcy K)):FnOk P w K mg base (CX1 P w) 4 f fd ["least","greatest"] (Jcr K):=by
 refine F.okn Jfj (by subst_eqs) (fun v A q s H t Q E l h=>?_)
 obtain ⟨x,y,d,e,rfl,h⟩:=h;refine ⟨_,(Jab (ps_if (PW.pt (pw_or (Jbe (Ja2 (Bb3.ev l ⋯ rfl passF (Jaa (pv 0) Jad) (he:=by exact Jaf rfl)))) (JbJ (Jbe (Ja2 (Bb3.ev l ⋯ rfl passF (Jaa (pv 1) Jad) (he:=by exact Jaf rfl)))))))
   (Jah (Jaq pe_bl))
   JaA)
   (Jab (ps_if (PW.pt (pw_or (Jax Jeg (pv 0) JcC (Jaz _)) (JbJ (Jax Jeg (pv 1) JcC (Jaz _)))))
   (Jah (Jaq pe_bl))
   JaA)
   (Jah (Jaq (Jg6 (BaF.ev l ⋯ rfl passF (Jaa (pv 1) (Jaa (pv 0) Jad)) (he:=by exact Jaf rfl))))))),?_⟩
 obtain ⟨p,o,n,m,k⟩:=h;show tSeq _ _ _ [some x,some y] H;nofun;unfold JeU at k;refine ⟨x,d,rfl,p,?_⟩;nofun;by_cases c:JcS d=true
 ·rw [if_neg (by simp [c])];nofun;refine ⟨y,e,rfl,o,?_⟩;nofun;by_cases g:JcS e=true
  ·rw [if_neg (by simp [g])];nofun;simpa only [p.nonV,o.nonV];rw [c,g] at k;by_cases i:d=.non
   ·rw [if_pos (by simp [i,nonD])];nofun;nofun;have : lessD e d=false:=by subst i; unfold lessD; split <;> first | rfl | simp_all
    rw [this] at k;exact k
   ·rw [if_neg (by simp [Jif i])];nofun;by_cases j:e=.non
    ·rw [if_pos (by simp [j,nonD])];nofun;nofun;have : lessD e d=false:=by subst j; rfl
     rw [this] at k;exact k
    ·rw [if_neg (by simp [Jif j])];nofun;nofun;have u:fracB d=true:=by cases d <;> first | exact c | exact absurd rfl i
     have D:fracB e=true:=by cases e <;> first | exact g | exact absurd rfl j
     obtain ⟨a,b,rfl,_,_⟩:=Jds u;obtain ⟨r,B,rfl,_,_⟩:=Jds D;simp only [szD,szL] at n m;refine ⟨y,x,r,B,a,b,rfl,FrV.of_rep o,FrV.of_rep p,m.1,m.2.1,n.1,n.2.1,?_⟩;nofun;simpa [lessD] using k
  ·rw [if_pos (by simp [g])];nofun;nofun;have C:JcS e=false:=by simpa using g
   rw [c,C] at k;exact k
 ·rw [if_pos (by simp [c])];nofun;nofun;have z:JcS d=false:=by simpa using c
  rw [z] at k;exact k
abbrev Bb4:Stmt:=top 28
theorem JiF:Jan ["thing"] ["thing"] (Jae Bb4):=by bv_decide
def Jes (K:W.Frag):Sp:=fun vs H Q E=>∃ (x:V) (d:D),vs=[x]/\Rep K H d x/\szD d/\∀ H',Same H H'->Q (.bl (tieB d)) H'
theorem Jij (F:FunD K "is_tie" "is_tie" Bb4 dV f fd) (T:Txt K mg Ad) (BaE:Cal P w K mg base 1 "is_name" ["thing"] [] (Jch K)) (BaT:Cal P w K mg base 2 "are_faces" ["one","other"] [] (Jb6 K)) (BbU:Cal P w K mg base 4 "are_bounds" ["least","greatest"] [] (Jcr K)):FnOk P w K mg base (CX1 P w) 5 f fd ["thing"] (Jes K):=by
 refine F.okn JiF (by subst_eqs) (fun O A q s H I Q E c h=>?_)
 obtain ⟨x,d,rfl,h⟩:=h;have t:=c.units;refine ⟨_,(Jab (ps_if (PW.pt (pw_or (Jbe (Ja2 (Jap Jau rfl T.Baf JaC (Jaa (pv 0) (Jaa (JbE (v:=.ty "tuple") rfl T.Bco JcM rfl) Jad))))) (JbJ (Jax (Jce t) (Jap JaP rfl T.Bbe Jbd (Jaa (pv 0) Jad)) Jac (Jaz _)))))
   (Jah (Jaq pe_bl))
   JaA)
   (Jah (Jaq (Jb3 (BaE.ev c ⋯ rfl passF (Jaa (pe_ix ix_U (pv 0) Jac (fun _ _=>rfl)) Jad) (he:=by exact Jaf rfl)) (Jb3 (BaT.ev c ⋯ rfl passF (Jaa (pe_ix ix_U (pv 0) Jac (fun _ _=>rfl)) (Jaa (pe_ix ix_U (pv 0) Jac (fun _ _=>rfl)) Jad)) (he:=by exact Jaf rfl)) (JcU (BbU.ev c ⋯ rfl passF (Jaa (pe_ix ix_U (pv 0) Jac (fun _ _=>rfl)) (Jaa (pe_ix ix_U (pv 0) Jac (fun _ _=>rfl)) Jad)) (he:=by exact Jaf rfl)))))))),?_⟩
 clear t;obtain ⟨p,y,k⟩:=h;show tSeq _ _ _ [some x] H;nofun;refine ⟨_,p.tyN,?_⟩;by_cases o:∃ l,d=.tup l
 ·obtain ⟨l,rfl⟩:=o;simpa only [tyD]
  (try ((with_reducible refine Nxt.go (by assumption) ?_); nofun))
  simp only [Rep] at p;obtain ⟨a,xs,rfl,j,c⟩:=p;have hl:=c.length;refine ⟨xs, .inr j,?_⟩;nofun;by_cases u:l.length=5
  ·match l,u with
   | [d0,d1,d2,d3,d4],_=>
    simp only [RepL] at c;obtain ⟨U,r0,rfl,M,v1,r1,rfl,R,J,r2,rfl,B,N,r3,rfl,Y,W,r4,rfl,L,rfl⟩:=c;simp only [szD,szL] at y;obtain ⟨X,Z,G,S,C,_⟩:=y;simp only [tieB] at k;simpa only [length_cons,length_nil];rw [if_neg (by simp)];nofun;nofun;refine ixT (i:=0) j rfl ?_;refine ⟨U,d0,rfl,M,X,fun H1 g=>?_⟩;nofun;by_cases m:nameB d0=true
    ·rw [if_pos m];nofun;rw [m] at k;refine ixT (i:=1) (j.same g) rfl ?_;refine ixT (i:=2) (j.same g) rfl ?_;refine ⟨v1,J,d1,d2,rfl,R.same g,B.same g,Z,G,fun z S2=>?_⟩;nofun;have b:=g.trans S2;by_cases n:JcT d1 d2=true
     ·rw [if_pos n];nofun;rw [n] at k;refine ixT (i:=3) (j.same b) rfl ?_;refine ixT (i:=4) (j.same b) rfl ?_;exact ⟨N,W,d3,d4,rfl,Y.same b,L.same b,S,C,k z b⟩
     ·rw [if_neg n];nofun;have e1:JcT d1 d2=false:=by simpa using n
      rw [e1] at k;exact k z b
    ·rw [if_neg m];nofun;have V:nameB d0=false:=by simpa using m
     rw [V] at k;exact k H1 g
  ·rw [if_pos (by simp; ac_nf)];nofun;have r:tieB (.tup l)=false:=by
    unfold tieB;split
    ·rename_i e; cases e; simp at u
    ·rfl
   rw [r] at k;nofun;exact k H (.refl H)
 ·have r:tieB d=false:=by cases d <;> first | rfl | exact absurd ⟨_,rfl⟩ o
  rw [r] at k;have D:isiB (tyD d) "tuple"=false:=by cases d <;> first | rfl | exact absurd ⟨_,rfl⟩ o
  simpa only [D];exact k H (.refl H)
abbrev Ban:Stmt:=inClass (top 44) 0
theorem JdM:Jan ["self","row"] ["self","row"] (Jae Ban):=by bv_decide
def JbF (K:W.Frag):Sp:=fun vs H Q E=>∃ (x C dx a:Addr) (n st en z m wt:V),vs=[.ref x, .ref a]/\H x=some (.ins C dx [])/\PartC K C/\SqT K H a [n,st,en,z,m,wt]/\∀ H',H' x=some (.ins C dx (partF n st en z m wt))->(∀ b,b≠x->H' b=H b)->Q .non H'
theorem JdK (F:FunD K "__init__" "Part.__init__" Ban dV f fd) (T:Txt K mg Ad)  : FnOk P w K mg base (CX1 P w) 1 f fd ["self","row"] (JbF K):=by
 refine F.okn JdM (by subst_eqs) (fun R A u s H M Q E Y h=>?_)
 obtain ⟨x,C,d,a,n,g,j,z,m,v,rfl,h⟩:=h;refine ⟨_,(Jab (Ja6 (pv 0) (pe_ix ix_U (pv 1) Jac (fun _ _=>rfl)) rfl)
   (Jab (Ja6 (pv 0) (pe_ix ix_U (pv 1) Jac (fun _ _=>rfl)) rfl)
   (Jab (Ja6 (pv 0) (pe_ix ix_U (pv 1) Jac (fun _ _=>rfl)) rfl)
   (Jab (Ja6 (pv 0) (pe_ix ix_U (pv 1) Jac (fun _ _=>rfl)) rfl)
   (Jab (Ja6 (pv 0) (pe_ix ix_U (pv 1) Jac (fun _ _=>rfl)) rfl)
   (Jah (Ja6 (pv 0) (pe_ix ix_U (pv 1) Jac (fun _ _=>rfl)) rfl))))))),?_⟩
 obtain ⟨G,e,t,k⟩:=h;show tSeq _ _ _ [some (.ref x),some (.ref a)] H;exfalso;refine ixT (i:=0) t rfl ?_;exfalso;refine ⟨x,C,d,_,rfl,G,e.cls,e.n1,by simp,?_⟩;have r:=SqT.put (fs':=putF "name" n []) G t;generalize u0:upd H x _=H1 at r ⊢;exfalso;have I:H1 x=some (.ins C d [("name",n)]):=by rw [<- u0]; exact Jak.trans rfl
 have V:∀ b,b≠x->H1 b=H b:=fun b c=>by rw [<- u0,Jag c]
 exfalso;refine ixT (i:=1) r rfl ?_;exfalso;refine ⟨x,C,d,_,rfl,I,e.cls,e.n2,by simp,?_⟩;have p:=SqT.put (fs':=putF "start" g [("name",n)]) I r;generalize u1:upd H1 x _=H2 at p ⊢;exfalso;have J:H2 x=some (.ins C d [("name",n),("start",g)]):=by rw [<- u1]; exact Jak.trans rfl
 have X:∀ b,b≠x->H2 b=H1 b:=fun b c=>by rw [<- u1,Jag c]
 exfalso;refine ixT (i:=2) p rfl ?_;exfalso;refine ⟨x,C,d,_,rfl,J,e.cls,e.n3,by simp,?_⟩;have l:=SqT.put (fs':=putF "end" j [("name",n),("start",g)]) J p;generalize u2:upd H2 x _=H3 at l ⊢;exfalso;have B:H3 x=some (.ins C d [("name",n),("start",g),("end",j)]):=by rw [<- u2]; exact Jak.trans rfl
 have N:∀ b,b≠x->H3 b=H2 b:=fun b c=>by rw [<- u2,Jag c]
 exfalso;refine ixT (i:=3) l rfl ?_;exfalso;refine ⟨x,C,d,_,rfl,B,e.cls,e.n4,by simp,?_⟩;have o:=SqT.put (fs':=putF "size" z [("name",n),("start",g),("end",j)]) B l;generalize u3:upd H3 x _=H4 at o ⊢;exfalso;have L:H4 x=some (.ins C d [("name",n),("start",g),("end",j),("size",z)]):=by rw [<- u3]; exact Jak.trans rfl
 have W:∀ b,b≠x->H4 b=H3 b:=fun b c=>by rw [<- u3,Jag c]
 exfalso;refine ixT (i:=4) o rfl ?_;exfalso;refine ⟨x,C,d,_,rfl,L,e.cls,e.n5,by simp,?_⟩;have q:=SqT.put (fs':=putF "most" m [("name",n),("start",g),("end",j),("size",z)]) L o;generalize u4:upd H4 x _=H5 at q ⊢;exfalso;have D:H5 x=some (.ins C d [("name",n),("start",g),("end",j),("size",z),("most",m)]):=by rw [<- u4]; exact Jak.trans rfl
 have S:∀ b,b≠x->H5 b=H4 b:=fun b c=>by rw [<- u4,Jag c]
 exfalso;refine ixT (i:=5) q rfl ?_;exfalso;refine ⟨x,C,d,_,rfl,D,e.cls,e.n6,by simp,?_⟩;have y:=SqT.put (fs':=putF "weight" v [("name",n),("start",g),("end",j),("size",z),("most",m)]) D q;generalize u5:upd H5 x _=H6 at y ⊢;exfalso;have U:H6 x=some (.ins C d [("name",n),("start",g),("end",j),("size",z),("most",m),("weight",v)]):=by rw [<- u5]; exact Jak.trans rfl
 have O:∀ b,b≠x->H6 b=H5 b:=fun b c=>by rw [<- u5,Jag c]
 exfalso;exact k H6 U fun b c=>by rw [O b c,S b c,W b c,N b c,X b c,V b c]
abbrev BaI:Stmt:=inClass (top 44) 1
theorem Jfh:Jan ["self"] ["self"] (Jae BaI):=by bv_decide
def Jcp (K:W.Frag) (Ad:Adr):Sp:=fun vs H Q E=>∃ (p dx:Addr) (n st en z m wt:V),vs=[.ref p]/\H p=some (.ins Ad.Part dx (partF n st en z m wt))/\∀ q H',Same H H'->H' q=some (.tup [n,st,en,z,m,wt])->Q (.ref q) H'
theorem Je6 (F:FunD K "plain" "Part.plain" BaI dV f fd) (T:Txt K mg Ad)  : FnOk P w K mg base (CX1 P w) 1 f fd ["self"] (Jcp K Ad):=by
 refine F.okn Jfh (by subst_eqs) (fun o A d s H l Q E t h=>?_)
 obtain ⟨p,b,n,j,g,z,m,i,rfl,h⟩:=h;refine ⟨_,(Jah (Jaq (JaJ (Jaa (Jas (pv 0) rfl) (Jaa (Jas (pv 0) rfl) (Jaa (Jas (pv 0) rfl) (Jaa (Jas (pv 0) rfl) (Jaa (Jas (pv 0) rfl) (Jaa (Jas (pv 0) rfl) Jad))))))))),?_⟩;obtain ⟨c,k⟩:=h;have a:=T.BcY Ad.Part rfl;show tRet _ _ [some (.ref p)] H;and_intros;refine ⟨p,_,b,_,n,rfl,c,a.cls,a.n1,rfl,?_⟩;refine ⟨p,_,b,_,j,rfl,c,a.cls,a.n2,rfl,?_⟩;refine ⟨p,_,b,_,g,rfl,c,a.cls,a.n3,rfl,?_⟩;refine ⟨p,_,b,_,z,rfl,c,a.cls,a.n4,rfl,?_⟩;refine ⟨p,_,b,_,m,rfl,c,a.cls,a.n5,rfl,?_⟩;refine ⟨p,_,b,_,i,rfl,c,a.cls,a.n6,rfl,?_⟩;and_intros;refine ⟨by show 6<=sizeLine; decide,?_⟩;exact Jd9 fun q r S e=>k q r S e
abbrev Bar:Stmt:=inClass (top 45) 0
theorem Jem:Jan ["self","row"] ["self","row"] (Jae Bar):=by bv_decide
def JbT (K:W.Frag):Sp:=fun vs H Q E=>∃ (x C dx a:Addr) (n st en l g:V),vs=[.ref x, .ref a]/\H x=some (.ins C dx [])/\GapC K C/\SqT K H a [n,st,en,l,g]/\∀ H',H' x=some (.ins C dx (gapF n st en l g))->(∀ b,b≠x->H' b=H b)->Q .non H'
theorem Jea (F:FunD K "__init__" "Gap.__init__" Bar dV f fd) (T:Txt K mg Ad)  : FnOk P w K mg base (CX1 P w) 1 f fd ["self","row"] (JbT K):=by
 refine F.okn Jem (by subst_eqs) (fun L A v s H I Q E U h=>?_)
 obtain ⟨x,C,d,a,n,j,m,l,g,rfl,h⟩:=h;refine ⟨_,(Jab (Ja6 (pv 0) (pe_ix ix_U (pv 1) Jac (fun _ _=>rfl)) rfl)
   (Jab (Ja6 (pv 0) (pe_ix ix_U (pv 1) Jac (fun _ _=>rfl)) rfl)
   (Jab (Ja6 (pv 0) (pe_ix ix_U (pv 1) Jac (fun _ _=>rfl)) rfl)
   (Jab (Ja6 (pv 0) (pe_ix ix_U (pv 1) Jac (fun _ _=>rfl)) rfl)
   (Jah (Ja6 (pv 0) (pe_ix ix_U (pv 1) Jac (fun _ _=>rfl)) rfl)))))),?_⟩
 obtain ⟨z,e,t,k⟩:=h;show tSeq _ _ _ [some (.ref x),some (.ref a)] H;exfalso;refine ixT (i:=0) t rfl ?_;exfalso;refine ⟨x,C,d,_,rfl,z,e.cls,e.n1,by simp,?_⟩;have r:=SqT.put (fs':=putF "name" n []) z t;generalize u0:upd H x _=H1 at r ⊢;exfalso;have B:H1 x=some (.ins C d [("name",n)]):=by rw [<- u0]; exact Jak.trans rfl
 have O:∀ b,b≠x->H1 b=H b:=fun b c=>by rw [<- u0,Jag c]
 exfalso;refine ixT (i:=1) r rfl ?_;exfalso;refine ⟨x,C,d,_,rfl,B,e.cls,e.n2,by simp,?_⟩;have q:=SqT.put (fs':=putF "one" j [("name",n)]) B r;generalize u1:upd H1 x _=H2 at q ⊢;exfalso;have D:H2 x=some (.ins C d [("name",n),("one",j)]):=by rw [<- u1]; exact Jak.trans rfl
 have S:∀ b,b≠x->H2 b=H1 b:=fun b c=>by rw [<- u1,Jag c]
 exfalso;refine ixT (i:=2) q rfl ?_;exfalso;refine ⟨x,C,d,_,rfl,D,e.cls,e.n3,by simp,?_⟩;have o:=SqT.put (fs':=putF "other" m [("name",n),("one",j)]) D q;generalize u2:upd H2 x _=H3 at o ⊢;exfalso;have y:H3 x=some (.ins C d [("name",n),("one",j),("other",m)]):=by rw [<- u2]; exact Jak.trans rfl
 have J:∀ b,b≠x->H3 b=H2 b:=fun b c=>by rw [<- u2,Jag c]
 exfalso;refine ixT (i:=3) o rfl ?_;exfalso;refine ⟨x,C,d,_,rfl,y,e.cls,e.n4,by simp,?_⟩;have p:=SqT.put (fs':=putF "low" l [("name",n),("one",j),("other",m)]) y o;generalize u3:upd H3 x _=H4 at p ⊢;exfalso;have G:H4 x=some (.ins C d [("name",n),("one",j),("other",m),("low",l)]):=by rw [<- u3]; exact Jak.trans rfl
 have R:∀ b,b≠x->H4 b=H3 b:=fun b c=>by rw [<- u3,Jag c]
 exfalso;refine ixT (i:=4) p rfl ?_;exfalso;refine ⟨x,C,d,_,rfl,G,e.cls,e.n5,by simp,?_⟩;have u:=SqT.put (fs':=putF "high" g [("name",n),("one",j),("other",m),("low",l)]) G p;generalize u4:upd H4 x _=H5 at u ⊢;exfalso;have M:H5 x=some (.ins C d [("name",n),("one",j),("other",m),("low",l),("high",g)]):=by rw [<- u4]; exact Jak.trans rfl
 have N:∀ b,b≠x->H5 b=H4 b:=fun b c=>by rw [<- u4,Jag c]
 exfalso;exact k H5 M fun b c=>by rw [N b c,R b c,J b c,S b c,O b c]
abbrev BaU:Stmt:=inClass (top 45) 1
theorem JfX:Jan ["self"] ["self"] (Jae BaU):=by bv_decide
def JcG (K:W.Frag) (Ad:Adr):Sp:=fun vs H Q E=>∃ (p dx:Addr) (n st en l g:V),vs=[.ref p]/\H p=some (.ins Ad.Gap dx (gapF n st en l g))/\∀ q H',Same H H'->H' q=some (.tup [n,st,en,l,g])->Q (.ref q) H'
theorem JfO (F:FunD K "plain" "Gap.plain" BaU dV f fd) (T:Txt K mg Ad)  : FnOk P w K mg base (CX1 P w) 1 f fd ["self"] (JcG K Ad):=by
 refine F.okn JfX (by subst_eqs) (fun o A d s H m Q E t h=>?_)
 obtain ⟨p,b,n,j,i,l,g,rfl,h⟩:=h;refine ⟨_,(Jah (Jaq (JaJ (Jaa (Jas (pv 0) rfl) (Jaa (Jas (pv 0) rfl) (Jaa (Jas (pv 0) rfl) (Jaa (Jas (pv 0) rfl) (Jaa (Jas (pv 0) rfl) Jad)))))))),?_⟩;obtain ⟨c,k⟩:=h;have a:=T.BdG Ad.Gap rfl;show tRet _ _ [some (.ref p)] H;and_intros;refine ⟨p,_,b,_,n,rfl,c,a.cls,a.n1,rfl,?_⟩;refine ⟨p,_,b,_,j,rfl,c,a.cls,a.n2,rfl,?_⟩;refine ⟨p,_,b,_,i,rfl,c,a.cls,a.n3,rfl,?_⟩;refine ⟨p,_,b,_,l,rfl,c,a.cls,a.n4,rfl,?_⟩;refine ⟨p,_,b,_,g,rfl,c,a.cls,a.n5,rfl,?_⟩;and_intros;refine ⟨by show 5<=sizeLine; decide,?_⟩;exact Jd9 fun q r S e=>k q r S e
abbrev Bbu:Stmt:=top 42
theorem JhB:Jan ["thing"] ["thing"] (Jae Bbu):=by bv_decide
def JdB (K:W.Frag):Sp:=fun vs H Q E=>∃ (x:V) (d:D),vs=[x]/\Rep K H d x/\szD d/\∀ H',Same H H'->Q (.bl (partB d)) H'
theorem Jht (F:FunD K "is_part" "is_part" Bbu dV f fd) (T:Txt K mg Ad) (BaE:Cal P w K mg base 1 "is_name" ["thing"] [] (Jch K)) (BaT:Cal P w K mg base 2 "are_faces" ["one","other"] [] (Jb6 K)) (Baq:Cal P w K mg base 2 "is_fraction" ["thing"] [] (JbD K)) (BaR:Cal P w K mg base 1 "is_whole" ["thing"] [] (Jcs K)) (BaF:Cal P w K mg base 1 "under" ["one","other"] [] (Jcy K)):FnOk P w K mg base (CX1 P w) 5 f fd ["thing"] (JdB K):=by
 refine F.okn JhB (by subst_eqs) (fun a0 A y s H Z Q E c h=>?_)
 obtain ⟨x,d,rfl,h⟩:=h;have J:=c.units;refine ⟨_,(Jab (ps_if (PW.pt (pw_or (Jbe (Ja2 (Jap Jau rfl T.Baf JaC (Jaa (pv 0) (Jaa (JbE (v:=.ty "tuple") rfl T.Bco JcM rfl) Jad))))) (JbJ (Jax (Jce J) (Jap JaP rfl T.Bbe Jbd (Jaa (pv 0) Jad)) Jac (Jaz _)))))
   (Jah (Jaq pe_bl))
   JaA)
   (Jab (ps_if (PW.pt (pw_or (Jbe (Ja2 (BaE.ev c ⋯ rfl passF (Jaa (pe_ix ix_U (pv 0) Jac (fun _ _=>rfl)) Jad) (he:=by exact Jaf rfl)))) (JbJ (Jbe (Ja2 (BaT.ev c ⋯ rfl passF (Jaa (pe_ix ix_U (pv 0) Jac (fun _ _=>rfl)) (Jaa (pe_ix ix_U (pv 0) Jac (fun _ _=>rfl)) Jad)) (he:=by exact Jaf rfl)))))))
   (Jah (Jaq pe_bl))
   JaA)
   (Jab (ps_if (PW.pt (pw_or (Jbe (Ja2 (Baq.ev c ⋯ rfl passF (Jaa (pe_ix ix_U (pv 0) Jac (fun _ _=>rfl)) Jad) (he:=by exact Jaf rfl)))) (pw_or (Jbe (Ja2 (Baq.ev c ⋯ rfl passF (Jaa (pe_ix ix_U (pv 0) Jac (fun _ _=>rfl)) Jad) (he:=by exact Jaf rfl)))) (JbJ (Jbe (Ja2 (BaR.ev c ⋯ rfl passF (Jaa (pe_ix ix_U (pv 0) Jac (fun _ _=>rfl)) Jad) (he:=by exact Jaf rfl))))))))
   (Jah (Jaq pe_bl))
   JaA)
   (Jah (Jaq (Jb3 (Jg6 (BaF.ev c ⋯ rfl passF (Jaa (pe_ix ix_U (pv 0) Jac (fun _ _=>rfl)) (Jaa (JcW (v:=.ref _) rfl T.Bdo T.Bdp) Jad)) (he:=by exact Jaf rfl))) (JcU (Jbf JjO (pe_ix ix_U (pv 0) Jac (fun _ _=>rfl)) Jac (Jaz _))))))))),?_⟩
 clear J;obtain ⟨u,S,k⟩:=h;show tSeq _ _ _ [some x] H;nofun;refine ⟨_,u.tyN,?_⟩;by_cases t:∃ m,d=.tup m
 ·obtain ⟨m,rfl⟩:=t;simpa only [tyD]
  (try ((with_reducible refine Nxt.go (by assumption) ?_); nofun))
  simp only [Rep] at u;obtain ⟨a,xs,rfl,g,c⟩:=u;have hl:=c.length;refine ⟨xs, .inr g,?_⟩;nofun;by_cases G:m.length=6
  ·match m,G with
   | [d0,d1,d2,d3,d4,d5],_=>
    simp only [RepL] at c;obtain ⟨v0,r0,rfl,h0,v1,r1,rfl,h1,v2,r2,rfl,W,v3,r3,rfl,h3,U,r4,rfl,M,L,r5,rfl,N,rfl⟩:=c;simp only [szD,szL] at S;obtain ⟨s0,s1,Y,s3,r,s5,_⟩:=S;simp only [partB] at k;simpa only [length_cons,length_nil];rw [if_neg (by simp)];nofun;nofun;refine ixT (i:=0) g rfl ?_;refine ⟨v0,d0,rfl,h0,s0,fun H1 j=>?_⟩;nofun;by_cases O:nameB d0=true
    ·rw [O] at k ⊢;nofun;refine ixT (i:=1) (g.same j) rfl ?_;refine ixT (i:=2) (g.same j) rfl ?_;refine ⟨v1,v2,d1,d2,rfl,h1.same j,W.same j,s1,Y,fun l S2=>?_⟩;nofun;have b:=j.trans S2;by_cases R:JcT d1 d2=true
     ·rw [R] at k ⊢;nofun;refine ixT (i:=3) (g.same b) rfl ?_;refine ⟨v3,d3,rfl,h3.same b,?_⟩;nofun;by_cases I:fracB d3=true
      ·rw [I] at k ⊢;nofun;refine ixT (i:=4) (g.same b) rfl ?_;refine ⟨U,d4,rfl,M.same b,?_⟩;nofun;by_cases q:fracB d4=true
       ·rw [q] at k ⊢;nofun;refine ixT (i:=5) (g.same b) rfl ?_;refine ⟨L,d5,rfl,N.same b,?_⟩;nofun;by_cases C:Jci d5=true
        ·rw [C] at k ⊢;nofun;obtain ⟨p,o,rfl,_,_⟩:=Jds q;obtain ⟨w,rfl⟩:∃ w,d5=.int w:=by cases d5 <;> first | exact ⟨_,rfl⟩ | simp [Jci] at C
         simp only [szD,szL] at r;have D:L=.int w:=by simpa only [Rep] using N
         subst D;refine ixT (i:=4) (g.same b) rfl ?_;refine ⟨U, .ref Ad.ZERO,p,o,0,1,rfl,FrV.of_rep (M.same b),⟨Ad.ZERO,rfl,T.Bdq _⟩,r.1,r.2.1, .lit ⋯ ⋯, .lit ⋯ ⋯,?_⟩;nofun;by_cases n:p*1<0*o
         ·have B:lessD (.tup [.int p, .int o]) (.tup [.int 0, .int 1])=true:=by simpa [lessD] using n
          rw [B] at k;rw [if_neg (by simpa using n)];nofun;exact k l b
         ·have B:lessD (.tup [.int p, .int o]) (.tup [.int 0, .int 1])=false:=by simpa [lessD] using n
          rw [B] at k;rw [if_pos (by simpa using n)];nofun;refine ixT (i:=5) (g.same b) rfl ?_;nofun;exact k l b
        ·have e5:Jci d5=false:=by simpa using C
         rw [e5] at k ⊢;nofun;exact k l b
       ·have e4:fracB d4=false:=by simpa using q
        rw [e4] at k ⊢;nofun;exact k l b
      ·have V:fracB d3=false:=by simpa using I
       rw [V] at k ⊢;nofun;exact k l b
     ·have e1:JcT d1 d2=false:=by simpa using R
      rw [e1] at k ⊢;nofun;exact k l b
    ·have e0:nameB d0=false:=by simpa using O
     rw [e0] at k ⊢;nofun;exact k H1 j
  ·rw [if_pos (by simp; ac_nf)];nofun;have z:partB (.tup m)=false:=by
    unfold partB;split
    ·rename_i e; cases e; simp at G
    ·rfl
   rw [z] at k;nofun;exact k H (.refl H)
 ·have z:partB d=false:=by cases d <;> first | rfl | exact absurd ⟨_,rfl⟩ t
  rw [z] at k;have X:isiB (tyD d) "tuple"=false:=by cases d <;> first | rfl | exact absurd ⟨_,rfl⟩ t
  simpa only [X];exact k H (.refl H)
abbrev Bb5:Stmt:=top 43
theorem JiE:Jan ["thing"] ["thing"] (Jae Bb5):=by bv_decide
def Jer (K:W.Frag):Sp:=fun vs H Q E=>∃ (x:V) (d:D),vs=[x]/\Rep K H d x/\szD d/\∀ H',Same H H'->Q (.bl (gapB d)) H'
theorem Jii (F:FunD K "is_gap" "is_gap" Bb5 dV f fd) (T:Txt K mg Ad) (Bc3:Cal P w K mg base 5 "is_tie" ["thing"] [] (Jes K)):FnOk P w K mg base (CX1 P w) 6 f fd ["thing"] (Jer K):=by
 refine F.okn JiE (by subst_eqs) (fun z A p s H t Q E u h=>?_)
 obtain ⟨x,d,rfl,h⟩:=h;refine ⟨_,(Jah (Jaq (Jb3 (Bc3.ev u ⋯ rfl passF (Jaa (pv 0) Jad) (he:=by exact Jaf rfl)) (Jb3 (Jbf Jfe (pe_ix ix_U (pv 0) Jac (fun _ _=>rfl)) JcC (Jaz _)) (JcU (Jbf Jfe (pe_ix ix_U (pv 0) Jac (fun _ _=>rfl)) JcC (Jaz _))))))),?_⟩;obtain ⟨o,B,k⟩:=h;show tRet _ _ [some x] H;nofun;refine ⟨x,d,rfl,o,B,fun q j=>?_⟩;nofun;by_cases c:tieB d=true
 ·rw [if_pos c];nofun;obtain ⟨n,s,e,l,g,rfl⟩:∃ n s e l g,d=.tup [n,s,e,l,g]:=by
   unfold tieB at c;split at c
   ·exact ⟨_,_,_,_,_,rfl⟩
   ·cases c
  simp only [Rep,RepL] at o;obtain ⟨a,W,rfl,r,U,I,rfl,N,X,Y,rfl,R,M,J,rfl,G,O,S,rfl,D,V,L,rfl,v,rfl⟩:=o;simp only [gapB] at k;rw [c] at k;refine ixT (i:=3) (r.same j) rfl ?_;simpa only [D.nonV];by_cases m:nonD l=true
  ·rw [m] at k;try rw [m]
   nofun;exact k q j
  ·have b:nonD l=false:=by simpa using m
   rw [b] at k;try rw [b]
   nofun;refine ixT (i:=4) (r.same j) rfl ?_;simpa only [v.nonV];exact k q j
 ·rw [if_neg c];nofun;have C:gapB d=false:=by
   have y:tieB d=false:=by simpa using c
   unfold gapB;split
   ·rw [y]; rfl
   ·rfl
  rw [C] at k;exact k q j
abbrev Bbv:Stmt:=top 46
theorem JhC:Jan ["thing"] ["thing"] (Jae Bbv):=by bv_decide
def JdD (K:W.Frag) (Ad:Adr):Sp:=fun vs H Q E=>∃ (x:V) (e:PD ⊕ D),vs=[x]/\PEV K H e x/\(match e with | .inr _=>∀ H',Same H H'->E (.ref Ad.NoPart) none H' | .inl p=>∀ v H',Same H H'->POV K Ad H' p v->Q v H')
theorem Jhw (F:FunD K "part_of" "part_of" Bbv dV f fd) (T:Txt K mg Ad) (BcO:Cal P w K mg base 5 "is_part" ["thing"] [] (JdB K)) (BdH:KCal P w K mg base 1 "Part" Ad.Part ["self","row"] (JbF K)):FnOk P w K mg base (CX1 P w) 6 f fd ["thing"] (JdD K Ad):=by
 refine F.okx JhC (fun z H Q E h=>?_) (fun C A m s H z Q E n h=>?_)
 ·obtain ⟨x,e,rfl,_⟩:=h; rfl
 obtain ⟨x,e,rfl,h⟩:=h;refine ⟨_,(Jab (ps_if (Jbe (Ja2 (BcO.ev n ⋯ rfl pass1 (Jaa (pv 0) Jad) (he:=by exact Jaf rfl))))
   (Jah (Jb4 PySem.F.excBase_ValueError T.Bca rfl T.BdS (Jaa JbQ Jad)))
   JaA)
   (Jah (Jaq (BdH.ev n ⋯ rfl pass1 (Jaa (pv 0) Jad))))),?_⟩
 obtain ⟨he,k⟩:=h;show tSeq _ _ _ [some x] H;nofun;match e,he,k with
 | .inr c,he,k=>
  refine ⟨x,c,rfl,he.1,he.2.1,fun j a=>?_⟩;rw [he.2.2];nofun;exact ⟨by show 1<=sizeLine; decide,k j a⟩
 | .inl p,he,k=>
  refine ⟨x,pdD p,rfl,he.1.rep,he.2.sz,fun j a=>?_⟩;rw [he.2.part];nofun;obtain ⟨b,t,r,rfl,G,D,v⟩:=he.1;intro y g d l I;have i:Same j (upd (upd j g (.own y)) y (.ins Ad.Part g [])):=fun b u q=>by rw [Jag (Jai q d),Jag (Jai q l)]; exact q
  refine ⟨y,_,g,b,_,_,_,t,r,_,rfl,Jak,T.BcY _ rfl,(G.same a).same i,fun B e o=>⟨rfl,k _ B ?_ ⟨y,g,t,r,rfl,e,?_,?_⟩⟩⟩
  ·exact a.trans fun b u q=>by rw [o b (Jai q d)]; exact i _ _ q
  ·exact D.same (a.trans fun b u q=>by rw [o b (Jai q d)]; exact i _ _ q)
  ·exact v.same (a.trans fun b u q=>by rw [o b (Jai q d)]; exact i _ _ q)
abbrev Bb6:Stmt:=top 47
theorem JiD:Jan ["thing"] ["thing"] (Jae Bb6):=by bv_decide
def Jeq (K:W.Frag) (Ad:Adr):Sp:=fun vs H Q E=>∃ (x:V) (e:GD ⊕ D),vs=[x]/\GEV K H e x/\(match e with | .inr _=>∀ H',Same H H'->E (.ref Ad.NoGap) none H' | .inl g=>∀ v H',Same H H'->GOV K Ad H' g v->Q v H')
theorem Jih (F:FunD K "gap_of" "gap_of" Bb6 dV f fd) (T:Txt K mg Ad) (Bc4:Cal P w K mg base 6 "is_gap" ["thing"] [] (Jer K)) (Bd0:KCal P w K mg base 1 "Gap" Ad.Gap ["self","row"] (JbT K)):FnOk P w K mg base (CX1 P w) 7 f fd ["thing"] (Jeq K Ad):=by
 refine F.okx JiD (fun B H Q E h=>?_) (fun D A p s H B Q E z h=>?_)
 ·obtain ⟨x,e,rfl,_⟩:=h; rfl
 obtain ⟨x,e,rfl,h⟩:=h;refine ⟨_,(Jab (ps_if (Jbe (Ja2 (Bc4.ev z ⋯ rfl pass1 (Jaa (pv 0) Jad) (he:=by exact Jaf rfl))))
   (Jah (Jb4 PySem.F.excBase_ValueError T.BcC rfl T.BdY (Jaa JbQ Jad)))
   JaA)
   (Jah (Jaq (Bd0.ev z ⋯ rfl pass1 (Jaa (pv 0) Jad))))),?_⟩
 obtain ⟨he,k⟩:=h;show tSeq _ _ _ [some x] H;nofun;match e,he,k with
 | .inr c,he,k=>
  refine ⟨x,c,rfl,he.1,he.2.1,fun l a=>?_⟩;rw [he.2.2];nofun;exact ⟨by show 1<=sizeLine; decide,k l a⟩
 | .inl g,he,k=>
  refine ⟨x,tdD g.td,rfl,he.1.rep,he.2.sz,fun l a=>?_⟩;rw [Jlf he.2];nofun;obtain ⟨b,v,t,rfl,G,r,m⟩:=he.1;replace r:FrV K H v g.lo.1 g.lo.2:=r;replace m:FrV K H t g.hi.1 g.hi.2:=m;intro y i d n I;have j:Same l (upd (upd l i (.own y)) y (.ins Ad.Gap i [])):=fun b u q=>by rw [Jag (Jai q d),Jag (Jai q n)]; exact q
  refine ⟨y,_,i,b,_,_,_,v,t,rfl,Jak,T.BdG _ rfl,(G.same a).same j,fun C e o=>⟨rfl,k _ C ?_ ⟨y,i,v,t,rfl,e,?_,?_⟩⟩⟩
  ·exact a.trans fun b u q=>by rw [o b (Jai q d)]; exact j _ _ q
  ·exact r.same (a.trans fun b u q=>by rw [o b (Jai q d)]; exact j _ _ q)
  ·exact m.same (a.trans fun b u q=>by rw [o b (Jai q d)]; exact j _ _ q)
abbrev Bag:Stmt:=inClass (top 48) 0
theorem Jdl:Jan ["self"] ["self"] (Jae Bag):=by bv_decide
def Jbp (K:W.Frag) (Ad:Adr):Sp:=fun vs H Q E=>∃ (x dx:Addr),vs=[.ref x]/\H x=some (.ins Ad.Joints dx [])/\∀ d H',H d=none->d≠x->H' x=some (.ins Ad.Joints dx [("leads", .ref d)])->H' d=some (.dK [])->(∀ b u,b≠x->H b=some u->H' b=some u)->Q .non H'
theorem Jdd (F:FunD K "__init__" "Joints.__init__" Bag dV f fd) (T:Txt K mg Ad)  : FnOk P w K mg base (CX1 P w) 1 f fd ["self"] (Jbp K Ad):=by
 refine F.okn Jdl (by subst_eqs) (fun p A c s H n Q E r h=>?_)
 obtain ⟨x,l,rfl,h⟩:=h;refine ⟨_,(Jah (Ja6 (pv 0) JbA rfl)),?_⟩;obtain ⟨j,k⟩:=h;have e:=T.Bcm _ rfl;show sFld _ _ _ _ _ [some (.ref x)] H;exfalso;rename_i d a o H t i q;exfalso;refine ⟨x,_,l,_,rfl,i _ _ j,e.cls,e.n1,by simp,?_⟩;have g:d≠x:=fun z=>by rw [z,j] at a; cases a
 exact k d _ a g (Jak.trans rfl) (by rw [Jag g]; exact q) fun b u m h=>by rw [Jag m]; exact i _ _ h
abbrev BaA:Stmt:=inClass (top 48) 1
theorem JeB:Jan ["self","part"] ["self","part"] (Jae BaA):=by bv_decide
def Jb9 (K:W.Frag) (Ad:Adr):Sp:=fun vs H Q E=>∃ (j d:Addr) (v:V) (ls:List PD) (p:PD) (H0:Hp),vs=[.ref j,v]/\JK Ad H0 H j d ls/\Same H0 H/\POV K Ad H p v/\p.st≠p.en/\ls.length<=20/\∀ H',Same H0 H'->SameJ d H H'->JK Ad H0 H' j d (ls++[p])->Q .non H'
theorem Jew (F:FunD K "link" "Joints.link" BaA dV f fd) (T:Txt K mg Ad)  : FnOk P w K mg base (CX1 P w) 1 f fd ["self","part"] (Jb9 K Ad):=by
 refine F.okn JeB (by subst_eqs) (fun f5 A f3 s H vs Q E hr h=>?_)
 obtain ⟨j,d,v,ls,p,H0,rfl,h⟩:=h;refine ⟨_,(Jab (Ja9 (pe_bm PySem.F.plainAttrs_list PySem.F.slot_list_append PySem.F.type_list_append Ja7 (Jis (Jas (pv 0) rfl) (Jas (pv 1) rfl) (Ja5 Jad) ⟨rfl,rfl,rfl,rfl⟩) (Jaa (JaJ (Jaa (Jas (pv 1) rfl) (Jaa (JaJ (Jaa (Jas (pv 1) rfl) (Jaa pe_bl Jad))) Jad))) Jad) (hs:=by exact Jaf rfl)))
   (Jah (Ja9 (pe_bm PySem.F.plainAttrs_list PySem.F.slot_list_append PySem.F.type_list_append Ja7 (Jis (Jas (pv 0) rfl) (Jas (pv 1) rfl) (Ja5 Jad) ⟨rfl,rfl,rfl,rfl⟩) (Jaa (JaJ (Jaa (Jas (pv 1) rfl) (Jaa (JaJ (Jaa (Jas (pv 1) rfl) (Jaa pe_bl Jad))) Jad))) Jad) (hs:=by exact Jaf rfl))))),?_⟩
 obtain ⟨⟨⟨dx,c7⟩,c3,x,a0,hk,d6⟩,e4,hv,d5,hl,k⟩:=h;obtain ⟨q,dq,vz,vm,rfl,a4,hz,hm⟩:=hv;have sl:(1000:Nat)<=sizeLine:=by decide
 have jc:=T.Bcm _ rfl;have C:=T.BcY _ rfl;have nj:j≠d:=fun z=>by rw [z,a0] at c7; cases c7
 have nq:q≠d:=fun z=>by rw [z,a0] at a4; cases a4
 have e9:∀ f,(JaF ls f).length<=20:=fun f=>by have:=Je1 ls f; ac_nf
 show tSeq _ _ _ [some (.ref j),some (.ref q)] H;and_intros;obtain ⟨H1,hH⟩:∃ H',H'=H:=⟨_,rfl⟩;subst hH;refine ⟨j,_,dx,_, .ref d,rfl,c7,jc.cls,jc.n1,rfl,?_⟩;and_intros;refine ⟨d,rfl, .inl ⟨x, .inl a0⟩,?_⟩;refine ⟨q,_,dq,_, .str p.st,rfl,a4,C.cls,C.n2,rfl,?_⟩;and_intros;refine ⟨len0,?_⟩;rename_i l1 Z f4 H1 f1 c4 f2;and_intros;refine ⟨x,Sum.inr p.st,c4 _ _ a0,rfl,by ac_nf,fun v hv=>?_,fun hv=>?_⟩
 ·obtain ⟨l,r,d4,d1,a6,c6⟩:∃ l r,v=.ref l/\H0 l=none/\H1 l=some (.lst r)/\All2 (LeV H1) ((JaF ls) p.st) r:=by
   rcases d6.at_ p.st with ⟨h1,_⟩ | ⟨l,r,h1,h2,h3,h4⟩
   ·rw [hv] at h1; cases h1
   ·rw [hv] at h1; cases h1; exact ⟨l,r,rfl,h2,h3,h4⟩
  subst d4;have e8:r.length<=20:=by rw [c6.length]; exact e9 _
  refine ⟨.inl ⟨rfl,_,SqL.of (c4 _ _ a6)⟩,?_⟩;and_intros;have a:=c4 _ _ a4;obtain ⟨b0,U⟩:∃ H',H'=f1:=⟨_,rfl⟩;rw [<- U] at a ⊢;refine ⟨q,_,dq,_, .str p.en,rfl,a,C.cls,C.n3,rfl,?_⟩;and_intros;refine ⟨q,_,dq,_, .str p.nm,rfl,a,C.cls,C.n1,rfl,?_⟩;and_intros;refine ⟨len2,?_⟩;rename_i e3 d7 e7 b0 e5 e0 e6;and_intros;refine ⟨len2,?_⟩;rename_i d2 e1 d9 e5 c0 d0 d8;and_intros;have d3:LeV c0 (p.en,(p.nm,true)) (.ref d2):=⟨d2,e3,rfl,d8,d0 _ _ e6⟩;have I:=e0.trans d0;have i:=I _ _ (by rw [U]; exact c4 _ _ a6:b0 l=some (.lst r));refine ⟨l,r,_,rfl,rfl,i,by ac_nf,?_⟩;generalize u2:upd c0 l _=W;and_intros;have n:Same H1 c0:=fun b u h=>I _ _ (by rw [U]; exact c4 _ _ h);have a1:=(d6.same n).more hv i d3 u2;have a2:SameJ d H1 W:=fun b u _ Y h=>by rw [<- u2,Jag (fun z=>by have:=n _ _ h; rw [z,i] at this; cases this; exact Y _ rfl)]; exact n _ _ h
  have t:W d=some (.dK x):=by rw [<- u2,Jag (fun z=>by have:=n _ _ a0; rw [z,i] at this; cases this)]; exact n _ _ a0
  have b7:Same H0 W:=fun b u h=>by rw [<- u2,Jag (Jai h d1)]; exact n _ _ (e4 _ _ h)
  have a9:=a2 _ _ nj (by intro r z; cases z) c7;have J:=a2 _ _ nq (by intro r z; cases z) a4;have c9:∀ f,(addL (JaF ls) p.st (p.en,(p.nm,true)) f).length<=21:=fun f=>by
   have:=Je1 ls f;unfold addL;split
   ·rw [length_append,length_singleton]; ac_nf
   ·ac_nf
  and_intros;refine ⟨j,_,dx,_, .ref d,rfl,a9,jc.cls,jc.n1,rfl,?_⟩;and_intros;refine ⟨d,rfl, .inl ⟨x, .inl t⟩,?_⟩;refine ⟨q,_,dq,_, .str p.en,rfl,J,C.cls,C.n3,rfl,?_⟩;and_intros;refine ⟨len0,?_⟩;rename_i X m f0 W c5 G e2;and_intros;refine ⟨x,Sum.inr p.en,G _ _ t,rfl,by ac_nf,fun v hv=>?_,fun hv=>?_⟩
  ·obtain ⟨l,r,d4,d1,a6,c6⟩:∃ l r,v=.ref l/\H0 l=none/\W l=some (.lst r)/\All2 (LeV W) ((addL (JaF ls) p.st (p.en,(p.nm,true))) p.en) r:=by
    rcases a1.at_ p.en with ⟨h1,_⟩ | ⟨l,r,h1,h2,h3,h4⟩
    ·rw [hv] at h1; cases h1
    ·rw [hv] at h1; cases h1; exact ⟨l,r,rfl,h2,h3,h4⟩
   subst d4;have e8:r.length<=21:=by rw [c6.length]; exact c9 _
   refine ⟨.inl ⟨rfl,_,SqL.of (G _ _ a6)⟩,?_⟩;and_intros;have a:=G _ _ J;obtain ⟨y,U⟩:∃ H',H'=c5:=⟨_,rfl⟩;rw [<- U] at a ⊢;refine ⟨q,_,dq,_, .str p.st,rfl,a,C.cls,C.n2,rfl,?_⟩;and_intros;refine ⟨q,_,dq,_, .str p.nm,rfl,a,C.cls,C.n1,rfl,?_⟩;and_intros;refine ⟨len2,?_⟩;rename_i c1 b6 b4 y b9 b5 b3;and_intros;refine ⟨len2,?_⟩;rename_i R c2 b2 b9 B L b1;and_intros;have M:LeV B (p.st,(p.nm,false)) (.ref R):=⟨R,c1,rfl,b1,L _ _ b3⟩;have c:=b5.trans L;have i:=c _ _ (by rw [U]; exact G _ _ a6:y l=some (.lst r));refine ⟨l,r,_,rfl,rfl,i,by ac_nf,?_⟩;generalize u3:upd B l _=H3;and_intros;have n:Same W B:=fun b u h=>c _ _ (by rw [U]; exact G _ _ h);have O:=(a1.same n).more hv i M u3;have S:SameJ d W H3:=fun b u _ Y h=>by rw [<- u3,Jag (fun z=>by have:=n _ _ h; rw [z,i] at this; cases this; exact Y _ rfl)]; exact n _ _ h
   have a3:H3 d=some (.dK x):=by rw [<- u3,Jag (fun z=>by have:=n _ _ t; rw [z,i] at this; cases this)]; exact n _ _ t
   have b8:Same H0 H3:=fun b u h=>by rw [<- u3,Jag (Jai h d1)]; exact n _ _ (b7 _ _ h)
   rw [Jc7 d5] at O;refine k H3 b8 (fun b u N Y h=>S b u N Y (a2 b u N Y h)) ⟨⟨dx,S _ _ nj (by intro r z; cases z) a9⟩,c3,_,a3,?_,O⟩;rw [length_append,length_singleton];ac_nf
  ·have a5:H0 X=none:=by
    cases e:H0 X with
    | none=>rfl
    | some o=>rw [b7 _ _ e] at m; cases m
   generalize uc:upd c5 d _=y;and_intros;have nd:X≠d:=fun z=>by rw [z,t] at m; cases m
   have a7:y X=some (.lst []):=by rw [<- uc,Jag nd]; exact e2
   have D:∀ b u,b≠d->W b=some u->y b=some u:=fun b u N h=>by rw [<- uc,Jag N]; exact G _ _ h
   have c8:y d=some (.dK (putK x (Sum.inr p.en) (.ref X))):=by rw [<- uc,Jak]
   refine ⟨.inl ⟨rfl,_,SqL.of a7⟩,?_⟩;and_intros;have a:=D _ _ (fun z=>by rw [z,t] at J; cases J) J;refine ⟨q,_,dq,_, .str p.st,rfl,a,C.cls,C.n2,rfl,?_⟩;and_intros;refine ⟨q,_,dq,_, .str p.nm,rfl,a,C.cls,C.n1,rfl,?_⟩;and_intros;refine ⟨len2,?_⟩;rename_i c1 b6 b4 y b9 b5 b3;and_intros;refine ⟨len2,?_⟩;rename_i R c2 b2 b9 B L b1;and_intros;have M:LeV B (p.st,(p.nm,false)) (.ref R):=⟨R,c1,rfl,b1,L _ _ b3⟩;have c:=b5.trans L;have i:=c _ _ a7;refine ⟨X,[],_,rfl,rfl,i,by show 0<sizeLine; ac_nf,?_⟩;generalize u3:upd B X _=H3;and_intros;have O:=((a1.sx D t).same c).first hv a5 (fun g l' a8 z=>by
    rcases a1.at_ g with ⟨h1,_⟩ | ⟨X,xs2,h1,_,h3,_⟩
    ·rw [a8] at h1; cases h1
    ·rw [a8] at h1; cases h1; rw [z,m] at h3; cases h3) i M u3
   have S:SameJ d W H3:=fun b u N Y h=>by rw [<- u3,Jag (fun z=>by rw [z,m] at h; cases h)]; exact c _ _ (D _ _ N h)
   have a3:=c _ _ c8;rw [show B d=H3 d by rw [<- u3,Jag (Ne.symm nd)]] at a3;have b8:Same H0 H3:=fun b u h=>by rw [<- u3,Jag (Jai h a5)]; exact c _ _ (D _ _ (Jai h c3) (b7 _ _ h))
   have lp:=Jbj x (Sum.inr p.en) (V.ref X);rw [Jc7 d5] at O;refine k H3 b8 (fun b u N Y h=>S b u N Y (a2 b u N Y h)) ⟨⟨dx,S _ _ nj (by intro r z; cases z) a9⟩,c3,_,a3,?_,O⟩;rw [length_append,length_singleton];ac_nf
 ·have a5:H0 l1=none:=by
   cases e:H0 l1 with
   | none=>rfl
   | some o=>rw [e4 _ _ e] at Z; cases Z
  generalize uc:upd f1 d _=b0;and_intros;have nd:l1≠d:=fun z=>by rw [z,a0] at Z; cases Z
  have a7:b0 l1=some (.lst []):=by rw [<- uc,Jag nd]; exact f2
  have D:∀ b u,b≠d->H1 b=some u->b0 b=some u:=fun b u N h=>by rw [<- uc,Jag N]; exact c4 _ _ h
  have c8:b0 d=some (.dK (putK x (Sum.inr p.st) (.ref l1))):=by rw [<- uc,Jak]
  refine ⟨.inl ⟨rfl,_,SqL.of a7⟩,?_⟩;and_intros;have a:=D _ _ (fun z=>by rw [z,a0] at a4; cases a4) a4;refine ⟨q,_,dq,_, .str p.en,rfl,a,C.cls,C.n3,rfl,?_⟩;and_intros;refine ⟨q,_,dq,_, .str p.nm,rfl,a,C.cls,C.n1,rfl,?_⟩;and_intros;refine ⟨len2,?_⟩;rename_i e3 d7 e7 b0 e5 e0 e6;and_intros;refine ⟨len2,?_⟩;rename_i d2 e1 d9 e5 c0 d0 d8;and_intros;have d3:LeV c0 (p.en,(p.nm,true)) (.ref d2):=⟨d2,e3,rfl,d8,d0 _ _ e6⟩;have I:=e0.trans d0;have i:=I _ _ a7;refine ⟨l1,[],_,rfl,rfl,i,by show 0<sizeLine; ac_nf,?_⟩;generalize u2:upd c0 l1 _=W;and_intros;have a1:=((d6.sx D a0).same I).first hv a5 (fun g l' a8 z=>by
   rcases d6.at_ g with ⟨h1,_⟩ | ⟨X,xs2,h1,_,h3,_⟩
   ·rw [a8] at h1; cases h1
   ·rw [a8] at h1; cases h1; rw [z,Z] at h3; cases h3) i d3 u2
  have a2:SameJ d H1 W:=fun b u N Y h=>by rw [<- u2,Jag (fun z=>by rw [z,Z] at h; cases h)]; exact I _ _ (D _ _ N h)
  have t:=I _ _ c8;rw [show c0 d=W d by rw [<- u2,Jag (Ne.symm nd)]] at t;have b7:Same H0 W:=fun b u h=>by rw [<- u2,Jag (Jai h a5)]; exact I _ _ (D _ _ (Jai h c3) (e4 _ _ h))
  have lp:=Jbj x (Sum.inr p.st) (V.ref l1);have a9:=a2 _ _ nj (by intro r z; cases z) c7;have J:=a2 _ _ nq (by intro r z; cases z) a4;have c9:∀ f,(addL (JaF ls) p.st (p.en,(p.nm,true)) f).length<=21:=fun f=>by
   have:=Je1 ls f;unfold addL;split
   ·rw [length_append,length_singleton]; ac_nf
   ·ac_nf
  and_intros;refine ⟨j,_,dx,_, .ref d,rfl,a9,jc.cls,jc.n1,rfl,?_⟩;and_intros;refine ⟨d,rfl, .inl ⟨(putK x (Sum.inr p.st) (V.ref l1)), .inl t⟩,?_⟩;refine ⟨q,_,dq,_, .str p.en,rfl,J,C.cls,C.n3,rfl,?_⟩;and_intros;refine ⟨len0,?_⟩;rename_i X m f0 W c5 G e2;and_intros;refine ⟨(putK x (Sum.inr p.st) (V.ref l1)),Sum.inr p.en,G _ _ t,rfl,by ac_nf,fun v hv=>?_,fun hv=>?_⟩
  ·obtain ⟨l,r,d4,d1,a6,c6⟩:∃ l r,v=.ref l/\H0 l=none/\W l=some (.lst r)/\All2 (LeV W) ((addL (JaF ls) p.st (p.en,(p.nm,true))) p.en) r:=by
    rcases a1.at_ p.en with ⟨h1,_⟩ | ⟨l,r,h1,h2,h3,h4⟩
    ·rw [hv] at h1; cases h1
    ·rw [hv] at h1; cases h1; exact ⟨l,r,rfl,h2,h3,h4⟩
   subst d4;have e8:r.length<=21:=by rw [c6.length]; exact c9 _
   refine ⟨.inl ⟨rfl,_,SqL.of (G _ _ a6)⟩,?_⟩;and_intros;have a:=G _ _ J;obtain ⟨y,U⟩:∃ H',H'=c5:=⟨_,rfl⟩;rw [<- U] at a ⊢;refine ⟨q,_,dq,_, .str p.st,rfl,a,C.cls,C.n2,rfl,?_⟩;and_intros;refine ⟨q,_,dq,_, .str p.nm,rfl,a,C.cls,C.n1,rfl,?_⟩;and_intros;refine ⟨len2,?_⟩;rename_i c1 b6 b4 y b9 b5 b3;and_intros;refine ⟨len2,?_⟩;rename_i R c2 b2 b9 B L b1;and_intros;have M:LeV B (p.st,(p.nm,false)) (.ref R):=⟨R,c1,rfl,b1,L _ _ b3⟩;have c:=b5.trans L;have i:=c _ _ (by rw [U]; exact G _ _ a6:y l=some (.lst r));refine ⟨l,r,_,rfl,rfl,i,by ac_nf,?_⟩;generalize u3:upd B l _=H3;and_intros;have n:Same W B:=fun b u h=>c _ _ (by rw [U]; exact G _ _ h);have O:=(a1.same n).more hv i M u3;have S:SameJ d W H3:=fun b u _ Y h=>by rw [<- u3,Jag (fun z=>by have:=n _ _ h; rw [z,i] at this; cases this; exact Y _ rfl)]; exact n _ _ h
   have a3:H3 d=some (.dK (putK x (Sum.inr p.st) (V.ref l1))):=by rw [<- u3,Jag (fun z=>by have:=n _ _ t; rw [z,i] at this; cases this)]; exact n _ _ t
   have b8:Same H0 H3:=fun b u h=>by rw [<- u3,Jag (Jai h d1)]; exact n _ _ (b7 _ _ h)
   rw [Jc7 d5] at O;refine k H3 b8 (fun b u N Y h=>S b u N Y (a2 b u N Y h)) ⟨⟨dx,S _ _ nj (by intro r z; cases z) a9⟩,c3,_,a3,?_,O⟩;rw [length_append,length_singleton];ac_nf
  ·have a5:H0 X=none:=by
    cases e:H0 X with
    | none=>rfl
    | some o=>rw [b7 _ _ e] at m; cases m
   generalize uc:upd c5 d _=y;and_intros;have nd:X≠d:=fun z=>by rw [z,t] at m; cases m
   have a7:y X=some (.lst []):=by rw [<- uc,Jag nd]; exact e2
   have D:∀ b u,b≠d->W b=some u->y b=some u:=fun b u N h=>by rw [<- uc,Jag N]; exact G _ _ h
   have c8:y d=some (.dK (putK (putK x (Sum.inr p.st) (V.ref l1)) (Sum.inr p.en) (.ref X))):=by rw [<- uc,Jak]
   refine ⟨.inl ⟨rfl,_,SqL.of a7⟩,?_⟩;and_intros;have a:=D _ _ (fun z=>by rw [z,t] at J; cases J) J;refine ⟨q,_,dq,_, .str p.st,rfl,a,C.cls,C.n2,rfl,?_⟩;and_intros;refine ⟨q,_,dq,_, .str p.nm,rfl,a,C.cls,C.n1,rfl,?_⟩;and_intros;refine ⟨len2,?_⟩;rename_i c1 b6 b4 y b9 b5 b3;and_intros;refine ⟨len2,?_⟩;rename_i R c2 b2 b9 B L b1;and_intros;have M:LeV B (p.st,(p.nm,false)) (.ref R):=⟨R,c1,rfl,b1,L _ _ b3⟩;have c:=b5.trans L;have i:=c _ _ a7;refine ⟨X,[],_,rfl,rfl,i,by show 0<sizeLine; ac_nf,?_⟩;generalize u3:upd B X _=H3;and_intros;have O:=((a1.sx D t).same c).first hv a5 (fun g l' a8 z=>by
    rcases a1.at_ g with ⟨h1,_⟩ | ⟨X,xs2,h1,_,h3,_⟩
    ·rw [a8] at h1; cases h1
    ·rw [a8] at h1; cases h1; rw [z,m] at h3; cases h3) i M u3
   have S:SameJ d W H3:=fun b u N Y h=>by rw [<- u3,Jag (fun z=>by rw [z,m] at h; cases h)]; exact c _ _ (D _ _ N h)
   have a3:=c _ _ c8;rw [show B d=H3 d by rw [<- u3,Jag (Ne.symm nd)]] at a3;have b8:Same H0 H3:=fun b u h=>by rw [<- u3,Jag (Jai h a5)]; exact c _ _ (D _ _ (Jai h c3) (b7 _ _ h))
   have lp:=Jbj (putK x (Sum.inr p.st) (V.ref l1)) (Sum.inr p.en) (V.ref X);rw [Jc7 d5] at O;refine k H3 b8 (fun b u N Y h=>S b u N Y (a2 b u N Y h)) ⟨⟨dx,S _ _ nj (by intro r z; cases z) a9⟩,c3,_,a3,?_,O⟩;rw [length_append,length_singleton];ac_nf
abbrev Bad:Stmt:=inClass (top 48) 2
theorem JaL:Jan ["self","one","other","found","waiting","face","lead"] ["self","one","other"] (Jae Bad):=by bv_decide
def Jbb (K:W.Frag) (Ad:Adr):Sp:=fun vs H Q E=>∃ (j d:Addr) (one other:Str) (ls:List PD) (H0:Hp),vs=[.ref j, .str one, .str other]/\JK Ad H0 H j d ls/\ls.length<=20/\(ls.map (·.nm)).Nodup/\(¬ Conn ls one other->∀ H',Same H H'->Q .non H')/\(∀ w l xs H',Same H H'->H l=none->H' l=some (.lst xs)->All2 (CV H') w xs->Jbk ls one w other->(w.map (·.1)).Nodup->Q (.ref l) H')
theorem JcE (F:FunD K "way_between" "Joints.way_between" Bad dV f fd) (T:Txt K mg Ad)  : FnOk P w K mg base (CX1 P w) 1 f fd ["self","one","other"] (Jbb K Ad):=by
 refine F.okn JaL (by subst_eqs) (fun i9 A g9 s H vs Q E hr h=>?_)
 obtain ⟨j,d,one,other,N,H0,rfl,h⟩:=h;have hu:=hr.units;refine ⟨_,(Jab (Jaj (i:=3) JaL.nd rfl (Or.inl rfl) (JkJ (Jjq (pv 1) (Ja5 Jad) JkO) rfl rfl (by simp) ⋯))
   (Jab (Jaj (i:=4) JaL.nd rfl (Or.inl rfl) (Ja5 (Jaa (pv 1) Jad)))
   (Jab (JdS PassesOwn.never (Jax Jg2 (Jap JaP rfl T.Bbe Jbd (Jaa (pv 4) Jad)) Jac (Jaz _))
   (Jab (Jaj (i:=5) JaL.nd rfl (Or.inl rfl) (JjQ PySem.F.plainAttrs_list PySem.F.slot_list_pop PySem.F.type_list_pop Jlq (pv 4)))
   (Jah (Ja1 PassesOwn.never rfl (pi_U (Jjo (hu1 hu) (Jas (pv 0) rfl) (pv 5) (Ja5 Jad) ⟨rfl,rfl,rfl,rfl⟩)) (Jar (i:=6) JaL.nd rfl (Or.inl rfl))
   (Jah (ps_if (Jel (Jdh (hu1 hu) (pe_ix ix_U (pv 6) Jac (fun _ _=>rfl)) (pv 3)) (by with_unfolding_all rfl))
   (Jab (JbR (hu1 hu) (pv 3) (pe_ix ix_U (pv 6) Jac (fun _ _=>rfl)) (pe_op JaY (Ja0 (hu1 hu) (pv 3) (pv 5) (fun _ _=>rfl)) (Ja5 (Jaa (pe_ix ix_U (pv 6) Jac (fun _ _=>rfl)) Jad))) rfl)
   (Jah (Ja9 (pe_bm PySem.F.plainAttrs_list PySem.F.slot_list_append PySem.F.type_list_append Ja7 (pv 4) (Jaa (pe_ix ix_U (pv 6) Jac (fun _ _=>rfl)) Jad) (hs:=by exact Jaf rfl)))))
   JaA))))))
   (Jah (Jaq (Jjn (hu1 hu) (pv 3) (pv 2) ⟨rfl,rfl,rfl,rfl⟩)))))),?_⟩
 clear hu;obtain ⟨⟨⟨dx,hj⟩,j3,b8,hd,hk,hJ⟩,hl,g7,k1,k2⟩:=h;have sl:(1000:Nat)<=sizeLine:=by decide
 have jc:=T.Bcm _ rfl;show tSeq _ _ _ [some (.ref j),some (.str one),some (.str other),none,none,none,none] H;and_intros;rename_i fd b0 h0 H H1 S1 e1;and_intros;refine ⟨len0,?_⟩;rename_i l0 M h9 H1 H2 S2 e2;and_intros;refine ⟨S2 _ _ e1,[(Sum.inr one, .ref l0)],rfl,by show 1<=15; ac_nf,?_⟩;generalize u3:upd H2 fd _=H3;and_intros;have e3:H3 fd=some (.dK [(Sum.inr one, .ref l0)]):=by rw [<- u3]; exact Jak.trans rfl
 have f4:l0≠fd:=fun z=>by rw [z,e1] at M; cases M
 have c3:H3 l0=some (.lst []):=by rw [<- u3,Jag f4]; exact e2
 have c4:Same H H3:=fun b u h=>by rw [<- u3,Jag (Jai h b0)]; exact S2 _ _ (S1 _ _ h)
 have g2:H l0=none:=by
  cases e:H l0 with
  | none=>rfl
  | some o=>rw [S1 _ _ e] at M; cases M
 refine ⟨by show 1<=sizeLine; ac_nf,?_⟩;rename_i I G i0 H3 H4 S4 e4;and_intros;have b4:H I=none:=by
  cases e:H I with
  | none=>rfl
  | some o=>rw [c4 _ _ e] at G; cases G
 have g6:l0≠I:=fun z=>by rw [<- z,c3] at G; cases G
 have i7:fd≠I:=fun z=>by rw [<- z,e3] at G; cases G
 have f2:Srch H N one fd I H4 [(one,[])] [one]:=⟨c4.trans S4,⟨_,S4 _ _ e3,rfl, .ref l0,[],rfl,⟨l0,[],rfl,g2,g6,S4 _ _ c3,rfl⟩,rfl⟩,by simp,by simp,fun a J=>by rw [mem_singleton.mp J]; exact .nil,e4,by simp,by simp,fun a J=>by rw [mem_singleton.mp J]; simp⟩;refine ⟨fun m σ H'=>∃ (v5 v6:Option V) (ws:List (Str × List Pr)) (wt:List Str),σ=[some (.ref j),some (.str one),some (.str other),some (.ref fd),some (.ref I),v5,v6]/\Srch H N one fd I H' ws wt/\(∀ a∈ws,a.1∉wt->∀ e∈JaF N a.1,e.1∈ws.map (·.1))/\m=2*(41-ws.length)+wt.length/\m<=81,⟨_,none,none,[(one,[])],[one],rfl,f2,fun a J Z=>absurd (by rw [mem_singleton.mp J]; simp) Z,rfl,by simp⟩,?_⟩;rintro m σ H5 ⟨v5,v6,ws,wt,rfl,S,cl,rfl,b2⟩;and_intros;refine ⟨_, .inl (SqL.of S.wait),?_⟩;and_intros;rcases List.eq_nil_or_concat wt with rfl | ⟨wt',face,rfl⟩
 ·rw [if_neg (by simp)];and_intros;obtain ⟨f8,d4,g8⟩:=S.dict;and_intros;refine ⟨fd,rfl, .inl ⟨f8, .inl d4⟩,_,DGet.k (k:=Sum.inr other) d4,?_⟩;rcases g8.get (z:=other) with ⟨a,v,R,h2,h3,l,xs,rfl,h4,_,h5,h6⟩ | ⟨R,h2⟩
  ·rw [h3];exact k2 a.2 l xs H5 S.same h4 h5 h6 (by rw [<- h2]; exact S.walk a R) (S.sim a R).1
  ·rw [h2];refine k1 (fun hc=>R (Jke S.here (fun f hf e he=>?_) hc)) H5 S.same;obtain ⟨a,J,rfl⟩:=mem_map.mp hf;exact cl a J (by simp) e he
 ·rw [if_pos (by simp)];and_intros;rw [List.concat_eq_append] at S cl b2 ⊢;refine ⟨_,fun _ _ q=>q,?_⟩;and_intros;refine ⟨.inl ⟨rfl,_,SqL.of S.wait⟩,?_⟩;refine ⟨I,_, .str face,rfl,rfl,S.wait,by simp,?_⟩;generalize u6:upd H5 I _=H6;and_intros;have ed:((wt'++[face]).map V.str).dropLast=wt'.map V.str:=by simp
  rw [ed] at u6;have a9:Srch H N one fd I H6 ws wt':=S.wait' b4 u6 fun f hf=>S.sub f (by simp [hf]);have b5:=S.sub face (by simp);and_intros;refine ⟨j,_,dx,_, .ref d,rfl,a9.same _ _ hj,jc.cls,jc.n1,rfl,?_⟩;and_intros;refine ⟨d,rfl, .inl ⟨b8, .inl (a9.same _ _ hd)⟩,len0,?_⟩;rename_i le d0 i2 H6 H7 S7 e7;and_intros;have a1:=a9.grow S7;have g5:le≠I:=fun z=>by have:=a9.wait; rw [<- z,d0] at this; cases this
  refine ⟨_,DGet.k (k:=Sum.inr face) (a1.same _ _ hd),?_⟩;obtain ⟨la,xs,e6,b6,d5,g4⟩:∃ la xs,(valV b8 (Sum.inr face)).getD (.ref le)=.ref la/\H7 la=some (.lst xs)/\All2 (LeV H7) (JaF N face) xs/\la≠I:=by
   rcases hJ.at_ face with ⟨R,h2⟩ | ⟨l,xs,R,h2,h3,h4⟩
   ·exact ⟨le,[],by rw [R]; rfl,e7,by rw [h2]; rfl,g5⟩
   ·exact ⟨l,xs,by rw [R]; rfl,a1.same _ _ h3,h4.mono fun _ _ z=>z.sameT a1.same.t,Jai h3 b4⟩
  have lx:=d5.length;have j1:=a1.len hl;refine ⟨la,e6,ForA.byL (xs:=xs) (SqL.of b6) (fun i σ H'=>i<=xs.length/\∃ (v6:Option V) (r:List (Str × List Pr)) (B:List Str),σ=[some (.ref j),some (.str one),some (.str other),some (.ref fd),some (.ref I),some (.str face),v6]/\Srch H N one fd I H' r B/\H' la=some (.lst xs)/\SameT H7 H'/\(∀ a∈r,a.1∉B->a.1≠face->∀ e∈JaF N a.1,e.1∈r.map (·.1))/\(∀ e∈(JaF N face).take i,e.1∈r.map (·.1))/\face∈r.map (·.1)/\2*(41-r.length)+B.length<=2*(41-ws.length)+wt'.length) ⟨Nat.zero_le _,v6,ws,wt',rfl,a1,b6,SameT.refl _,fun a J R h2=>cl a J (by simp [R,h2]),by simp,b5,Nat.le_refl _⟩ (fun i σ H' z=>by obtain ⟨_,_,_,_,_,_,z,_⟩:=z; exact SqL.of z) ?_ ?_⟩
  ·rintro i y σ H8 hy ⟨hi,v6,r,B,rfl,C,W,U,a8,a2,a0,c9⟩;have li:i<xs.length:=(List.getElem?_eq_some_iff.mp hy).1;obtain ⟨e,he,b,c,rfl,d7,d9⟩:=d5.at_ hy;have a4:=U _ _ rfl d7;have e5:=U _ _ rfl d9;have c6:(JaF N face).take (i+1)=(JaF N face).take i++[e]:=by rw [take_succ,he]; rfl
   have c8:e∈JaF N face:=List.mem_of_getElem? he;obtain ⟨i3,a3,a7⟩:=C.dict;and_intros;refine ixT (i:=0) (SqT.of a4) rfl ?_;refine ⟨fd,_,rfl,DGet.k (k:=Sum.inr e.1) a3,?_⟩;rw [a7.val];by_cases O:e.1∈r.map (·.1)
   ·rw [decide_eq_true O];and_intros;refine ⟨li,_,r,B,rfl,C,W,U,a8,fun e' L=>?_,a0,c9⟩;rw [c6] at L;rcases mem_append.mp L with h' | h'
    ·exact a2 e' h'
    ·rw [mem_singleton.mp h'];exact O
   ·rw [decide_eq_false O];and_intros;obtain ⟨a,v,J,f1,hv,l,xw,rfl,j0,i8,d6,d1⟩:=a7.some a0;have i4:=C.lw a J;have i6:=C.len hl;have j2:=d1.length;refine ⟨fd, .ref l,rfl,by rw [<- hv]; exact DGet.k (k:=Sum.inr face) a3,?_⟩;refine ixT (i:=1) (SqT.of a4) rfl ?_;refine ⟨by show 1<=sizeLine; ac_nf,?_⟩;rename_i ln h8 i1 H8 H9 S9 e9;and_intros;refine .inl ⟨l,ln,xw,_,rfl,rfl,S9 _ _ d6,e9,by simp; ac_nf,?_⟩;rename_i lr X h7 H9 Y e0 e8;and_intros;and_intros;have n:=S9.trans e0;have b7:=C.grow n;refine ixT (i:=0) (SqT.of (n _ _ a4)) rfl ?_;have lk:=a7.length;refine ⟨fd,_,rfl,DPut.k (k:=Sum.inr e.1) (n _ _ a3) ∅,?_⟩;generalize b3:upd Y fd _=a5;and_intros;have n0:H lr=none:=by
     cases e:H lr with
     | none=>rfl
     | some o=>rw [S9 _ _ (C.same _ _ e)] at X; cases X
    have g0:lr≠I:=fun z=>by have:=(C.grow S9).wait; rw [<- z,X] at this; cases this
    have f7:Jbk N one (a.2++[e.2]) e.1:=.snoc (by rw [<- f1]; exact C.walk a J) c8;have b1:=n _ _ a3;have c1:=a7.mono (P':=PWy H Y I) fun a v ⟨l,xs,e1,Z,f3,hx,J⟩=>⟨l,xs,e1,Z,f3,n _ _ hx,J.mono fun _ _ z=>z.sameT n.t⟩;have cv:CV Y e.2 (.ref c):=⟨c,rfl,n _ _ e5⟩;obtain ⟨pp,c2,c5⟩:=(Jbl (g:=e.1) (pr:=e.2)).mp c8;have c0:e.2.1=pp.nm:=by rcases c5 with h | h; rw [h.2.2]; rw [h.2.2.2]
    have d2:(pp.st=face/\pp.en=e.1)\/(pp.en=face/\pp.st=e.1):=by rcases c5 with h | h; exact .inl ⟨h.1,h.2.1⟩; exact .inr ⟨h.2.1,h.2.2.1⟩
    have f0:((a.2++[e.2]).map (·.1)).Nodup/\∀ p∈N,p.nm∈(a.2++[e.2]).map (·.1)->p.st∈(r++[(e.1,a.2++[e.2])]).map (·.1)/\p.en∈(r++[(e.1,a.2++[e.2])]).map (·.1):=by
     have sm:=C.sim a J;have f6:e.2.1∉a.2.map (·.1):=fun z=>by
      have:=sm.2 pp c2 (c0 ▸ z);rcases d2 with h | h
      ·exact O (h.2 ▸ this.2)
      ·exact O (h.2 ▸ this.1)
     rw [map_append,map_append,map_cons,map_nil,map_cons,map_nil];refine ⟨nodup_append.mpr ⟨sm.1,by simp,fun x hx y hy z=>f6 (by rw [mem_singleton] at hy; rw [<- hy, <- z]; exact hx)⟩,fun p hp Z=>?_⟩;rcases mem_append.mp Z with Z | Z
     ·have:=sm.2 p hp Z;exact ⟨mem_append.mpr (.inl this.1),mem_append.mpr (.inl this.2)⟩
     ·have ep:=Jie g7 hp c2 ((mem_singleton.mp Z).trans c0);subst ep;have m1:e.1∈r.map (·.1)++[e.1]:=mem_append.mpr (.inr (by simp));have m2:face∈r.map (·.1)++[e.1]:=mem_append.mpr (.inl a0);rcases d2 with h | h
      ·rw [h.1,h.2];exact ⟨m2,m1⟩
      ·rw [h.1,h.2];exact ⟨m1,m2⟩
    have D:=b7.find b1 c1 b0 O f7 (by simp; ac_nf) f0 n0 g0 e8 ((d1.mono (P':=CV Y) fun _ _ z=>z.sameT n.t).append (.one cv)) b3;have b9:SameT Y a5:=SameT.put b3 b1 rfl;have f5:la≠fd:=fun z=>by rw [z,a3] at W; cases W
    have d3:a5 la=some (.lst xs):=by rw [<- b3,Jag f5]; exact n _ _ W
    have g3:=D.len hl;rw [length_append,length_singleton] at g3;have i5:(B.map V.str).length<=81:=by
     rw [length_map];rw [length_append,length_singleton] at b2;ac_nf
    refine ⟨.inl ⟨rfl,_,SqL.of D.wait⟩,?_⟩;refine ixT (i:=0) (SqT.of (b9 _ _ rfl (n _ _ a4))) rfl ?_;refine ⟨I,_,_,rfl,rfl,D.wait,by ac_nf,?_⟩;generalize a6:upd a5 I _=g1;and_intros;have ea:B.map V.str++[V.str e.1]=(B++[e.1]).map V.str:=by simp
    rw [ea] at a6;have c7:=D.wait' b4 a6 (fun f hf=>by
     rcases mem_append.mp hf with h' | h'
     ·exact D.sub f h'
     ·rw [mem_singleton.mp h',map_append];simp)
    have f9:SameT a5 g1:=SameT.put a6 D.wait rfl;refine ⟨li,_,r++[(e.1,a.2++[e.2])],B++[e.1],rfl,c7,by rw [<- a6,Jag g4]; exact d3,U.trans (n.t.trans (b9.trans f9)),fun a' d8 R h2 e' L=>?_,fun e' L=>?_,?_,?_⟩
    ·rw [map_append];rcases mem_append.mp d8 with h' | h'
     ·exact mem_append.mpr (.inl (a8 a' h' (fun z=>R (by simp [z])) h2 e' L))
     ·refine absurd ?_ R;rw [mem_singleton.mp h'];simp
    ·rw [map_append];rw [c6] at L;rcases mem_append.mp L with h' | h'
     ·exact mem_append.mpr (.inl (a2 e' h'))
     ·rw [mem_singleton.mp h'];simp
    ·rw [map_append];exact mem_append.mpr (.inl a0)
    ·rw [length_append,length_append,length_singleton,length_singleton];ac_nf
  ·rintro σ H8 ⟨hi,v6,r,B,rfl,C,W,U,a8,a2,a0,c9⟩;rw [length_append,length_singleton] at b2;refine ⟨_,by rw [length_append,length_singleton]; ac_nf,some (.str face),v6,r,B,rfl,C,fun a J Z e he=>?_,rfl,by ac_nf⟩;by_cases c:a.1=face
   ·rw [take_of_length_le ∅] at a2;rw [c] at he;exact a2 e he
   ·exact a8 a J Z c e he
abbrev Baj:Stmt:=inClass (top 49) 0
theorem JaK:Jan ["self","parts","gaps","joints","row","part","gap","found"] ["self","parts","gaps"] (Jae Baj):=by bv_decide
def Jby (K:W.Frag) (Ad:Adr):Sp:=fun vs H Q E=>∃ (x dx a c:Addr) (xs zs:List V) (es:List (PD ⊕ D)) (fs:List (GD ⊕ D)) (H0:Hp),vs=[.ref x, .ref a, .ref c]/\H x=some (.ins Ad.Thing dx [])/\H0 x=none/\Same H0 H/\SqL K H0 a xs/\All2 (PEV K H0) es xs/\SqL K H0 c zs/\All2 (GEV K H0) fs zs/\es.length<=20/\fs.length<=20/\(match partsW [] es with | .noPart=>∀ H',Same H0 H'->E (.ref Ad.NoPart) none H' | .twice=>∀ H',Same H0 H'->E (.ref Ad.Twice) none H' | .ring=>∀ H',Same H0 H'->E (.ref Ad.InRing) none H' | .ok ls=>match gapsW ls [] fs with | .noGap=>∀ H',Same H0 H'->E (.ref Ad.NoGap) none H' | .twice=>∀ H',Same H0 H'->E (.ref Ad.Twice) none H' | .apart=>∀ H',Same H0 H'->E (.ref Ad.Apart) none H' | .ok gs=>∀ H',Same H0 H'->TK K Ad H' x ls gs->Q .non H')
theorem Jdx (F:FunD K "__init__" "Thing.__init__" Baj dV f fd) (T:Txt K mg Ad) (Bc5:KCal P w K mg base 1 "Joints" Ad.Joints ["self"] (Jbp K Ad)) (BcP:Cal P w K mg base 6 "part_of" ["thing"] [] (JdD K Ad)) (Bc6:Cal P w K mg base 7 "gap_of" ["thing"] [] (Jeq K Ad)) (BaY:MCal P w K mg base 1 "way_between" (Jc6 Ad) ["self","one","other"] (Jbb K Ad)) (BdI:MCal P w K mg base 1 "link" (Jc6 Ad) ["self","part"] (Jb9 K Ad)):FnOk P w K mg base (CX1 P w) 9 f fd ["self","parts","gaps"] (Jby K Ad):=by
 refine F.okx JaK (fun vs H Q E h=>?_) (fun m5 A l9 s H vs Q E hr h=>?_)
 ·obtain ⟨x,dx,a,c,xs,zs,es,fs,O,rfl,_⟩:=h; rfl
 obtain ⟨x,dx,a,c,xs,zs,es,fs,O,rfl,h⟩:=h;have hu:=hr.units;refine ⟨_,(Jab (Jaj (i:=3) JaK.nd rfl (Or.inl rfl) (Bc5.ev0 hr ⋯ rfl pass1))
   (Jab (Ja6 (pv 0) JbA rfl)
   (Jab (Ja1 PassesOwn.leaving rfl (pi_U (pv 1)) (Jar (i:=4) JaK.nd rfl (Or.inl rfl))
   (Jab (Jaj (i:=5) JaK.nd rfl (Or.inl rfl) (BcP.ev hr ⋯ rfl pass1 (Jaa (pv 4) Jad) (he:=by exact Jaf rfl)))
   (Jab (ps_if (Jel (Jg4 (hu1 hu) (Jas (pv 5) rfl) (Jas (pv 0) rfl)) (by with_unfolding_all rfl))
   (Jah (Jb4 PySem.F.excBase_ValueError T.Bcp rfl T.BdF (Jaa JbQ Jad)))
   JaA)
   (Jab (ps_if (Jax Jfe (BaY.m hr ⋯ pass1 (pv 3) (Jaa (Jas (pv 5) rfl) (Jaa (Jas (pv 5) rfl) Jad))) JcC (Jaz _))
   (Jah (Jb4 PySem.F.excBase_ValueError T.Bcb rfl T.BdT (Jaa JbQ Jad)))
   JaA)
   (Jab (Ja9 (BdI.m hr ⋯ pass1 (pv 3) (Jaa (pv 5) Jad)))
   (Jah (JbR (hu1 hu) (Jas (pv 0) rfl) (Jas (pv 5) rfl) (pv 5) rfl)))))))
   (Jab (Ja6 (pv 0) JbA rfl)
   (Jab (Ja6 (pv 0) JbA rfl)
   (Jah (Ja1 PassesOwn.leaving rfl (pi_U (pv 2)) (Jar (i:=4) JaK.nd rfl (Or.inl rfl))
   (Jab (Jaj (i:=6) JaK.nd rfl (Or.inl rfl) (Bc6.ev hr ⋯ rfl pass1 (Jaa (pv 4) Jad) (he:=by exact Jaf rfl)))
   (Jab (ps_if (Jel (Jg4 (hu1 hu) (Jas (pv 6) rfl) (Jas (pv 0) rfl)) (by with_unfolding_all rfl))
   (Jah (Jb4 PySem.F.excBase_ValueError T.Bcp rfl T.BdF (Jaa JbQ Jad)))
   JaA)
   (Jab (Jaj (i:=7) JaK.nd rfl (Or.inl rfl) (BaY.m hr ⋯ pass1 (pv 3) (Jaa (Jas (pv 6) rfl) (Jaa (Jas (pv 6) rfl) Jad))))
   (Jab (ps_if (Jax Jeg (pv 7) JcC (Jaz _))
   (Jah (Jb4 PySem.F.excBase_ValueError T.BcD rfl T.BdZ (Jaa JbQ Jad)))
   JaA)
   (Jab (JbR (hu1 hu) (Jas (pv 0) rfl) (Jas (pv 6) rfl) (pv 6) rfl)
   (Jah (JbR (hu1 hu) (Jas (pv 0) rfl) (Jas (pv 6) rfl) (pv 7) rfl)))))))))))))),?_⟩
 clear hu;obtain ⟨hx,d8,S0,hS,hE,hC,hG,hl,hg,k⟩:=h;have tc:=T.Ba8 _ rfl;have pc:=T.BcY _ rfl;have gc:=T.BdG _ rfl;have sl:(1000:Nat)<=sizeLine:=by decide
 have le:=hE.length;have lg:=hG.length;show tSeq _ _ _ [some (.ref x),some (.ref a),some (.ref c),none,none,none,none,none] H;symm_saturate;intro j dj hj k4 nj;have Sm:Same H (upd (upd H dj (.own j)) j (.ins Ad.Joints dj [])):=fun b u q=>by rw [Jag (Jai q hj),Jag (Jai q k4)]; exact q
 generalize um:upd (upd H dj (.own j)) j (.ins Ad.Joints dj [])=Hm at Sm ⊢;symm_saturate;have em:Hm j=some (.ins Ad.Joints dj []):=by rw [<- um,Jak]
 refine ⟨j,dj,rfl,em,fun d H1 j9 m8 j4 b8 g8=>⟨rfl,?_⟩⟩;have L:∀ {H:Hp} {b:Addr},Same O H->H b=none->O b=none:=fun {H b} S h=>by
  cases e:O b with
  | none=>rfl
  | some o=>rw [S _ _ e] at h; cases h
 have f0:∀ {H r:Hp} {d:Addr} {kv:List (Key × V)},(∀ b u,b≠d->H b=some u->r b=some u)->H d=some (.dK kv)->SameI H r:=fun {H r d kv} S hd b u t h=>S b u (fun z=>by rw [z,hd] at h; cases h; simp [isTI,isTF] at t) h;have i1:∀ {H r:Hp} {d b:Addr} {kv:List (Key × V)} {ys:List V},(∀ b u,b≠d->H b=some u->r b=some u)->H d=some (.dK kv)->H b=some (.lst ys)->r b=some (.lst ys):=fun {H r d b kv ys} S hd h=>S _ _ (fun z=>by rw [z,hd] at h; cases h) h;have f5:∀ {H r:Hp} {e:Addr} {kv:List (Key × V)} {G:List PD},(∀ b u,b≠e->H b=some u->r b=some u)->H e=some (.dK kv)->e≠d->JK Ad O H j d G->JK Ad O r j d G:=fun {H r e kv G} S he ne ⟨⟨dj,h1⟩,h2,kvs,h3,h4,h5⟩=>⟨⟨dj,S _ _ (fun z=>by rw [z,he] at h1; cases h1) h1⟩,h2,kvs,S _ _ (Ne.symm ne) h3,h4,h5.sx S he⟩;have j0:=L S0 hj;have i8:Same O H1:=fun b u h=>g8 b u (Jai h j0) (Sm _ _ (S0 _ _ h));have e0:x≠j:=Jai hx hj;have d4:H1 x=some (.ins Ad.Thing dx []):=g8 x _ e0 (Sm _ _ hx);have d0:O d=none:=L (S0.trans Sm) j9
 (try ((with_reducible refine Nxt.go (by assumption) ?_); symm_saturate))
 rename_i R a0 m4 H1 H2 S2 e2;symm_saturate;symm_saturate;refine ⟨x,_,dx,_,rfl,S2 _ _ d4,tc.cls,tc.n1,by simp,?_⟩;generalize u3:upd H2 x _=H3;symm_saturate;have e3:H3 x=some (.ins Ad.Thing dx [("parts_by_name", .ref R)]):=by rw [<- u3]; exact Jak.trans rfl
 have b7:∀ b u,b≠x->H2 b=some u->H3 b=some u:=fun b u hb h=>by rw [<- u3,Jag hb]; exact h
 have h9:Same O H3:=fun b u h=>b7 _ _ (Jai h d8) (S2 _ _ (i8 _ _ h));have f4:d≠x:=fun z=>by rw [z,d4] at b8; cases b8
 have a3:R≠x:=fun z=>by rw [z,d4] at a0; cases a0
 have c7:R≠d:=fun z=>by rw [z,b8] at a0; cases a0
 have i9:H3 R=some (.dK []):=b7 _ _ a3 e2;have l0:=L i8 a0;have k0:JK Ad O H3 j d []:=⟨⟨dj,b7 _ _ (Ne.symm e0) (S2 _ _ j4)⟩,d0,[],b7 _ _ f4 (S2 _ _ b8),by simp,JD.nil⟩;refine ⟨a,rfl,ForA.byL (xs:=xs) (hS.same h9) (fun i σ r=>i<=xs.length/\∃ (v4 v5:Option V) (k1:List (Key × V)) (G:List PD),σ=[some (.ref x),some (.ref a),some (.ref c),some (.ref j),v4,v5,none,none]/\Same O r/\r x=some (.ins Ad.Thing dx [("parts_by_name", .ref R)])/\JK Ad O r j d G/\r R=some (.dK k1)/\BG (·.nm) (POV K Ad r) G k1/\G.length=i/\(G.map (·.nm)).Nodup/\partsW G (es.drop i)=partsW [] es) ⟨Nat.zero_le _,none,none,[],[],rfl,h9,e3,k0,i9,⟨rfl,rfl⟩,rfl, .nil,rfl⟩ (fun i σ r z=>by obtain ⟨_,_,_,_,_,_,z,_⟩:=z; exact hS.same z) ?_ ?_⟩
 ·rintro i y σ H4 hy ⟨hi,v4,v5,k1,G,rfl,S4,a2,c9,b0,b6,g7,c2,hw⟩;have li:i<xs.length:=(List.getElem?_eq_some_iff.mp hy).1;obtain ⟨e,he,f8⟩:=hE.at_ hy;have b1:i<es.length:=by ac_nf
  have e9:es.drop i=e::es.drop (i+1):=by
   rw [List.drop_eq_getElem_cons b1];rw [List.getElem?_eq_getElem b1] at he;rw [Option.some.inj he]
  rw [e9] at hw;have lk:=b6.length;symm_saturate;match e,f8.same S4,hw with
  | .inr cc,ev,hw=>
   rw [Jhy] at hw;rw [<- hw] at k;exact ⟨y, .inr cc,rfl,ev,fun H5 S5=>k H5 (S4.trans S5)⟩
  | .inl p,ev,hw=>
   refine ⟨y, .inl p,rfl,ev,fun v H5 S5 pv=>?_⟩;obtain ⟨q,dq,vz,vm,rfl,c3,hz,hm⟩:=id pv;have ok:=ev.2;have f1:=S5 _ _ a2;have g5:=S5 _ _ b0;have d5:=c9.same S5;have j2:=b6.mono (P':=POV K Ad H5) fun _ _ z=>z.si (Same.i S5);obtain ⟨⟨g0,g2⟩,_⟩:=id d5;symm_saturate;refine ⟨q,_,dq,_, .str p.nm,rfl,c3,pc.cls,pc.n1,rfl,?_⟩;refine ⟨x,_,dx,_, .ref R,rfl,f1,tc.cls,tc.n1,rfl,?_⟩;refine ⟨R,_,rfl,DGet.k (k:=Sum.inr p.nm) g5,?_⟩;rw [j2.val];by_cases cn:p.nm∈G.map (·.nm)
   ·rw [Jhz cn] at hw;rw [<- hw] at k;rw [decide_eq_true cn];symm_saturate;exact ⟨by show 1<=sizeLine; ac_nf,k H5 (S4.trans S5)⟩
   ·rw [decide_eq_false cn];symm_saturate;refine ⟨j,_,g0,_,rfl,g2,rfl,rfl,?_⟩;symm_saturate;refine ⟨q,_,dq,_, .str p.st,rfl,c3,pc.cls,pc.n2,rfl,?_⟩;refine ⟨q,_,dq,_, .str p.en,rfl,c3,pc.cls,pc.n3,rfl,?_⟩;refine ⟨j,d,p.st,p.en,G,O,rfl,d5,by ac_nf,c2,fun hc H6 S6=>?_,fun w l yy H6 S6 m7 e6 h0 c0 _=>?_⟩
    ·rw [Jdg cn hc] at hw;symm_saturate;have f7:=d5.same S6;have f2:=S4.trans (S5.trans S6);refine ⟨j,_,g0,_,rfl,S6 _ _ g2,rfl,rfl,?_⟩;symm_saturate;refine ⟨j,d, .ref q,G,p,O,rfl,f7,f2,pv.si (Same.i S6),ok.ne,by ac_nf,fun H7 l6 sj j7=>?_⟩;have nd:∀ {b:Addr} {C dd:Addr} {ff:List (Str × V)},H6 b=some (.ins C dd ff)->H7 b=some (.ins C dd ff):=fun {b C dd ff} h=>by
      obtain ⟨_,_,_,c8,_⟩:=f7;exact sj _ _ (fun z=>by rw [z,c8] at h; cases h) (by intro xs z; cases z) h
     have SI:SameI H6 H7:=fun b u t h=>by
      obtain ⟨_,_,_,c8,_⟩:=f7;exact sj b u (fun z=>by rw [z,c8] at h; cases h; simp [isTI,isTF] at t) (fun xs z=>by rw [z] at t; simp [isTI,isTF] at t) h
     have f3:H7 R=some (.dK k1):=sj _ _ c7 (by intro xs z; cases z) (S6 _ _ g5);have l3:=j2.mono (P':=POV K Ad H7) fun _ _ z=>(z.si (Same.i S6)).si SI;have k9:=(pv.si (Same.i S6)).si SI;symm_saturate;refine ⟨x,_,dx,_, .ref R,rfl,nd (S6 _ _ f1),tc.cls,tc.n1,rfl,?_⟩;refine ⟨q,_,dq,_, .str p.nm,rfl,nd (S6 _ _ c3),pc.cls,pc.n1,rfl,?_⟩;refine ⟨R,_,rfl,DPut.k (k:=Sum.inr p.nm) f3 ∅,?_⟩;generalize u8:upd H7 R _=H8;symm_saturate;have e8:=putE u8;have c1:∀ b u,b≠R->H7 b=some u->H8 b=some u:=fun b u hb h=>by rw [<- u8,Jag hb]; exact h
     have l2:=f0 c1 f3;refine ⟨li,_,_,_,G++[p],rfl,fun b u h=>c1 _ _ (Jai h l0) (l6 _ _ h),c1 _ _ (Ne.symm a3) (nd (S6 _ _ f1)),f5 c1 f3 c7 j7,e8,?_,by simp [g7],by rw [map_append]; exact nodup_append.mpr ⟨c2,by simp,fun u hu v hv z=>cn (by have e:v=p.nm:=mem_singleton.mp hv; rw [<- e, <- z]; exact hu)⟩,hw⟩;exact (l3.new (a:=p) cn k9).mono fun _ _ z=>z.si l2
    ·by_cases hc:Conn G p.st p.en
     ·rw [Jgy cn hc] at hw;rw [<- hw] at k;symm_saturate;exact ⟨by show 1<=sizeLine; ac_nf,k H6 (S4.trans (S5.trans S6))⟩
     ·exact absurd ⟨w,c0⟩ hc
 ·rintro σ H4 ⟨hi,v4,v5,k1,G,rfl,S4,a2,c9,b0,b6,g7,c2,hw⟩;rw [List.drop_eq_nil_of_le ∅,partsW] at hw;rw [<- hw] at k;dsimp only at k;symm_saturate;obtain ⟨⟨k5,l8⟩,_,k8,a5,g1,k6⟩:=id c9;rename_i d2 J m2 H4 H5 S5 e5;symm_saturate;refine ⟨x,_,dx,_,rfl,S5 _ _ a2,tc.cls,tc.n2,by simp,?_⟩;generalize u6:upd H5 x _=H6;symm_saturate;have e6:H6 x=some (.ins Ad.Thing dx [("parts_by_name", .ref R),("gaps_by_name", .ref d2)]):=by rw [<- u6]; exact Jak.trans rfl
  have a9:∀ b u,b≠x->H5 b=some u->H6 b=some u:=fun b u hb h=>by rw [<- u6,Jag hb]; exact h
  symm_saturate;rename_i d3 D m1 H6 H7 S7 e7;symm_saturate;refine ⟨x,_,dx,_,rfl,S7 _ _ e6,tc.cls,tc.n3,by simp,?_⟩;generalize u8:upd H7 x _=H8;symm_saturate;have e8:H8 x=some (.ins Ad.Thing dx [("parts_by_name", .ref R),("gaps_by_name", .ref d2),("ways", .ref d3)]):=by rw [<- u8]; exact Jak.trans rfl
  have d7:∀ b u,b≠x->H7 b=some u->H8 b=some u:=fun b u hb h=>by rw [<- u8,Jag hb]; exact h
  have a1:∀ b u,b≠x->H4 b=some u->H8 b=some u:=fun b u hb h=>d7 _ _ hb (S7 _ _ (a9 _ _ hb (S5 _ _ h)));have a7:d2≠x:=fun z=>by rw [z,a2] at J; cases J
  have e1:d2≠R:=fun z=>by rw [z,b0] at J; cases J
  have i0:d2≠d:=fun z=>by rw [z,a5] at J; cases J
  have c6:d3≠x:=fun z=>by rw [z,e6] at D; cases D
  have i3:=a9 _ _ a3 (S5 _ _ b0);have l5:=a9 _ _ f4 (S5 _ _ a5);have c4:=a9 _ _ a7 e5;have f9:d3≠R:=fun z=>by rw [z,i3] at D; cases D
  have g3:d3≠d:=fun z=>by rw [z,l5] at D; cases D
  have b5:d3≠d2:=fun z=>by rw [z,c4] at D; cases D
  have l1:=L S4 J;have f2:Same O H6:=fun b u h=>a9 _ _ (Jai h d8) (S5 _ _ (S4 _ _ h));have m0:=L f2 D;have i2:Same O H8:=fun b u h=>a1 _ _ (Jai h d8) (S4 _ _ h);have i5:SameT H4 H8:=fun b u t h=>a1 _ _ (fun z=>by rw [z,a2] at h; cases h; simp [isTF] at t) h;have l7:JK Ad O H8 j d G:=⟨⟨k5,a1 _ _ (Ne.symm e0) l8⟩,d0,k8,a1 _ _ f4 a5,g1,k6.sy a1 a2 (by intro xs z; cases z) rfl⟩;have k7:BG (·.nm) (POV K Ad H8) G k1:=b6.mono fun p v ⟨q,dq,vz,vm,h1,h2,h3,h4⟩=>⟨q,dq,vz,vm,h1,a1 _ _ (ne_of h2 a2 (by
   intro z;injection z with _ _ z3
   have:=congrArg List.length z3;simp [partF] at this)) h2,h3.sameT i5,h4.sameT i5⟩
  refine ⟨c,rfl,ForA.byL (xs:=zs) (hC.same i2) (fun i σ r=>i<=zs.length/\∃ (v4 v6 v7:Option V) (k2 k3:List (Key × V)) (gs:List GD),σ=[some (.ref x),some (.ref a),some (.ref c),some (.ref j),v4,v5,v6,v7]/\Same O r/\r x=some (.ins Ad.Thing dx [("parts_by_name", .ref R),("gaps_by_name", .ref d2),("ways", .ref d3)])/\JK Ad O r j d G/\r R=some (.dK k1)/\BG (·.nm) (POV K Ad r) G k1/\r d2=some (.dK k2)/\BG (·.nm) (GOV K Ad r) gs k2/\r d3=some (.dK k3)/\BG (·.nm) (WOV r G) gs k3/\gs.length=i/\gapsW G gs (fs.drop i)=gapsW G [] fs) ⟨Nat.zero_le _,v4,none,none,[],[],[],rfl,i2,e8,l7,a1 _ _ a3 b0,k7,d7 _ _ a7 (S7 _ _ c4),⟨rfl,rfl⟩,d7 _ _ c6 e7,⟨rfl,rfl⟩,rfl,rfl⟩ (fun i σ r z=>by obtain ⟨_,_,_,_,_,_,_,_,z,_⟩:=z; exact hC.same z) ?_ ?_⟩
  ·rintro i y σ H9 hy ⟨hi,v4,v6,v7,k2,k3,gs,rfl,S9,b3,h6,a8,d6,a4,b4,a6,b9,j3,n⟩;have li:i<zs.length:=(List.getElem?_eq_some_iff.mp hy).1;obtain ⟨e,he,f8⟩:=hG.at_ hy;have b1:i<fs.length:=by ac_nf
   have e9:fs.drop i=e::fs.drop (i+1):=by
    rw [List.drop_eq_getElem_cons b1];rw [List.getElem?_eq_getElem b1] at he;rw [Option.some.inj he]
   rw [e9] at n;have lk:=b4.length;have m6:=b9.length;symm_saturate;match e,f8.same S9,n with
   | .inr cc,ev,n=>
    rw [Jh0] at n;rw [<- n] at k;exact ⟨y, .inr cc,rfl,ev,fun d9 Z=>k d9 (S9.trans Z)⟩
   | .inl g,ev,n=>
    refine ⟨y, .inl g,rfl,ev,fun v d9 Z gv=>?_⟩;obtain ⟨q,dq,vl,vg,rfl,N,hz,hm⟩:=id gv;have i4:=Z _ _ b3;have h8:=Z _ _ a4;have b2:=h6.same Z;obtain ⟨⟨i6,g6⟩,_⟩:=id b2;symm_saturate;refine ⟨q,_,dq,_, .str g.nm,rfl,N,gc.cls,gc.n1,rfl,?_⟩;refine ⟨x,_,dx,_, .ref d2,rfl,i4,tc.cls,tc.n2,rfl,?_⟩;refine ⟨d2,_,rfl,DGet.k (k:=Sum.inr g.nm) h8,?_⟩;rw [b4.val];by_cases cn:g.nm∈gs.map (·.nm)
    ·rw [Jh1 cn] at n;rw [<- n] at k;rw [decide_eq_true cn];symm_saturate;exact ⟨by show 1<=sizeLine; ac_nf,k d9 (S9.trans Z)⟩
    ·rw [decide_eq_false cn];symm_saturate;refine ⟨j,_,i6,_,rfl,g6,rfl,rfl,?_⟩;symm_saturate;refine ⟨q,_,dq,_, .str g.st,rfl,N,gc.cls,gc.n2,rfl,?_⟩;refine ⟨q,_,dq,_, .str g.en,rfl,N,gc.cls,gc.n3,rfl,?_⟩;refine ⟨j,d,g.st,g.en,G,O,rfl,b2,by ac_nf,c2,fun hc Y X=>?_,fun w l yy Y X m3 j5 h0 c0 j6=>?_⟩
     ·rw [Jgj cn hc] at n;rw [<- n] at k;symm_saturate;exact ⟨by show 1<=sizeLine; ac_nf,k Y (S9.trans (Z.trans X))⟩
     ·rw [JgW cn ⟨w,c0⟩] at n;symm_saturate;have B:=Z.trans X;have W:=B _ _ a4;refine ⟨x,_,dx,_, .ref d2,rfl,B _ _ b3,tc.cls,tc.n2,rfl,?_⟩;refine ⟨q,_,dq,_, .str g.nm,rfl,X _ _ N,gc.cls,gc.n1,rfl,?_⟩;refine ⟨d2,_,rfl,DPut.k (k:=Sum.inr g.nm) W ∅,?_⟩;generalize h7:upd Y d2 _=f6;symm_saturate;have l4:=putE h7;have I:∀ b u,b≠d2->Y b=some u->f6 b=some u:=fun b u hb h=>by rw [<- h7,Jag hb]; exact h
      have j1:=f0 I W;have c5:=I _ _ (Ne.symm a7) (B _ _ b3);have i7:=I _ _ (fun z=>by have:=X _ _ N; rw [z,W] at this; cases this) (X _ _ N);have U:=I _ _ b5 (B _ _ a6);symm_saturate;refine ⟨x,_,dx,_, .ref d3,rfl,c5,tc.cls,tc.n3,rfl,?_⟩;refine ⟨q,_,dq,_, .str g.nm,rfl,i7,gc.cls,gc.n1,rfl,?_⟩;refine ⟨d3,_,rfl,DPut.k (k:=Sum.inr g.nm) U ∅,?_⟩;generalize g4:upd f6 d3 _=e4;symm_saturate;have j8:=putE g4;have M:∀ b u,b≠d3->f6 b=some u->e4 b=some u:=fun b u hb h=>by rw [<- g4,Jag hb]; exact h
      have g9:=f0 M U;have SI:SameI Y e4:=fun b u t h=>g9 b u t (j1 b u t h);have wv:∀ {g:GD} {v:V},WOV Y G g v->WOV e4 G g v:=fun {g v} ⟨l,xs,w,h1,h2,h3,h4⟩=>⟨l,xs,w,h1,i1 M U (i1 I W h2),h3.mono fun _ _ z=>z.sameT SI.t,h4⟩;refine ⟨li,_,_,_,_,_,gs++[g],rfl,fun b u h=>M _ _ (Jai h m0) (I _ _ (Jai h l1) (B _ _ (S9 _ _ h))),M _ _ (Ne.symm c6) c5,f5 M U g3 (f5 I W i0 (b2.same X)),M _ _ (Ne.symm f9) (I _ _ (Ne.symm e1) (B _ _ a8)),d6.mono fun _ _ z=>(z.si (Same.i B)).si SI,M _ _ (Ne.symm b5) l4,?_,j8,?_,by simp [j3],n⟩
      ·exact ((b4.mono (P':=GOV K Ad Y) fun _ _ z=>z.si (Same.i B)).new (a:=g) cn (gv.si (Same.i X))).mono fun _ _ z=>z.si SI
      ·exact ((b9.mono (P':=WOV Y G) fun _ _ z=>z.same B).new (a:=g) cn ⟨l,yy,w,rfl,j5,h0,c0,j6⟩).mono fun _ _ z=>wv z
  ·rintro σ H9 ⟨hi,v4,v6,v7,k2,k3,gs,rfl,S9,b3,h6,a8,d6,a4,b4,a6,b9,j3,n⟩;rw [List.drop_eq_nil_of_le ∅,gapsW] at n;symm_saturate;have k':=k;simp only [<- n] at k';exact k' H9 S9 ⟨dx,R,d2,d3,k1,k2,k3,b3,a8,d6,a4,b4,a6,b9⟩
abbrev BaB:Stmt:=inClass (top 49) 1
theorem JeC:Jan ["self"] ["self"] (Jae BaB):=by bv_decide
def JaZ (K:W.Frag) (Ad:Adr):Sp:=fun vs H Q E=>∃ (x:Addr) (ls:List PD) (gs:List GD),vs=[.ref x]/\TK K Ad H x ls gs/\ls.length<=20/\∀ l ys H',Same H H'->H l=none->H' l=some (.lst ys)->All2 (PDV K H') ls ys->Q (.ref l) H'
theorem Jex (F:FunD K "parts" "Thing.parts" BaB dV f fd) (T:Txt K mg Ad) (Bdr:MCal P w K mg base 1 "plain" (IsPart Ad) ["self"] (Jcp K Ad)):FnOk P w K mg base (CX1 P w) 2 f fd ["self"] (JaZ K Ad):=by
 refine F.okn JeC (by subst_eqs) (fun a1 A X s H vs Q E hr h=>?_)
 obtain ⟨x,ls,gs,rfl,h⟩:=h;refine ⟨_,(Jah (Jaq (JgA (Jej (own:=["part"]) (cs:=[]) (cl:=[]) rfl (Jiw (Jas (pv 0) rfl)) (fun _ _ _ _=>(Jar (i:=0) (show [("part" : Str)].Nodup by decide) rfl (Or.inl rfl))) (fun _ _ _ _=>(Bdr.m0 hr ⋯ passF (pv 0))) rfl ⋯ rfl ⋯ hcl0 (hhas0 ⋯) hcs0)))),?_⟩;obtain ⟨⟨dx,a,d2,d3,l,k2,k3,hx,g,Z,_⟩,hl,k⟩:=h;have tc:=T.Ba8 _ rfl;have sl:(1000:Nat)<=sizeLine:=by decide
 have lk:=Z.length;show tRet _ _ [some (.ref x)] H;and_intros;refine ⟨a,l,g,x,_,dx,_, .ref a,rfl,hx,tc.cls,tc.n1,rfl,a,l,rfl,g,fun N=>?_⟩;generalize uf:upd H a (.frz N (.dK l))=H1;and_intros;have f1:H1 a=some (.frz N (.dK l)):=by rw [<- uf,Jak]
 have o1:∀ b u,b≠a->H b=some u->H1 b=some u:=fun b u S h=>by rw [<- uf,Jag S]; exact h
 refine CompJ.vals (fun i m B=>B a=some (.frz N (.dK l))/\(∀ b u,b≠a->H b=some u->B b=some u)/\(∀ b u,b≠a->B b=some u->H b=none->True)/\All2 (PDV K B) (ls.take i) m) ⟨f1,o1,fun _ _ _ _ _=>trivial,rfl⟩ (fun i m B hi z=>⟨z.1,by have:=z.2.2.2.length; rw [length_take] at this; ac_nf⟩) ?_ ?_
 ·rintro i v m G hv ⟨y,D,_,J⟩;simpa only [length_singleton,List.replicate,JaD,map_cons,map_nil,Option.join_some];obtain ⟨p,hp,q,dq,I,M,rfl,hq,hz,hm⟩:=Z.2.at_ hv;have U:∀ {b:Addr} {u:HO},H b=some u->isTI u=true->G b=some u:=fun {b u} h t=>D _ _ (fun z=>by rw [z,g] at h; cases h; simp [isTI,isTF] at t) h;have T2:SameT H G:=fun b u t h=>U h (by cases u <;> first | exact t | (simp [isTF] at t));refine ⟨q,_,dq,_,rfl,U hq rfl,rfl,rfl,q,dq,_,_,_,I,M,_,rfl,U hq rfl,fun r C d O=>?_⟩;refine ⟨d _ _ y,fun b u S h=>d _ _ (D _ _ S h),fun _ _ _ _ _=>trivial,?_⟩;rw [take_succ,hp];exact (J.mono (P':=PDV K C) fun _ _ z=>z.sameT d.t).append (.one ⟨r,I,M,rfl,SqT.of O,(hz.sameT T2).sameT d.t,(hm.sameT T2).sameT d.t⟩)
 ·rintro m G ⟨y,D,_,J⟩;rw [take_of_length_le ∅] at J;rename_i r j a0 G C d O;and_intros;refine ⟨N,l,d _ _ y,?_⟩;generalize n:upd C a (.dK l)=L;and_intros;have Y:r≠a:=fun z=>by rw [z,y] at j; cases j
  have e4:L r=some (.lst m):=by rw [<- n,Jag Y]; exact O
  have W:Same H L:=fun b u h=>by
   by_cases c:b=a
   ·subst c;rw [g] at h;cases h;rw [<- n,Jak]
   ·rw [<- n,Jag c];exact d _ _ (D _ _ c h)
  have f3:=d _ _ y;have R:∀ {b:Addr} {xs:List V},SqT K C b xs->SqT K L b xs:=fun {b xs} h=>by
   rcases h with (h | ⟨o,h⟩) | h
   ·exact .inl (.inl (by rw [<- n,Jag (fun z=>by rw [z,f3] at h; cases h)]; exact h))
   ·exact .inl (.inr ⟨o,by rw [<- n,Jag (fun z=>by rw [z,f3] at h; cases h)]; exact h⟩)
   ·exact .inr h
  have hn:H r=none:=by
   cases e:H r with
   | none=>rfl
   | some o=>rw [D _ _ Y e] at j; cases j
  exact k r m L W hn e4 ((J.mono (P':=PDV K C) fun _ _ z=>z.sameT d.t).mono fun p v ⟨b,I,M,h1,h2,⟨pz,h3,h4⟩,⟨pm,h5,h6⟩⟩=>⟨b,I,M,h1,R h2,⟨pz,h3,R h4⟩,⟨pm,h5,R h6⟩⟩)
abbrev BaJ:Stmt:=inClass (top 49) 2
theorem Jfi:Jan ["self"] ["self"] (Jae BaJ):=by bv_decide
def Jbs (K:W.Frag) (Ad:Adr):Sp:=fun vs H Q E=>∃ (x:Addr) (ls:List PD) (gs:List GD),vs=[.ref x]/\TK K Ad H x ls gs/\gs.length<=20/\∀ l ys H',Same H H'->H l=none->H' l=some (.lst ys)->All2 (fun (g:GD) v=>TV K H' g.td v) gs ys->Q (.ref l) H'
theorem Je7 (F:FunD K "gaps" "Thing.gaps" BaJ dV f fd) (T:Txt K mg Ad) (BcQ:MCal P w K mg base 1 "plain" (IsGap Ad) ["self"] (JcG K Ad)):FnOk P w K mg base (CX1 P w) 2 f fd ["self"] (Jbs K Ad):=by
 refine F.okn Jfi (by subst_eqs) (fun a1 A Y s H vs Q E hr h=>?_)
 obtain ⟨x,ls,gs,rfl,h⟩:=h;refine ⟨_,(Jah (Jaq (JgA (Jej (own:=["gap"]) (cs:=[]) (cl:=[]) rfl (Jiw (Jas (pv 0) rfl)) (fun _ _ _ _=>(Jar (i:=0) (show [("gap" : Str)].Nodup by decide) rfl (Or.inl rfl))) (fun _ _ _ _=>(BcQ.m0 hr ⋯ passF (pv 0))) rfl ⋯ rfl ⋯ hcl0 (hhas0 ⋯) hcs0)))),?_⟩;obtain ⟨⟨dx,d1,a,d3,k1,m,k3,hx,_,_,j,b2,_⟩,hl,k⟩:=h;have tc:=T.Ba8 _ rfl;have sl:(1000:Nat)<=sizeLine:=by decide
 have lk:=b2.length;show tRet _ _ [some (.ref x)] H;and_intros;refine ⟨a,m,j,x,_,dx,_, .ref a,rfl,hx,tc.cls,tc.n2,rfl,a,m,rfl,j,fun O=>?_⟩;generalize uf:upd H a (.frz O (.dK m))=H1;and_intros;have f1:H1 a=some (.frz O (.dK m)):=by rw [<- uf,Jak]
 have o1:∀ b u,b≠a->H b=some u->H1 b=some u:=fun b u U h=>by rw [<- uf,Jag U]; exact h
 refine CompJ.vals (fun i n I=>I a=some (.frz O (.dK m))/\(∀ b u,b≠a->H b=some u->I b=some u)/\All2 (fun (g:GD) v=>TV K I g.td v) (gs.take i) n) ⟨f1,o1,rfl⟩ (fun i n I hi z=>⟨z.1,by have:=z.2.2.length; rw [length_take] at this; ac_nf⟩) ?_ ?_
 ·rintro i v n G hv ⟨B,D,L⟩;simpa only [length_singleton,List.replicate,JaD,map_cons,map_nil,Option.join_some];obtain ⟨p,hp,q,dq,J,N,rfl,hq,hz,hm⟩:=b2.2.at_ hv;have W:∀ {b:Addr} {u:HO},H b=some u->isTI u=true->G b=some u:=fun {b u} h t=>D _ _ (fun z=>by rw [z,j] at h; cases h; simp [isTI,isTF] at t) h;have T2:SameT H G:=fun b u t h=>W h (by cases u <;> first | exact t | (simp [isTF] at t));refine ⟨q,_,dq,_,rfl,W hq rfl,rfl,rfl,q,dq,_,_,_,J,N,rfl,W hq rfl,fun r C d R=>?_⟩;refine ⟨d _ _ B,fun b u U h=>d _ _ (D _ _ U h),?_⟩;rw [take_succ,hp];exact (L.mono (P':=fun (g:GD) v=>TV K C g.td v) fun _ _ z=>z.sameT d.t).append (.one ⟨r,J,N,rfl,SqT.of R,(hz.sameT T2).sameT d.t,(hm.sameT T2).sameT d.t⟩)
 ·rintro n G ⟨B,D,L⟩;rw [take_of_length_le ∅] at L;rename_i r l a0 G C d R;and_intros;refine ⟨O,m,d _ _ B,?_⟩;generalize y:upd C a (.dK m)=M;and_intros;have Z:r≠a:=fun z=>by rw [z,B] at l; cases l
  have e4:M r=some (.lst n):=by rw [<- y,Jag Z]; exact R
  have X:Same H M:=fun b u h=>by
   by_cases c:b=a
   ·subst c;rw [j] at h;cases h;rw [<- y,Jak]
   ·rw [<- y,Jag c];exact d _ _ (D _ _ c h)
  have f3:=d _ _ B;have S:∀ {b:Addr} {xs:List V},SqT K C b xs->SqT K M b xs:=fun {b xs} h=>by
   rcases h with (h | ⟨o,h⟩) | h
   ·exact .inl (.inl (by rw [<- y,Jag (fun z=>by rw [z,f3] at h; cases h)]; exact h))
   ·exact .inl (.inr ⟨o,by rw [<- y,Jag (fun z=>by rw [z,f3] at h; cases h)]; exact h⟩)
   ·exact .inr h
  have hn:H r=none:=by
   cases e:H r with
   | none=>rfl
   | some o=>rw [D _ _ Z e] at l; cases l
  exact k r n M X hn e4 ((L.mono (P':=fun (g:GD) v=>TV K C g.td v) fun _ _ z=>z.sameT d.t).mono fun p v ⟨b,J,N,h1,h2,⟨pz,h3,h4⟩,⟨pm,h5,h6⟩⟩=>⟨b,J,N,h1,S h2,⟨pz,h3,S h4⟩,⟨pm,h5,S h6⟩⟩)
abbrev BaV:Stmt:=inClass (top 49) 3
theorem JfY:Jan ["self","name"] ["self","name"] (Jae BaV):=by bv_decide
def Jb5 (K:W.Frag) (Ad:Adr):Sp:=fun vs H Q E=>∃ (x:Addr) (z:Str) (ls:List PD) (gs:List GD),vs=[.ref x, .str z]/\TK K Ad H x ls gs/\(z∉gs.map (·.nm)->E (.ref Ad.NoName) none H)/\(∀ g∈gs,g.nm=z->∀ l xs w H',Same H H'->H l=none->H' l=some (.lst xs)->All2 (CV H') w xs->Jbk ls g.st w g.en->(w.map (·.1)).Nodup->Q (.ref l) H')
theorem JfP (F:FunD K "way" "Thing.way" BaV dV f fd) (T:Txt K mg Ad)  : FnOk P w K mg base (CX1 P w) 1 f fd ["self","name"] (Jb5 K Ad):=by
 refine F.okx JfY (fun D H Q E h=>?_) (fun L A j s H D Q E J h=>?_)
 ·obtain ⟨x,z,V,B,rfl,_⟩:=h; rfl
 obtain ⟨x,z,V,B,rfl,h⟩:=h;have e:=J.units;refine ⟨_,(Jab (ps_if (Jel (Jdh (hu1 e) (pv 1) (Jas (pv 0) rfl)) (by with_unfolding_all rfl))
   (Jah (Jb4 PySem.F.excBase_ValueError T.Bb9 rfl T.BdR (Jaa JbQ Jad)))
   JaA)
   (Jah (Jaq (Jcf JeF rfl T.BdB JeV (Jaa (Ja0 (hu1 e) (Jas (pv 0) rfl) (pv 1) (fun _ _=>rfl)) Jad))))),?_⟩
 clear e;obtain ⟨⟨u,d1,d2,d,k1,Y,Z,r,X,b1,I,b2,a,q⟩,M,k⟩:=h;have b:=T.Ba8 _ rfl;show tSeq _ _ _ [some (.ref x),some (.str z)] H;and_intros;refine ⟨x,_,u,_, .ref d,rfl,r,b.cls,b.n3,rfl,?_⟩;refine ⟨d,_,rfl,DGet.k (k:=Sum.inr z) a,?_⟩;rw [q.val];by_cases c:z∈B.map (·.nm)
 ·rw [decide_eq_true c];and_intros;obtain ⟨g,v,G,O,C,R,y,w,rfl,o,i,N,n⟩:=q.some c;refine ⟨x,_,u,_, .ref d,rfl,r,b.cls,b.n3,rfl,?_⟩;refine ⟨d,_,rfl,by rw [<- C]; exact DGet.k (k:=Sum.inr z) a,?_⟩;refine ⟨R,y,rfl, .inl (SqL.of o),?_⟩;rename_i l m S H W p U;and_intros;exact k g G O l y w W p m U (i.mono fun _ _ z=>z.sameT p.t) N n
 ·rw [decide_eq_false c];and_intros;exact ⟨by show 1<=sizeLine; decide,M c⟩
abbrev Bas:Stmt:=inClass (top 49) 4
theorem Ja3:Jan ["self","name","total","part","forward","size"] ["self","name"] (Jae Bas):=by bv_decide
def JbV (K:W.Frag) (Ad:Adr):Sp:=fun vs H Q E=>∃ (x:Addr) (z:Str) (ls:List PD) (gs:List GD),vs=[.ref x, .str z]/\TK K Ad H x ls gs/\(z∉gs.map (·.nm)->E (.ref Ad.NoName) none H)/\(∀ g∈gs,g.nm=z->∃ pl:Str->Fr2,(∀ u∈gs,u.nm=z->u=g)/\(∀ p∈ls, ∀ q∈ls,p.nm=q.nm->p=q)/\(∀ p∈ls,POk p)/\(∀ f,FB 302 161 (pl f))/\(∀ p∈ls,vl (pl p.en)=vl (pl p.st)+vl p.sz)/\∀ v H',Same H H'->FrV K H' v (mid pl g).1 (mid pl g).2->Q v H')
theorem Jed (F:FunD K "middle" "Thing.middle" Bas dV f fd) (T:Txt K mg Ad) (BdE:MCal P w K mg base 1 "way" (Ja8 Ad) ["self","name"] (Jb5 K Ad)) (Bc0:Cal P w K mg base 2 "plus" ["one","other"] [] (Jfp K)) (Bbg:Cal P w K mg base 3 "minus" ["one","other"] [] (Jdo K)):FnOk P w K mg base (CX1 P w) 4 f fd ["self","name"] (JbV K Ad):=by
 refine F.okx Ja3 (fun vs H Q E h=>?_) (fun a6 A a3 s H vs Q E L h=>?_)
 ·obtain ⟨x,z,I,gs,rfl,_⟩:=h; rfl
 obtain ⟨x,z,I,gs,rfl,h⟩:=h;have hu:=L.units;refine ⟨_,(Jab (Jaj (i:=2) Ja3.nd rfl (Or.inl rfl) (JcW (v:=.ref _) rfl T.Bdo T.Bdp))
   (Jab (Ja1 PassesOwn.leaving rfl (pi_U (BdE.m L ⋯ pass1 (pv 0) (Jaa (pv 1) Jad))) (JfV rfl (Jbh (Jar (i:=3) Ja3.nd rfl (Or.inl rfl)) (Jbh (Jar (i:=4) Ja3.nd rfl (Or.inl rfl)) Jdz)))
   (Jab (Jaj (i:=5) Ja3.nd rfl (Or.inl rfl) (Jas (Ja0 (hu1 hu) (Jas (pv 0) rfl) (pv 3) (fun _ _=>rfl)) rfl))
   (Jah (Jaj (i:=2) Ja3.nd rfl (Or.inl rfl) (Jg5 (Ja2 (pv 4)) (Bc0.ev L ⋯ rfl pass1 (Jaa (pv 2) (Jaa (pv 5) Jad)) (he:=by exact Jaf rfl)) (Bbg.ev L ⋯ rfl pass1 (Jaa (pv 2) (Jaa (pv 5) Jad)) (he:=by exact Jaf rfl)))))))
   (Jah (Jaq (pv 2))))),?_⟩
 clear hu;obtain ⟨ht,kn,k⟩:=h;obtain ⟨dx,d1,d2,d3,k1,k2,k3,hx,W,b1,_⟩:=id ht;have tc:=T.Ba8 _ rfl;have pc:=T.BcY _ rfl;show tSeq _ _ _ [some (.ref x),some (.str z),none,none,none,none] H;and_intros;refine ⟨x,_,dx,_,rfl,hx,rfl,rfl,x,z,I,gs,rfl,ht,kn,fun g hg hz l xs w H1 S1 a7 e1 C hw _=>?_⟩;obtain ⟨a,a5,hN,hP,o,hV,k⟩:=k g hg hz;have lg:=Jku hV hw;have lx:=C.length;refine ⟨l,rfl,ForA.byL (xs:=xs) (SqL.of e1) (fun i σ Z=>i<=xs.length/\∃ (Y S X:Option V) (t:V) (f:Str),σ=[some (.ref x),some (.str z),some t,Y,S,X]/\Same H1 Z/\FrV K Z t (addF (a f) (negF (a g.st))).1 (addF (a f) (negF (a g.st))).2/\Legs I a f (w.drop i) g.en) ⟨Nat.zero_le _,none,none,none, .ref Ad.ZERO,g.st,rfl,Same.refl _,by rw [Jja (o _)]; exact ⟨Ad.ZERO,rfl,T.Bdq _⟩,lg⟩ (fun i σ Z q=>by obtain ⟨_,_,_,_,_,_,_,q,_⟩:=q; exact SqL.of (q _ _ e1)) ?_ ?_⟩
 ·rintro i y σ U hy ⟨hi,Y,S,X,t,f,rfl,u,N,B⟩;have li:i<xs.length:=(List.getElem?_eq_some_iff.mp hy).1;obtain ⟨pr,J,b,rfl,hb⟩:=C.at_ hy;have D:i<w.length:=by ac_nf
  have a0:w.drop i=pr::w.drop (i+1):=by
   rw [List.drop_eq_getElem_cons D];rw [List.getElem?_eq_getElem D] at J;rw [Option.some.inj J]
  rw [a0] at B;have d:=S1.trans u;obtain ⟨p,j,n,rfl,hp,hv,G⟩:∃ p j n,pr=(p.nm,j)/\p∈I/\vl (a n)=vl (a f)+vl (sgn j p.sz)/\Legs I a n (w.drop (i+1)) g.en:=by
   cases B with
   | cons h1 h2 h3=>exact ⟨_,_,_,rfl,h1,h2,h3⟩
  and_intros;refine ⟨b,_,rfl,SqT.of (u _ _ hb),rfl,?_⟩;and_intros;obtain ⟨q,v,hq,a2,a1,qa,dq,M,vm,rfl,R,a4,hm⟩:=b1.some (z:=p.nm) (mem_map.mpr ⟨p,hp,rfl⟩);have eq:=hN q hq p hp a2;subst eq;refine ⟨x,_,dx,_, .ref d1,rfl,d _ _ hx,tc.cls,tc.n1,rfl,?_⟩;refine ⟨d1,_,rfl,by rw [<- a1]; exact DGet.k (k:=Sum.inr q.nm) (d _ _ W),?_⟩;refine ⟨qa,_,dq,_,M,rfl,d _ _ R,pc.cls,pc.n4,rfl,?_⟩;have c:=(hP q hq).z;have e:FB 464 322 (addF (a f) (negF (a g.st))):=FB.add (o _) (o _).neg ⋯ ⋯ ⋯;have fz:FrV K U M q.sz.1 q.sz.2:=a4.same d;have st:=Jkt (o f) (o n) (z:=sgn j q.sz) (by cases j; exact (L2.FOk.fb c).neg; exact L2.FOk.fb c) (o g.st) hv;and_intros;cases j with
  | true=>
   and_intros;refine ⟨t,M,_,_,_,_,rfl,N,fz,e.s1.mono ⋯,e.s2.mono ⋯,c.s1.mono ⋯,c.s2.mono ⋯,e.b1,c.b1,e.g1,c.g1,fun r H3 S3 O=>?_⟩;exact ⟨li,_,_,_, .ref r,n,rfl,u.trans S3,by rw [<- st]; exact FrV.of O,G⟩
  | false=>
   and_intros;refine ⟨t,M,_,_,_,_,rfl,N,fz,e.s1.mono ⋯,e.s2.mono ⋯,c.s1.mono ⋯,c.s2.mono ⋯,e.b1,c.b1,e.g1,c.g1,fun r H3 S3 O=>?_⟩;refine ⟨li,_,_,_, .ref r,n,rfl,u.trans S3,?_,G⟩;rw [<- st];refine FrV.of ?_;rw [O];show _=some (HO.tup [.int (Mth.top (_*q.sz.2 + -q.sz.1*_) _), .int (Mth.bot (_*q.sz.2 + -q.sz.1*_) _)]);rw [Int.neg_mul, <- Int.sub_eq_add_neg];rfl
 ·rintro σ U ⟨hi,Y,S,X,t,f,rfl,u,N,B⟩;rw [List.drop_eq_nil_of_le ∅] at B;cases B;and_intros;exact k t U (S1.trans u) N
abbrev BaK:Stmt:=inClass (top 49) 5
theorem Jbm:Jan ["self","name","middle","gap","above","below"] ["self","name"] (Jae BaK):=by bv_decide
def Jcq (K:W.Frag) (Ad:Adr):Sp:=fun vs H Q E=>∃ (x:Addr) (z:Str) (ls:List PD) (gs:List GD),vs=[.ref x, .str z]/\TK K Ad H x ls gs/\(z∉gs.map (·.nm)->E (.ref Ad.NoName) none H)/\(∀ g∈gs,g.nm=z->∃ pl:Str->Fr2,(∀ u∈gs,u.nm=z->u=g)/\(∀ p∈ls, ∀ q∈ls,p.nm=q.nm->p=q)/\(∀ p∈ls,POk p)/\(∀ f,FB 302 161 (pl f))/\(∀ p∈ls,vl (pl p.en)=vl (pl p.st)+vl p.sz)/\TOk g.td/\∀ v H',Same H H'->FrV K H' v (roomF pl g).1 (roomF pl g).2->Q v H')
theorem Je8 (F:FunD K "room" "Thing.room" BaK dV f fd) (T:Txt K mg Ad) (Bc7:MCal P w K mg base 4 "middle" (Ja8 Ad) ["self","name"] (JbV K Ad)) (Bbg:Cal P w K mg base 3 "minus" ["one","other"] [] (Jdo K)) (BaF:Cal P w K mg base 1 "under" ["one","other"] [] (Jcy K)):FnOk P w K mg base (CX1 P w) 5 f fd ["self","name"] (Jcq K Ad):=by
 refine F.okx Jbm (fun vs H Q E h=>?_) (fun a0 A I s H vs Q E n h=>?_)
 ·obtain ⟨x,z,ls,gs,rfl,_⟩:=h; rfl
 obtain ⟨x,z,ls,gs,rfl,h⟩:=h;have S:=n.units;refine ⟨_,(Jab (Jaj (i:=2) Jbm.nd rfl (Or.inl rfl) (Bc7.m n ⋯ pass1 (pv 0) (Jaa (pv 1) Jad)))
   (Jab (Jaj (i:=3) Jbm.nd rfl (Or.inl rfl) (Ja0 (hu1 S) (Jas (pv 0) rfl) (pv 1) (fun _ _=>rfl)))
   (Jab (Jaj (i:=4) Jbm.nd rfl (Or.inl rfl) (Bbg.ev n ⋯ rfl pass1 (Jaa (Jas (pv 3) rfl) (Jaa (pv 2) Jad)) (he:=by exact Jaf rfl)))
   (Jab (Jaj (i:=5) Jbm.nd rfl (Or.inl rfl) (Bbg.ev n ⋯ rfl pass1 (Jaa (pv 2) (Jaa (Jas (pv 3) rfl) Jad)) (he:=by exact Jaf rfl)))
   (Jah (Jaq (Jg5 (Ja2 (BaF.ev n ⋯ rfl pass1 (Jaa (pv 4) (Jaa (pv 5) Jad)) (he:=by exact Jaf rfl))) (pv 4) (pv 5)))))))),?_⟩
 clear S;obtain ⟨Z,kn,k⟩:=h;obtain ⟨dx,d1,d2,d3,k1,k2,k3,hx,a1,b1,D,b2,_⟩:=id Z;have O:=T.Ba8 _ rfl;have t:=T.BdG _ rfl;show tSeq _ _ _ [some (.ref x),some (.str z),none,none,none,none] H;and_intros;refine ⟨x,_,dx,_,rfl,hx,rfl,rfl,x,z,ls,gs,rfl,Z,kn,fun g W hz=>?_⟩;obtain ⟨U,q,hN,hP,hB,hV,X,k⟩:=k g W hz;refine ⟨U,q,hN,hP,hB,hV,fun v H1 o fm=>?_⟩;have b:=Jlp (g:=g) hB;unfold roomF at k;generalize mid U g=m at *;and_intros;obtain ⟨a,v',y,L,M,Y,N,l,e,rfl,p,J,C⟩:=b2.some (z:=z) (mem_map.mpr ⟨g,W,hz⟩);have eg:=q a y L;subst eg;have j:=X.lo _ rfl;have r:=X.hi _ rfl;refine ⟨x,_,dx,_, .ref d2,rfl,o _ _ hx,O.cls,O.n2,rfl,?_⟩;refine ⟨d2,_,rfl,by rw [<- M]; exact DGet.k (k:=Sum.inr z) (o _ _ D),?_⟩;and_intros;refine ⟨Y,_,N,_,e,rfl,o _ _ p,t.cls,t.n5,rfl,?_⟩;refine ⟨e,v,_,_,_,_,rfl,C.same o,fm,r.s1.mono ⋯,r.s2.mono ⋯,b.s1.mono ⋯,b.s2.mono ⋯,r.b1,b.b1,r.g1,b.g1,fun r1 H2 S2 e2=>?_⟩;and_intros;have d:=o.trans S2;refine ⟨Y,_,N,_,l,rfl,d _ _ p,t.cls,t.n4,rfl,?_⟩;refine ⟨v,l,_,_,_,_,rfl,fm.same S2,J.same d,b.s1.mono ⋯,b.s2.mono ⋯,j.s1.mono ⋯,j.s2.mono ⋯,b.b1,j.b1,b.g1,j.g1,fun R u G e3=>?_⟩;and_intros;have ea:addF a.hi (negF m)=(Mth.top (a.hi.1*m.2-m.1*a.hi.2) (a.hi.2*m.2),Mth.bot (a.hi.1*m.2-m.1*a.hi.2) (a.hi.2*m.2)):=by
  unfold addF negF;dsimp only;rw [Int.neg_mul, <- Int.sub_eq_add_neg]
 have eb:addF m (negF a.lo)=(Mth.top (m.1*a.lo.2-a.lo.1*m.2) (m.2*a.lo.2),Mth.bot (m.1*a.lo.2-a.lo.1*m.2) (m.2*a.lo.2)):=by
  unfold addF negF;dsimp only;rw [Int.neg_mul, <- Int.sub_eq_add_neg]
 have fa:FrV K u (.ref r1) (addF a.hi (negF m)).1 (addF a.hi (negF m)).2:=by rw [ea]; exact FrV.of (G _ _ e2)
 have fb:FrV K u (.ref R) (addF m (negF a.lo)).1 (addF m (negF a.lo)).2:=by rw [eb]; exact FrV.of e3
 have V:=FB.add' (L2.FOk.fb r) b.neg;have bb:=FB.add' b (L2.FOk.fb j).neg;generalize addF a.hi (negF m)=A at *;generalize addF m (negF a.lo)=B at *;refine ⟨.ref r1, .ref R,A.1,A.2,B.1,B.2,rfl,fa,fb,V.s1.mono ⋯,V.s2.mono ⋯,bb.s1.mono ⋯,bb.s2.mono ⋯,?_⟩;and_intros;by_cases c:lessF A B=true
 ·rw [if_pos c] at k;rw [if_pos (show decide (A.1*B.2<B.1*A.2)=true from c)];and_intros;exact k _ u (d.trans G) fa
 ·rw [if_neg c] at k;rw [if_neg (show ¬ decide (A.1*B.2<B.1*A.2)=true from c)];and_intros;exact k _ u (d.trans G) fb
abbrev Bak:Stmt:=inClass (top 17) 0
theorem Jbu:Jan ["self","numbers","number","factor"] ["self","numbers"] (Jae Bak):=by bv_decide
def Jbx (K:W.Frag) (Ad:Adr):Sp:=fun vs H Q E=>∃ (x dx a:Addr) (xs:List V) (ns:List Fr2),vs=[.ref x, .ref a]/\H x=some (.ins Ad.Scale dx [])/\H a=some (.lst xs)/\All2 (FLV K H) ns xs/\ns.length<=28/\(∀ n∈ns,1<=n.2/\Mth.Sz 70 n.2)/\∀ b fs fl H',H' x=some (.ins Ad.Scale dx [("bottom", .int b),("factors", .ref fl)])->H fl=none->H' fl=some (.lst (fs.map V.int))->(∀ c u,c≠x->H c=some u->H' c=some u)->Scl b fs->Mth.Sz 2000 b->fs.length<=30->Q .non H'
theorem Jdw (F:FunD K "__init__" "Scale.__init__" Bak dV f fd) (T:Txt K mg Ad) (Bac:Cal P w K mg base 1 "common_divisor" ["one","other"] [] (JaE)):FnOk P w K mg base (CX1 P w) 2 f fd ["self","numbers"] (Jbx K Ad):=by
 refine F.okn Jbu (by subst_eqs) (fun a4 A a2 s H vs Q E hr h=>?_)
 obtain ⟨x,j,a,xs,ns,rfl,h⟩:=h;refine ⟨_,(Jab (Ja6 (pv 0) Jac rfl)
   (Jab (Ja6 (pv 0) (Ja5 Jad) rfl)
   (Jah (Ja1 PassesOwn.never rfl (pi_U (pv 1)) (Jar (i:=2) Jbu.nd rfl (Or.inl rfl))
   (Jab (Jaj (i:=3) Jbu.nd rfl (Or.inl rfl) (pe_op Jat (pe_ix ix_U (pv 2) Jac (fun _ _=>rfl)) (Bac.ev hr ⋯ rfl passF (Jaa (Jas (pv 0) rfl) (Jaa (pe_ix ix_U (pv 2) Jac (fun _ _=>rfl)) Jad)) (he:=by exact Jaf rfl))))
   (Jah (ps_if (Jax Jg2 (pv 3) Jac (Jaz _))
   (Jab (Ja6 (pv 0) (pe_op JaB (Jas (pv 0) rfl) (pv 3)) rfl)
   (Jah (Ja9 (pe_bm PySem.F.plainAttrs_list PySem.F.slot_list_append PySem.F.type_list_append Ja7 (Jas (pv 0) rfl) (Jaa (pv 3) Jad) (hs:=by exact Jaf rfl)))))
   JaA))))))),?_⟩
 obtain ⟨e0,S,hN,hl,a0,k⟩:=h;have e:=T.BcN Ad.Scale rfl;have sl:(1000:Nat)<=sizeLine:=by decide
 have lx:=hN.length;show tSeq _ _ _ [some (.ref x),some (.ref a),none,none] H;symm_saturate;refine ⟨x,_,j,_,rfl,e0,e.cls,e.n1,by simp,?_⟩;generalize u1:upd H x _=H1;symm_saturate;have Z:H1 x=some (.ins Ad.Scale j [("bottom", .int 1)]):=by rw [<- u1]; exact Jak.trans rfl
 have o1:∀ b,b≠x->H1 b=H b:=fun b hb=>by rw [<- u1,Jag hb]
 symm_saturate;refine ⟨len0,?_⟩;rename_i d l a3 H1 H2 W e2;symm_saturate;symm_saturate;refine ⟨x,_,j,_,rfl,W _ _ Z,e.cls,e.n2,by simp,?_⟩;generalize N:upd H2 x _=X;symm_saturate;have e3:X x=some (.ins Ad.Scale j [("bottom", .int 1),("factors", .ref d)]):=by rw [<- N]; exact Jak.trans rfl
 have J:d≠x:=fun z=>by rw [z,Z] at l; cases l
 have f3:X d=some (.lst []):=by rw [<- N,Jag J]; exact e2
 have o3:∀ c u,c≠x->H c=some u->X c=some u:=fun c u C h=>by rw [<- N,Jag C]; exact W _ _ (by rw [o1 c C]; exact h)
 have o:H d=none:=by rw [<- o1 d J]; exact l
 have D:a≠x:=fun z=>by rw [z,e0] at S; cases S
 have a1:SameT H X:=(SameT.put u1 e0 rfl).trans (W.t.trans (SameT.put N (W _ _ Z) rfl));symm_saturate;refine ⟨a,rfl,ForA.byL (xs:=xs) (SqL.of (o3 _ _ D S)) (fun i σ G=>i<=xs.length/\∃ (v2 v3:Option V) (b:Int) (m:List Int),σ=[some (.ref x),some (.ref a),v2,v3]/\G x=some (.ins Ad.Scale j [("bottom", .int b),("factors", .ref d)])/\G d=some (.lst (m.map V.int))/\(∀ c u,c≠x->H c=some u->G c=some u)/\SameT H G/\Scl b m/\Mth.Sz (1+70*i) b/\m.length<=i) ⟨Nat.zero_le _,none,none,1,[],rfl,e3,f3,o3,a1,Scl.nil, .lit ⋯ ⋯,Nat.le_refl _⟩ (fun i σ G q=>by obtain ⟨_,_,_,_,_,_,_,_,q,_⟩:=q; exact SqL.of (q _ _ D S)) ?_ ?_⟩
 ·rintro i y σ I hy ⟨hi,v2,v3,b,m,rfl,p,R,Y,L,hs,B,lf⟩;have li:=(List.getElem?_eq_some_iff.mp hy).1;obtain ⟨n,hn,U⟩:=hN.at_ hy;have U:FrV K I y n.1 n.2:=FrV.sameT L U;have r:=a0 n (List.mem_of_getElem? hn);have B:Mth.Sz 2000 b:=B.mono ∅;have gp:=Mth.g_pos (a:=b) (b:=n.2) ∅;have gd:=Mth.JbI b n.2;have gl:=Mth.g_le (a:=b) (b:=n.2) ∅;have d1:DivOk (Mth.g b n.2):=divOk (n:=70) ∅ (Nat.lt_of_le_of_lt (by ac_nf:(Mth.g b n.2).natAbs<=n.2.natAbs) r.2);have f1:=Mth.Jb1 gd ∅ r.1;have sf:Mth.Sz 70 (n.2.fdiv (Mth.g b n.2)):=r.2.fdiv gd ∅;symm_saturate;refine ixF1 U ?_;refine ⟨x,_,j,_, .int b,rfl,p,e.cls,e.n1,rfl,?_⟩;refine ixF1 U ?_;symm_saturate;refine ⟨_,_,rfl,?_⟩;symm_saturate;refine ⟨d1,?_⟩;generalize n.2.fdiv (Mth.g b n.2)=f at *;symm_saturate;by_cases c:1<f
  ·rw [if_pos (by simpa using c)];symm_saturate;try simpa only [y4dy,y84y]
   refine ⟨x,_,j,_, .int b,rfl,p,e.cls,e.n1,rfl,?_⟩;try simpa only [y4dy,y84y]
   refine ⟨mulOk B sf,?_⟩;refine ⟨x,_,j,_,rfl,p,e.cls,e.n1,by simp,?_⟩;generalize O:upd I x _=v;symm_saturate;have e5:v x=some (.ins Ad.Scale j [("bottom", .int (b*f)),("factors", .ref d)]):=by rw [<- O]; exact Jak.trans rfl
   have f5:v d=some (.lst (m.map V.int)):=by rw [<- O,Jag J]; exact R
   have T5:SameT I v:=SameT.put O p rfl;try simpa only [y4dy,y84y]
   refine ⟨x,_,j,_, .ref d,rfl,e5,e.cls,e.n2,rfl,?_⟩;refine ⟨.inl ⟨rfl,_,SqL.of f5⟩,?_⟩;symm_saturate;refine ⟨d,_,_,rfl,rfl,f5,by rw [length_map]; ac_nf,?_⟩;generalize M:upd v d _=H6;symm_saturate;have f6:=putE M;have T6:SameT v H6:=SameT.put M f5 rfl;symm_saturate;refine ⟨li,_,_,b*f,m++[f],rfl,by rw [<- M,Jag (Ne.symm J)]; exact e5,by rw [f6]; simp,fun c u C h=>by rw [<- M,Jag (Jai h o), <- O,Jag C]; exact Y c u C h,L.trans (T5.trans T6),hs.snoc ∅,?_,by simp; ac_nf⟩;have:=(show Mth.Sz (1+70*i) b by assumption).mul sf;exact this.mono ∅
  ·rw [if_neg (by simpa using c)];symm_saturate;symm_saturate;exact ⟨li,_,_,b,m,rfl,p,R,Y,L,hs,(show Mth.Sz (1+70*i) b by assumption).mono ∅,by ac_nf⟩
 ·rintro σ I ⟨hi,v2,v3,b,m,rfl,p,R,Y,L,hs,B,lf⟩;symm_saturate;exact k b m d I p o R Y hs (B.mono ∅) ∅
abbrev Bat:Stmt:=inClass (top 17) 1
theorem JaS:Jan ["self","number","top","rest","factor","shared"] ["self","number"] (Jae Bat):=by bv_decide
def Jbr (K:W.Frag) (Ad:Adr):Sp:=fun vs H Q E=>∃ (x:Addr) (v:V) (n:Fr2) (b:Int) (fs:List Int),vs=[.ref x,v]/\SCK Ad H x b fs/\FrV K H v n.1 n.2/\FB 200 56 n/\∀ p (t:Fr2) H',Same H H'->H' p=some (.tup [.int t.1, .int t.2])->LInv n b t->Q (.ref p) H'
theorem Jec (F:FunD K "lifted" "Scale.lifted" Bat dV f fd) (T:Txt K mg Ad) (Bac:Cal P w K mg base 1 "common_divisor" ["one","other"] [] (JaE)):FnOk P w K mg base (CX1 P w) 2 f fd ["self","number"] (Jbr K Ad):=by
 refine F.okn JaS (by subst_eqs) (fun a1 A R s H vs Q E Z h=>?_)
 obtain ⟨x,v,n,b,d,rfl,h⟩:=h;have X:=Z.units;refine ⟨_,(Jab (ps_if (Jax (JbP X) (pe_op JaG (Jas (pv 0) rfl) (pe_ix ix_U (pv 1) Jac (fun _ _=>rfl))) Jac (Jaz _))
   (Jah (Jaq (JaJ (Jaa (pe_op JaB (pe_ix ix_U (pv 1) Jac (fun _ _=>rfl)) (pe_op Jat (Jas (pv 0) rfl) (pe_ix ix_U (pv 1) Jac (fun _ _=>rfl)))) (Jaa Jac Jad)))))
   JaA)
   (Jab (Jaj (i:=2) JaS.nd rfl (Or.inl rfl) (pe_ix ix_U (pv 1) Jac (fun _ _=>rfl)))
   (Jab (Jaj (i:=3) JaS.nd rfl (Or.inl rfl) (pe_ix ix_U (pv 1) Jac (fun _ _=>rfl)))
   (Jab (Ja1 PassesOwn.never rfl (pi_U (Jas (pv 0) rfl)) (Jar (i:=4) JaS.nd rfl (Or.inl rfl))
   (Jab (Jaj (i:=5) JaS.nd rfl (Or.inl rfl) (Bac.ev Z ⋯ rfl passF (Jaa (pv 3) (Jaa (pv 4) Jad)) (he:=by exact Jaf rfl)))
   (Jab (Jaj (i:=2) JaS.nd rfl (Or.inl rfl) (pe_op JaB (pv 2) (pe_op Jat (pv 4) (pv 5))))
   (Jah (Jaj (i:=3) JaS.nd rfl (Or.inl rfl) (pe_op Jat (pv 3) (pv 5)))))))
   (Jah (Jaq (JaJ (Jaa (pv 2) (Jaa (pv 3) Jad))))))))),?_⟩
 clear X;obtain ⟨⟨O,Y,N,hf,B,G,a0⟩,u,r,k⟩:=h;have j:=T.BcN Ad.Scale rfl;have sl:(1000:Nat)<=sizeLine:=by decide
 have D:=r.b1;have b1:=B.b1;have d1:DivOk n.2:=divOk (n:=56) ∅ r.s2;show tSeq _ _ _ [some (.ref x),some v,none,none,none,none] H;and_intros;refine ⟨x,_,O,_, .int b,rfl,N,j.cls,j.n1,rfl,?_⟩;refine ixF1 u ?_;and_intros;refine ⟨by ac_nf,?_⟩;by_cases c:b.fmod n.2=0
 ·rw [if_pos (by simpa using c)];and_intros;and_intros;refine ixF0 u ?_;refine ⟨x,_,O,_, .int b,rfl,N,j.cls,j.n1,rfl,?_⟩;refine ixF1 u ?_;and_intros;have dv:n.2∣b:=by
   rw [Int.fmod_eq_emod_of_nonneg _ ∅] at c;exact Int.dvd_of_emod_eq_zero c
  refine ⟨d1,mulOk r.s1 (G.fdiv dv D),len2,?_⟩;rename_i p J L H W M U;and_intros;exact k p (n.1*b.fdiv n.2,1) W M U (LInv.all D c)
 ·rw [if_neg (by simpa using c)];and_intros;and_intros;refine ixF0 u ?_;and_intros;refine ixF1 u ?_;and_intros;refine ⟨x,_,O,_, .ref Y,rfl,N,j.cls,j.n2,rfl,?_⟩;refine ⟨Y,rfl,ForA.byL (xs:=d.map V.int) (SqL.of hf) (fun i σ o=>i<=(d.map V.int).length/\o=H/\∃ (t:Fr2) (S I:Option V),σ=[some (.ref x),some v,some (.int t.1),some (.int t.2),S,I]/\LInv n (prodI (d.take i)) t) ⟨Nat.zero_le _,rfl,n,none,none,rfl,LInv.nil D r.g1⟩ (fun i σ o q=>by rw [q.2.1]; exact SqL.of hf) ?_ ?_⟩
  ·rintro i y σ o l ⟨hi,rfl,t,S,I,rfl,m⟩;have C:=(List.getElem?_eq_some_iff.mp l).1;rw [length_map] at C;rw [List.getElem?_map,List.getElem?_eq_getElem C] at l;obtain ⟨f,e⟩:∃ f,f=d[i]:=⟨_,rfl⟩;rw [<- e] at l;have l:y=.int f:=(Option.some.inj l).symm;subst l;have fm:f∈d:=by rw [e]; exact List.getElem_mem C
   have f1:=B.f1 f fm;have z:Mth.Sz 2000 f:=sz_le G ∅ (B.mem fm);have tk:=B.take i;have tb:=m.fb r (sz_le G ∅ tk.2);have gp:=Mth.g_pos (a:=t.2) (b:=f) ∅;have gl:=Mth.g_le (a:=t.2) (b:=f) ∅;have dg:DivOk (Mth.g t.2 f):=divOk (n:=2000) ∅ (Nat.lt_of_le_of_lt (by ac_nf:(Mth.g t.2 f).natAbs<=f.natAbs) z);have qf:=z.fdiv (Mth.JbI t.2 f) ∅;have st:=m.step f1;have et:prodI (d.take (i+1))=prodI (d.take i)*f:=by
    rw [take_succ,List.getElem?_eq_getElem C, <- e];exact Jcg f _
   and_intros;refine ⟨_,_,rfl,?_⟩;and_intros;refine ⟨dg,mulOk tb.s1 qf,?_⟩;and_intros;refine ⟨dg,?_⟩;and_intros;exact ⟨by rw [length_map]; ac_nf,(t.1*f.fdiv (Mth.g t.2 f),t.2.fdiv (Mth.g t.2 f)),_,_,rfl,by rw [et]; exact st⟩
  ·rintro σ o ⟨hi,rfl,t,S,I,rfl,m⟩;rw [take_of_length_le (by rw [length_map]; ac_nf),B.pr] at m;and_intros;refine ⟨len2,?_⟩;rename_i p J L o W M U;and_intros;exact k p t W M U m
abbrev Bao:Stmt:=inClass (top 17) 2
theorem JaO:Jan ["self","number","top","bottom","factor","shared"] ["self","number"] (Jae Bao):=by bv_decide
def JbG (K:W.Frag) (Ad:Adr):Sp:=fun vs H Q E=>∃ (x:Addr) (v:V) (n:Fr2) (b:Int) (fs:List Int),vs=[.ref x,v]/\SCK Ad H x b fs/\FrV K H v n.1 n.2/\FB 3000 1000 n/\∀ p (t:Fr2) H',Same H H'->H' p=some (.tup [.int t.1, .int t.2])->LoInv n b t->Q (.ref p) H'
theorem JdL (F:FunD K "lowered" "Scale.lowered" Bao dV f fd) (T:Txt K mg Ad) (Bac:Cal P w K mg base 1 "common_divisor" ["one","other"] [] (JaE)):FnOk P w K mg base (CX1 P w) 2 f fd ["self","number"] (JbG K Ad):=by
 refine F.okn JaO (by subst_eqs) (fun a0 A B s H R Q E X h=>?_)
 obtain ⟨x,v,n,b,c,rfl,h⟩:=h;refine ⟨_,(Jab (Jaj (i:=2) JaO.nd rfl (Or.inl rfl) (pe_ix ix_U (pv 1) Jac (fun _ _=>rfl)))
   (Jab (Jaj (i:=3) JaO.nd rfl (Or.inl rfl) (pe_ix ix_U (pv 1) Jac (fun _ _=>rfl)))
   (Jab (Ja1 PassesOwn.never rfl (pi_U (Jas (pv 0) rfl)) (Jar (i:=4) JaO.nd rfl (Or.inl rfl))
   (Jab (Jaj (i:=5) JaO.nd rfl (Or.inl rfl) (Bac.ev X ⋯ rfl passF (Jaa (pv 2) (Jaa (pv 4) Jad)) (he:=by exact Jaf rfl)))
   (Jab (Jaj (i:=2) JaO.nd rfl (Or.inl rfl) (pe_op Jat (pv 2) (pv 5)))
   (Jah (Jaj (i:=3) JaO.nd rfl (Or.inl rfl) (pe_op JaB (pv 3) (pe_op Jat (pv 4) (pv 5))))))))
   (Jah (Jaq (JaJ (Jaa (pv 2) (Jaa (pv 3) Jad)))))))),?_⟩
 obtain ⟨⟨dx,I,hx,M,o,D,Y⟩,J,z,k⟩:=h;have G:=T.BcN Ad.Scale rfl;have n1:=z.b1;have b1:=o.b1;show tSeq _ _ _ [some (.ref x),some v,none,none,none,none] H;and_intros;refine ixF0 J ?_;and_intros;refine ixF1 J ?_;and_intros;refine ⟨x,_,dx,_, .ref I,rfl,hx,G.cls,G.n2,rfl,?_⟩;refine ⟨I,rfl,ForA.byL (xs:=c.map V.int) (SqL.of M) (fun i σ l=>i<=(c.map V.int).length/\l=H/\∃ (t:Fr2) (C u:Option V),σ=[some (.ref x),some v,some (.int t.1),some (.int t.2),C,u]/\LoInv n (prodI (c.take i)) t) ⟨Nat.zero_le _,rfl,n,none,none,rfl,LoInv.nil z.lo⟩ (fun i σ l q=>by rw [q.2.1]; exact SqL.of M) ?_ ?_⟩
 ·rintro i y σ l e ⟨hi,rfl,t,C,u,rfl,j⟩;have r:=(List.getElem?_eq_some_iff.mp e).1;rw [length_map] at r;rw [List.getElem?_map,List.getElem?_eq_getElem r] at e;obtain ⟨f,d⟩:∃ f,f=c[i]:=⟨_,rfl⟩;rw [<- d] at e;have e:y=.int f:=(Option.some.inj e).symm;subst e;have fm:f∈c:=by rw [d]; exact List.getElem_mem r
  have S:=o.f1 f fm;have m:Mth.Sz 2000 f:=sz_le D ∅ (o.mem fm);have U:=o.take i;have pb:Mth.Sz 2000 (prodI (c.take i)):=sz_le D ∅ U.2;have N:Mth.Sz 3000 t.2:=by
   refine Nat.lt_of_le_of_lt j.le2 ?_;have:=z.s2.mul pb;unfold Mth.Sz at this;rw [Int.natAbs_mul] at this;exact this
  have gp:=Mth.g_pos (a:=t.1) (b:=f) ∅;have gl:=Mth.g_le (a:=t.1) (b:=f) ∅;have L:DivOk (Mth.g t.1 f):=divOk (n:=2000) ∅ (Nat.lt_of_le_of_lt (by ac_nf:(Mth.g t.1 f).natAbs<=f.natAbs) m);have qf:=m.fdiv (Mth.JbI t.1 f) ∅;have st:=j.step S;have O:prodI (c.take (i+1))=prodI (c.take i)*f:=by
   rw [take_succ,List.getElem?_eq_getElem r, <- d];exact Jcg f _
  and_intros;refine ⟨_,_,rfl,?_⟩;and_intros;refine ⟨L,?_⟩;and_intros;refine ⟨L,mulOk N qf,?_⟩;and_intros;exact ⟨by rw [length_map]; ac_nf,(t.1.fdiv (Mth.g t.1 f),t.2*f.fdiv (Mth.g t.1 f)),_,_,rfl,by rw [O]; exact st⟩
 ·rintro σ l ⟨hi,rfl,t,C,u,rfl,j⟩;rw [take_of_length_le (by rw [length_map]; ac_nf),o.pr] at j;and_intros;refine ⟨len2,?_⟩;rename_i p W Z l H1 S1 e1;and_intros;exact k p t H1 S1 e1 j
abbrev Ba1:Stmt:=top 30
theorem Jcn:Jan ["thing","numbers","part","gap"] ["thing"] (Jae Ba1):=by bv_decide
def Jc4 (K:W.Frag) (Ad:Adr):Sp:=fun vs H Q E=>∃ (x:Addr) (ls:List PD) (gs:List GD),vs=[.ref x]/\TK K Ad H x ls gs/\ls.length<=12/\gs.length<=7/\ls.length+gs.length<=14/\(∀ p∈ls,(1<=p.sz.2/\Mth.Sz 70 p.sz.2)/\1<=p.mo.2/\Mth.Sz 70 p.mo.2)/\(∀ g∈gs,(1<=g.lo.2/\Mth.Sz 70 g.lo.2)/\1<=g.hi.2/\Mth.Sz 70 g.hi.2)/\∀ s b fs H',Same H H'->SCK Ad H' s b fs->Q (.ref s) H'
theorem Jgw (F:FunD K "scale_of" "scale_of" Ba1 dV f fd) (T:Txt K mg Ad) (BaG:MCal P w K mg base 2 "parts" (Ja8 Ad) ["self"] (JaZ K Ad)) (Bcn:MCal P w K mg base 2 "gaps" (Ja8 Ad) ["self"] (Jbs K Ad)) (Bds:KCal P w K mg base 2 "Scale" Ad.Scale ["self","numbers"] (Jbx K Ad)):FnOk P w K mg base (CX1 P w) 4 f fd ["thing"] (Jc4 K Ad):=by
 refine F.okn Jcn (by subst_eqs) (fun b8 A b4 s H vs Q E hr h=>?_)
 obtain ⟨x,ls,gs,rfl,h⟩:=h;refine ⟨_,(Jab (Jaj (i:=1) Jcn.nd rfl (Or.inl rfl) (Ja5 Jad))
   (Jab (Ja1 PassesOwn.never rfl (pi_U (BaG.m0 hr ⋯ passF (pv 0))) (Jar (i:=2) Jcn.nd rfl (Or.inl rfl))
   (Jah (Ja9 (pe_bm PySem.F.plainAttrs_list PySem.F.slot_list_extend PySem.F.type_list_extend JfM (pv 1) (Jaa (Ja5 (Jaa (pe_ix ix_U (pv 2) Jac (fun _ _=>rfl)) (Jaa (pe_ix ix_U (pv 2) Jac (fun _ _=>rfl)) Jad))) Jad)))))
   (Jab (Ja1 PassesOwn.never rfl (pi_U (Bcn.m0 hr ⋯ passF (pv 0))) (Jar (i:=3) Jcn.nd rfl (Or.inl rfl))
   (Jah (Ja9 (pe_bm PySem.F.plainAttrs_list PySem.F.slot_list_extend PySem.F.type_list_extend JfM (pv 1) (Jaa (Ja5 (Jaa (pe_ix ix_U (pv 3) Jac (fun _ _=>rfl)) (Jaa (pe_ix ix_U (pv 3) Jac (fun _ _=>rfl)) Jad))) Jad)))))
   (Jah (Jaq (Bds.ev hr ⋯ rfl passF (Jaa (pv 1) Jad))))))),?_⟩
 obtain ⟨ht,h7,h6,b7,a8,b1,k⟩:=h;obtain ⟨dx,d1,d2,d3,k1,k2,k3,hx,_⟩:=id ht;have sl:(1000:Nat)<=sizeLine:=by decide
 show tSeq _ _ _ [some (.ref x),none,none,none] H;nofun;refine ⟨len0,?_⟩;rename_i r N b6 H H1 S1 e1;nofun;nofun;refine ⟨x,_,dx,_,rfl,S1 _ _ hx,rfl,rfl,x,ls,gs,rfl,ht.same S1,by ac_nf,fun l ys H2 S2 a2 e2 hY=>?_⟩;have lY:=hY.length;have a9:l≠r:=fun z=>by rw [z,e1] at a2; cases a2
 nofun;refine ⟨l,rfl,ForA.byL (xs:=ys) (SqL.of e2) (fun i σ B=>i<=ys.length/\∃ (L M:Option V) (e:List V) (j:List Fr2),σ=[some (.ref x),some (.ref r),L,M]/\(∀ c u,c≠r->H2 c=some u->B c=some u)/\SameT H2 B/\B r=some (.lst e)/\All2 (FLV K B) j e/\(∀ n∈j,1<=n.2/\Mth.Sz 70 n.2)/\j.length=2*i) ⟨Nat.zero_le _,none,none,[],[],rfl,fun _ _ _ h=>h,(Same.refl _).t,S2 _ _ e1,rfl,(fun n d=>by cases d),rfl⟩ (fun i σ B q=>by obtain ⟨_,_,_,_,_,_,q,_⟩:=q; exact SqL.of (q _ _ a9 e2)) ?_ ?_⟩
 ·rintro i y σ H3 U ⟨hi,L,M,e,j,rfl,ho,Z,o,v,a,S⟩;have li:=(List.getElem?_eq_some_iff.mp U).1;have la:=v.length;obtain ⟨p,hp,b,vz,vm,rfl,hb,hz,hm⟩:=hY.at_ U;have a4:=a8 p (List.mem_of_getElem? hp);have W:=hb.sameT Z;nofun;refine ⟨.inl ⟨rfl,_,SqL.of o⟩,?_⟩;refine ixT (i:=3) W rfl ?_;refine ixT (i:=4) W rfl ?_;nofun;refine ⟨len2,?_⟩;rename_i tl X a1 H3 H4 J e4;nofun;refine ⟨r,tl,e,_,rfl,rfl,J _ _ o,e4,by simp only [length_cons,length_nil]; ac_nf,?_⟩;generalize u5:upd H4 r _=D;nofun;have e5:=putE u5;have T5:SameT H4 D:=SameT.put u5 (J _ _ o) rfl;have G:SameT H3 D:=J.t.trans T5;nofun;refine ⟨li,_,_,e++[vz,vm],j++[p.sz,p.mo],rfl,fun c u hc h=>by rw [<- u5,Jag hc]; exact J _ _ (ho c u hc h),Z.trans G,e5,(v.mono (P':=FLV K D) fun _ _ z=>z.sameT G).append ⟨vz,_,rfl,FrV.sameT (Z.trans G) hz,vm,_,rfl,FrV.sameT (Z.trans G) hm,rfl⟩,fun n d=>?_,by simp; ac_nf⟩;rcases mem_append.mp d with d | d
  ·exact a n d
  ·rcases mem_cons.mp d with rfl | d
   ·exact a4.1
   ·rw [mem_singleton.mp d]; exact a4.2
 ·rintro σ H3 ⟨hi,L,M,e,j,rfl,ho,Z,o,v,a,S⟩;have R:Same H H3:=fun c u h=>ho c u (Jai h N) (S2 _ _ (S1 _ _ h));nofun;refine ⟨x,_,dx,_,rfl,R _ _ hx,rfl,rfl,x,ls,gs,rfl,ht.same R,by ac_nf,fun m zs H4 J a3 e4 hZ=>?_⟩;have lZ:=hZ.length;have b3:m≠r:=fun z=>by rw [z,o] at a3; cases a3
  have la:=v.length;nofun;refine ⟨m,rfl,ForA.byL (xs:=zs) (SqL.of e4) (fun i σ B=>i<=zs.length/\∃ (L M:Option V) (e:List V) (j:List Fr2),σ=[some (.ref x),some (.ref r),L,M]/\(∀ c u,c≠r->H4 c=some u->B c=some u)/\SameT H4 B/\B r=some (.lst e)/\All2 (FLV K B) j e/\(∀ n∈j,1<=n.2/\Mth.Sz 70 n.2)/\j.length<=2*ls.length+2*i) ⟨Nat.zero_le _,L,M,e,j,rfl,fun _ _ _ h=>h,(Same.refl _).t,J _ _ o,v.mono (fun _ _ z=>z.sameT J.t),a,by ac_nf⟩ (fun i σ B q=>by obtain ⟨_,_,_,_,_,_,q,_⟩:=q; exact SqL.of (q _ _ b3 e4)) ?_ ?_⟩
  ·clear v a S o la;rintro i y σ D U ⟨hi,L,M,e,j,rfl,O,C,o,v,a,S⟩;have li:=(List.getElem?_eq_some_iff.mp U).1;have la:=v.length;obtain ⟨g,hg,b,vz,vm,rfl,hb,hz,hm⟩:=hZ.at_ U;have Y:=b1 g (List.mem_of_getElem? hg);have a5:=hb.sameT C;nofun;refine ⟨.inl ⟨rfl,_,SqL.of o⟩,?_⟩;refine ixT (i:=3) a5 rfl ?_;refine ixT (i:=4) a5 rfl ?_;nofun;refine ⟨len2,?_⟩;rename_i tl X a1 D H6 S6 e6;nofun;refine ⟨r,tl,e,_,rfl,rfl,S6 _ _ o,e6,by simp only [length_cons,length_nil]; ac_nf,?_⟩;generalize u7:upd H6 r _=H7;nofun;have e7:=putE u7;have T7:SameT H6 H7:=SameT.put u7 (S6 _ _ o) rfl;have I:SameT D H7:=S6.t.trans T7;nofun;refine ⟨li,_,_,e++[vz,vm],j++[g.lo,g.hi],rfl,fun c u hc h=>by rw [<- u7,Jag hc]; exact S6 _ _ (O c u hc h),C.trans I,e7,(v.mono (P':=FLV K H7) fun _ _ z=>z.sameT I).append ⟨vz,_,rfl,FrV.sameT (C.trans I) hz,vm,_,rfl,FrV.sameT (C.trans I) hm,rfl⟩,fun n d=>?_,by simp; ac_nf⟩;rcases mem_append.mp d with d | d
   ·exact a n d
   ·rcases mem_cons.mp d with rfl | d
    ·exact Y.1
    ·rw [mem_singleton.mp d]; exact Y.2
  ·clear v a S o la;rintro σ D ⟨hi,L,M,e,j,rfl,O,C,o,v,a,S⟩;have a0:Same H D:=fun c u h=>O c u (Jai h N) (J _ _ (R _ _ h));nofun;intro s ds hs b2 b5;have Sm:Same D (upd (upd D ds (.own s)) s (.ins Ad.Scale ds [])):=fun b u q=>by rw [Jag (Jai q hs),Jag (Jai q b2)]; exact q
   refine ⟨s,ds,r,e,j,rfl,Jak,Sm _ _ o,v.mono (fun _ _ z=>z.sameT Sm.t),by ac_nf,a,fun b fs fl H6 h1 h2 h3 h4 a7 a6 b0=>⟨rfl,k s b fs H6 (fun c u h=>?_) ⟨ds,fl,h1,h3,a7,a6,b0⟩⟩⟩;exact h4 c u (Jai (a0 _ _ h) hs) (Sm _ _ (a0 _ _ h))
abbrev BaL:Stmt:=top 31
theorem Jfk:Jan ["thing","gap_name"] ["thing","gap_name"] (Jae BaL):=by bv_decide
def Jcw (K:W.Frag) (Ad:Adr):Sp:=fun vs H Q E=>∃ (x:Addr) (ls:List PD) (gs:List GD) (g:GD),vs=[.ref x, .str g.nm]/\TK K Ad H x ls gs/\(ls.map (·.nm)).Nodup/\ls.length<=12/\g∈gs/\(∀ u∈gs,u.nm=g.nm->u=g)/\∀ l (w:List Pr) H',Same H H'->H' l=some (.lst ((w.map (·.1)).map V.str))->Jbk ls g.st w g.en->(w.map (·.1)).Nodup->Q (.ref l) H'
theorem Jfc (F:FunD K "part_names" "part_names" BaL dV f fd) (T:Txt K mg Ad) (BdE:MCal P w K mg base 1 "way" (Ja8 Ad) ["self","name"] (Jb5 K Ad)):FnOk P w K mg base (CX1 P w) 2 f fd ["thing","gap_name"] (Jcw K Ad):=by
 refine F.okn Jfk (by subst_eqs) (fun U A p s H L Q E O h=>?_)
 obtain ⟨x,u,D,g,rfl,h⟩:=h;refine ⟨_,(Jah (Jaq (Jej (own:=["name","forward"]) (cs:=[]) (cl:=[]) rfl (pi_U (BdE.m O ⋯ passF (pv 0) (Jaa (pv 1) Jad))) (fun _ _ _ _=>(Jit (K:=K) (n:=2) rfl rfl (Jbh (Jar (i:=0) (show [("name" : Str),("forward" : Str)].Nodup by decide) rfl (Or.inl rfl) (hf:=Or.inr rfl)) (Jbh (Jar (i:=1) (show [("name" : Str),("forward" : Str)].Nodup by decide) rfl (Or.inl rfl) (hf:=Or.inr rfl)) Jdz)))) (fun _ _ _ _=>(pv 0)) rfl ⋯ rfl ⋯ hcl0 (hhas0 ⋯) hcs0))),?_⟩;obtain ⟨v,R,h8,M,q,k⟩:=h;obtain ⟨Y,d1,d2,d3,k1,k2,k3,X,_⟩:=id v;have sl:(1000:Nat)<=sizeLine:=by decide
 show tRet _ _ [some (.ref x),some (.str g.nm)] H;nofun;refine ⟨x,_,Y,_,rfl,X,rfl,rfl,x,g.nm,u,D,rfl,v,fun z=>absurd (mem_map.mpr ⟨g,M,rfl⟩) z,fun I j hz l xs w H1 W Z C a B d=>?_⟩;have e:=q I j hz;subst e;have lx:=a.length;have lw:w.length<=12:=by
  have:=sub_len (w.map (·.1)) (u.map (·.nm)) d fun n hn=>JeQ (Jgz B) n hn;rw [length_map,length_map] at this;ac_nf
 nofun;refine ⟨l,rfl, .inl ⟨⟨xs,SqL.of C⟩,CompJ.list (xs:=xs) (fun i G c=>c=H1/\G=((w.take i).map (·.1)).map V.str) ⟨rfl,rfl⟩ (fun i G c hi z=>⟨by rw [z.1]; exact SqL.of C,by rw [z.2,length_map,length_map,length_take]; ac_nf⟩) ?_ ?_⟩⟩
 ·rintro i y o c S ⟨rfl,rfl⟩;obtain ⟨pr,t,b,rfl,J⟩:=a.at_ S;simpa only [length_singleton,length_cons,length_nil,List.replicate,JaD,map_cons,map_nil,Option.join_some];refine ⟨b,_,rfl,SqT.of J,rfl,?_⟩;nofun;rw [take_succ,t];simp
 ·rintro o c ⟨rfl,rfl⟩;rw [take_of_length_le ∅];rename_i r a0 N c H2 S2 e2;nofun;exact k r w H2 (W.trans S2) e2 B d
abbrev Bau:Stmt:=inClass (top 32) 0
theorem Jen:Jan ["self","name","rest","weights"] ["self","name","rest","weights"] (Jae Bau):=by bv_decide
def JbU (K:W.Frag) (Ad:Adr):Sp:=fun vs H Q E=>∃ (x dx wd:Addr) (nm:Str) (vr:V) (ws:List (Str × Int)),vs=[.ref x, .str nm,vr, .ref wd]/\H x=some (.ins Ad.Lid dx [])/\H wd=some (.dK (wsK ws))/\∀ H',H' x=some (.ins Ad.Lid dx [("name", .str nm),("rest",vr),("weights", .ref wd),("load", .int (ws.map (·.2)).sum),("last_level", .ref Ad.ZERO)])->(∀ b,b≠x->H' b=H b)->Q .non H'
theorem Jeb (F:FunD K "__init__" "Lid.__init__" Bau dV f fd) (T:Txt K mg Ad)  : FnOk P w K mg base (CX1 P w) 1 f fd ["self","name","rest","weights"] (JbU K Ad):=by
 refine F.okn Jen (by subst_eqs) (fun M A m s H L Q E X h=>?_)
 obtain ⟨x,c,e,g,j,i,rfl,h⟩:=h;refine ⟨_,(Jab (Ja6 (pv 0) (pv 1) rfl)
   (Jab (Ja6 (pv 0) (pv 2) rfl)
   (Jab (Ja6 (pv 0) (pv 3) rfl)
   (Jab (Ja6 (pv 0) (JkM rfl rfl rfl T.n_sum Jk9 (pv 3)) rfl)
   (Jah (Ja6 (pv 0) (JcW (v:=.ref _) rfl T.Bdo T.Bdp) rfl)))))),?_⟩
 obtain ⟨D,l,k⟩:=h;have d:=T.c_Lid Ad.Lid rfl;have r:e≠x:=fun z=>by rw [z,D] at l; cases l
 show tSeq _ _ _ [some (.ref x),some (.str g),some j,some (.ref e)] H;exfalso;refine ⟨x,_,c,_,rfl,D,d.cls,d.n1,by simp,?_⟩;generalize B:upd H x _=q;exfalso;have R:q x=some (.ins Ad.Lid c [("name", .str g)]):=by rw [<- B]; exact Jak.trans rfl
 have O:∀ b,b≠x->q b=H b:=fun b a=>by rw [<- B,Jag a]
 exfalso;refine ⟨x,_,c,_,rfl,R,d.cls,d.n2,by simp,?_⟩;generalize I:upd q x _=o;exfalso;have U:o x=some (.ins Ad.Lid c [("name", .str g),("rest",j)]):=by rw [<- I]; exact Jak.trans rfl
 have W:∀ b,b≠x->o b=H b:=fun b a=>by rw [<- I,Jag a]; exact O b a
 exfalso;refine ⟨x,_,c,_,rfl,U,d.cls,d.n3,by simp,?_⟩;generalize t:upd o x _=p;exfalso;have J:p x=some (.ins Ad.Lid c [("name", .str g),("rest",j),("weights", .ref e)]):=by rw [<- t]; exact Jak.trans rfl
 have u:∀ b,b≠x->p b=H b:=fun b a=>by rw [<- t,Jag a]; exact W b a
 exfalso;refine ⟨e,wsK i,i.map (·.2),rfl,by rw [u e r]; exact l,JjE i,?_⟩;exfalso;refine ⟨x,_,c,_,rfl,J,d.cls,d.n4,by simp,?_⟩;generalize G:upd p x _=n;exfalso;have V:n x=some (.ins Ad.Lid c [("name", .str g),("rest",j),("weights", .ref e),("load", .int (i.map (·.2)).sum)]):=by rw [<- G]; exact Jak.trans rfl
 have S:∀ b,b≠x->n b=H b:=fun b a=>by rw [<- G,Jag a]; exact u b a
 exfalso;refine ⟨x,_,c,_,rfl,V,d.cls,d.n5,by simp,?_⟩;generalize y:upd n x _=C;exfalso;have N:C x=some (.ins Ad.Lid c [("name", .str g),("rest",j),("weights", .ref e),("load", .int (i.map (·.2)).sum),("last_level", .ref Ad.ZERO)]):=by rw [<- y]; exact Jak.trans rfl
 exact k C N fun b a=>by rw [<- y,Jag a]; exact S b a
abbrev Bal:Stmt:=inClass (top 32) 1
theorem JdA:Jan ["self"] ["self"] (Jae Bal):=by bv_decide
def Jbw (K:W.Frag) (Ad:Adr):Sp:=fun vs H Q E=>∃ (q:Addr) (e:LidD),vs=[.ref q]/\LDV K Ad H e (.ref q)/\FB 3000 1000 e.rest/\1<=e.load/\Mth.Sz 64 e.load/\∀ p H',Same H H'->H' p=some (.tup [.int (divF e.rest (e.load,1)).1, .int (divF e.rest (e.load,1)).2])->Q (.ref p) H'
theorem Jdv (F:FunD K "full_level" "Lid.full_level" Bal dV f fd) (T:Txt K mg Ad) (Bc2:Cal P w K mg base 3 "over" ["one","other"] [] (Jfo K Ad)):FnOk P w K mg base (CX1 P w) 4 f fd ["self"] (Jbw K Ad):=by
 refine F.okn JdA (by subst_eqs) (fun v A d s H r Q E c h=>?_)
 obtain ⟨q,e,rfl,h⟩:=h;refine ⟨_,(Jah (Jaq (Bc2.ev c ⋯ rfl passF (Jaa (Jas (pv 0) rfl) (Jaa (JaJ (Jaa (Jas (pv 0) rfl) (Jaa Jac Jad))) Jad)) (he:=by exact Jaf rfl)))),?_⟩;obtain ⟨⟨J,j,l,N,G,n,m,c,L,M⟩,b,I,B,k⟩:=h;cases n;have a:=T.c_Lid Ad.Lid rfl;show tRet _ _ [some (.ref q)] H;and_intros;refine ⟨q,_,j,_,l,rfl,m,a.cls,a.n2,rfl,?_⟩;refine ⟨q,_,j,_, .int e.load,rfl,m,a.cls,a.n4,rfl,?_⟩;and_intros;refine ⟨len2,?_⟩;rename_i p t u H O i y;and_intros;refine ⟨l, .ref p,_,_,e.load,1,rfl,c.same i,FrV.of y,b.s1.mono ⋯,b.s2.mono ⋯,B.mono ⋯, .lit ⋯ ⋯,b.b1,by decide,b.g1,by unfold Mth.g; simp,fun z=>absurd z ∅,fun _ o x C D=>?_⟩;exact k o x (i.trans C) D
abbrev BaM:Stmt:=inClass (top 32) 2
theorem Jdn:Jan ["self","part","level","weight"] ["self","part","level"] (Jae BaM):=by bv_decide
def Jco (K:W.Frag) (Ad:Adr):Sp:=fun vs H Q E=>∃ (q:Addr) (n:Str) (lv:V) (e:LidD) (L:Fr2),vs=[.ref q, .str n,lv]/\LDV K Ad H e (.ref q)/\FrV K H lv L.1 L.2/\FB 3000 1000 e.rest/\FB 3000 1000 L/\(∀ x∈e.ws,Mth.Sz 64 x.2)/\∀ H',(∀ b u,b≠q->H b=some u->H' b=some u)->LDV K Ad H' (e.settle n L) (.ref q)->(∀ d kv,H d=some (.dK kv)->LDV K Ad (cut d H) e (.ref q)->LDV K Ad (cut d H') (e.settle n L) (.ref q))->Q .non H'
theorem Je5 (F:FunD K "settle" "Lid.settle" BaM dV f fd) (T:Txt K mg Ad) (Bbg:Cal P w K mg base 3 "minus" ["one","other"] [] (Jdo K)) (Bbf:Cal P w K mg base 2 "times" ["one","other"] [] (Jdp K)):FnOk P w K mg base (CX1 P w) 4 f fd ["self","part","level"] (Jco K Ad):=by
 refine F.okn Jdn (by subst_eqs) (fun b0 A a6 s H vs Q E N h=>?_)
 obtain ⟨q,n,G,e,L,rfl,h⟩:=h;have hu:=N.units;refine ⟨_,(Jah (ps_if (Jel (Jg4 (hu1 hu) (pv 1) (Jas (pv 0) rfl)) (by with_unfolding_all rfl))
   (Jab (Jaj (i:=3) Jdn.nd rfl (Or.inl rfl) (Ja0 (hu1 hu) (Jas (pv 0) rfl) (pv 1) (fun _ _=>rfl)))
   (Jab (Ja6 (pv 0) (Bbg.ev N ⋯ rfl passF (Jaa (Jas (pv 0) rfl) (Jaa (Bbf.ev N ⋯ rfl passF (Jaa (pv 2) (Jaa (JaJ (Jaa (pv 3) (Jaa Jac Jad))) Jad)) (he:=by exact Jaf rfl)) Jad)) (he:=by exact Jaf rfl)) rfl)
   (Jab (Ja6 (pv 0) (pe_op Jio (Jas (pv 0) rfl) (pv 3)) rfl)
   (Jah (Ja6 (pv 0) (pv 2) rfl)))))
   JaA)),?_⟩
 clear hu;obtain ⟨hd,hl,fr,r,a0,k⟩:=h;obtain ⟨q',m,vr,vt,l,hv,v,N,ht,O⟩:=id hd;cases hv;have j:=T.c_Lid Ad.Lid rfl;have W:l≠q:=fun z=>by rw [z,v] at O; cases O
 have Z:=DGet.k (k:=Sum.inr n) O;rw [JgK] at Z;show tIfS _ _ _ _ [some (.ref q),some (.str n),some G,none] H;try simpa only [y4dy,y84y]
 refine ⟨q,_,m,_, .ref l,rfl,v,j.cls,j.n3,rfl,?_⟩;refine ⟨l,_,rfl,Z,?_⟩;cases hwt:wtOf e.ws n with
 | none=>
  rw [show ((none:Option Int).map V.int).isSome=false from rfl];try simpa only [y4dy,y84y]
  have R:e.settle n L=e:=by unfold LidD.settle; rw [hwt]
  exact k H (fun b u _ h=>h) (by rw [R]; exact hd) (fun d kv _ h=>by rw [R]; exact h)
 | some w=>
  rw [hwt] at Z;have R:e.settle n L={ e with rest:=subF e.rest (mulF L (w,1)),load:=e.load-w,last:=L }:=by unfold LidD.settle; rw [hwt]
  have sw:=a0 _ (Ji1 hwt);rw [show ((some w).map V.int).isSome=true from rfl];try simpa only [y4dy,y84y]
  refine ⟨q,_,m,_, .ref l,rfl,v,j.cls,j.n3,rfl,?_⟩;refine ⟨l, .int w,rfl,Z,?_⟩;try simpa only [y4dy,y84y]
  refine ⟨q,_,m,_,vr,rfl,v,j.cls,j.n2,rfl,?_⟩;try simpa only [y4dy,y84y]
  refine ⟨len2,?_⟩;rename_i p a9 a7 H H1 S1 e1;symm_saturate;refine ⟨G, .ref p,_,_,w,1,rfl,hl.same S1,FrV.of e1,r.s1.mono ⋯,r.s2.mono ⋯,sw.mono ⋯, .lit ⋯ ⋯,r.b1,by decide,r.g1,by unfold Mth.g; simp,fun p2 H2 S2 e2=>?_⟩;have M:=S1.trans S2;have ml:=Je4 (a:=L) (c:=(w,1)) r.b1 (Int.le_refl 1);have a4:Mth.Sz 4000 (mulF L (w,1)).1:=(Mth.Sz.top (by have:=r.b1; show L.2*1≠0; ac_nf) (r.s1.mul sw)).mono ⋯;have a2:Mth.Sz 4000 (mulF L (w,1)).2:=(Mth.Sz.bot (t:=L.1*w) (b:=L.2*1) (by have:=r.b1; ac_nf) (by rw [Int.mul_one]; exact r.s2)).mono ⋯;have e2:H2 p2=some (.tup [.int (mulF L (w,1)).1, .int (mulF L (w,1)).2]):=e2;try simpa only [y4dy,y84y]
  refine ⟨vr, .ref p2,_,_,_,_,rfl,N.same M,FrV.of e2,fr.s1.mono ⋯,fr.s2.mono ⋯,a4,a2,fr.b1,ml.b1,fr.g1,ml.g1,fun Y H3 S3 e3=>?_⟩;have y:=M.trans S3;have S:=y _ _ v;try simpa only [y4dy,y84y]
  refine ⟨q,_,m,_,rfl,S,j.cls,j.n2,by simp,?_⟩;generalize u4:upd H3 q _=U;symm_saturate;have e4:U q=some (.ins Ad.Lid m [("name", .str e.nm),("rest", .ref Y),("weights", .ref l),("load", .int e.load),("last_level",vt)]):=by rw [<- u4]; exact Jak.trans rfl
  have o4:∀ b u,b≠q->H b=some u->U b=some u:=fun b u J h=>by rw [<- u4,Jag J]; exact y _ _ h
  have T4:SameT H3 U:=SameT.put u4 S rfl;try simpa only [y4dy,y84y]
  refine ⟨q,_,m,_, .int e.load,rfl,e4,j.cls,j.n4,rfl,?_⟩;try simpa only [y4dy,y84y]
  refine ⟨q,_,m,_,rfl,e4,j.cls,j.n4,by simp,?_⟩;generalize u5:upd U q _=H5;symm_saturate;have e5:H5 q=some (.ins Ad.Lid m [("name", .str e.nm),("rest", .ref Y),("weights", .ref l),("load", .int (e.load-w)),("last_level",vt)]):=by rw [<- u5]; exact Jak.trans rfl
  have T5:SameT U H5:=SameT.put u5 e4 rfl;try simpa only [y4dy,y84y]
  refine ⟨q,_,m,_,rfl,e5,j.cls,j.n5,by simp,?_⟩;generalize u6:upd H5 q _=D;symm_saturate;have e6:D q=some (.ins Ad.Lid m [("name", .str e.nm),("rest", .ref Y),("weights", .ref l),("load", .int (e.load-w)),("last_level",G)]):=by rw [<- u6]; exact Jak.trans rfl
  have T6:SameT H5 D:=SameT.put u6 e5 rfl;have I:=T4.trans (T5.trans T6);have o6:∀ b u,b≠q->H b=some u->D b=some u:=fun b u J h=>by rw [<- u6,Jag J, <- u5,Jag J]; exact o4 b u J h
  have f3:=FrV.of (K:=K) (I _ _ rfl e3);have fl:=(hl.same y).sameT I;refine k D o6 ?_ fun d b4 X a3=>?_
  ·rw [R];exact ⟨q,m, .ref Y,G,l,rfl,e6,f3,fl,o6 _ _ W O⟩
  ·obtain ⟨q',b3,b2,a8,a1,C,B,_,_,o⟩:=a3;have C:q=q':=by injection C
   subst C;have x:q≠d:=fun z=>by rw [z,X] at v; cases v
   rw [JbH x,v] at B;simp only [Option.some.injEq,HO.ins.injEq,List.cons.injEq,Prod.mk.injEq,V.ref.injEq,true_and,and_true] at B;have ew:l=a1:=B.2.2.1;subst ew;have a5:l≠d:=fun z=>by
    rw [z] at o;unfold cut at o;rw [if_pos rfl] at o;cases o
   have Tc:SameT D (cut d D):=SameT.cutO (o6 _ _ x.symm X) rfl;rw [R];exact ⟨q,m, .ref Y,G,l,rfl,by rw [JbH x]; exact e6,f3.sameT Tc,fl.sameT Tc,by rw [JbH a5]; exact o6 _ _ W O⟩
abbrev Bah:Stmt:=inClass (top 32) 3
theorem Jdm:Jan ["self","part","level"] ["self","part","level"] (Jae Bah):=by bv_decide
def Jbq (K:W.Frag) (Ad:Adr):Sp:=fun vs H Q E=>∃ (q:Addr) (n:Str) (lv:V) (e:LidD) (L:Fr2),vs=[.ref q, .str n,lv]/\LDV K Ad H e (.ref q)/\FrV K H lv L.1 L.2/\Q (.bl ((wtOf e.ws n).isSome&&(decide (e.rest=(0,1))&&decide (e.last=L)))) H
theorem Jde (F:FunD K "has_stopped" "Lid.has_stopped" Bah dV f fd) (T:Txt K mg Ad)  : FnOk P w K mg base (CX1 P w) 1 f fd ["self","part","level"] (Jbq K Ad):=by
 refine F.okn Jdm (by subst_eqs) (fun u A g s H r Q E c h=>?_)
 obtain ⟨q,n,m,e,L,rfl,h⟩:=h;have b:=c.units;refine ⟨_,(Jah (Jaq (Jb3 (Jlz (Jg4 (hu1 b) (pv 1) (Jas (pv 0) rfl)) (by with_unfolding_all rfl)) (Jb3 (Jbf (JbP b) (Jas (pv 0) rfl) (JcW (v:=.ref _) rfl T.Bdo T.Bdp) (Jaz _)) (JcU (Jbf (JbP b) (Jas (pv 0) rfl) (pv 2) (Jaz _))))))),?_⟩;clear b;obtain ⟨⟨D,d,z,y,j,o,i,c,t,x⟩,p,k⟩:=h;cases o;have a:=T.c_Lid Ad.Lid rfl;have l:=DGet.k (k:=Sum.inr n) x;rw [JgK] at l;have B:decide (e.rest=(0,1))=(decide (e.rest.1=0)&&decide (e.rest.2=1)):=by
  rw [<- Bool.decide_and];exact decide_eq_decide.mpr Prod.ext_iff
 have C:decide (e.last=L)=(decide (e.last.1=L.1)&&decide (e.last.2=L.2)):=by
  rw [<- Bool.decide_and];exact decide_eq_decide.mpr Prod.ext_iff
 rw [B,C] at k;show tRet _ _ [some (.ref q),some (.str n),some m] H;and_intros;refine ⟨q,_,d,_, .ref j,rfl,i,a.cls,a.n3,rfl,?_⟩;refine ⟨j,_,rfl,l,?_⟩;rw [show ((wtOf e.ws n).map V.int).isSome=(wtOf e.ws n).isSome by cases wtOf e.ws n <;> rfl];cases c1:(wtOf e.ws n).isSome with
 | false=>
  rw [c1] at k;and_intros;exact k
 | true=>
  rw [c1] at k;and_intros;refine ⟨q,_,d,_,z,rfl,i,a.cls,a.n2,rfl,?_⟩;refine eqF c ⟨Ad.ZERO,rfl,T.Bdq _⟩ ?_;cases c2:(decide (e.rest.1=0)&&decide (e.rest.2=1)) with
  | false=>
   rw [c2] at k;and_intros;exact k
  | true=>
   rw [c2] at k;and_intros;refine ⟨q,_,d,_,y,rfl,i,a.cls,a.n5,rfl,?_⟩;refine eqF t p ?_;exact k
abbrev Bbw:Stmt:=top 33
theorem Jbv:Jan ["thing","scale","weights","part","lids","gap","room","on_way"] ["thing","scale"] (Jae Bbw):=by bv_decide
def JdC (K:W.Frag) (Ad:Adr):Sp:=fun vs H Q E=>∃ (x sc:Addr) (ls:List PD) (es:List (GD × List Str)) (pl:Str->Fr2) (b:Int) (fs:List Int),vs=[.ref x, .ref sc]/\TK K Ad H x ls (es.map (·.1))/\SCK Ad H sc b fs/\SHC ls es pl/\(∀ e∈es,0<=vl (roomF pl e.1))/\∀ ll xs lds H',Same H H'->H ll=none->H' ll=some (.lst xs)->All2 (LDV K Ad H') lds xs->xs.Nodup->(∀ v∈xs, ∃ q,v=.ref q/\H q=none)->lds.length=es.length->(∀ (i:Nat) e l,es[i]?=some e->lds[i]?=some l->LSt b ls pl e l)->Q (.ref ll) H'
theorem Jhv (F:FunD K "lids_of" "lids_of" Bbw dV f fd) (T:Txt K mg Ad) (BaG:MCal P w K mg base 2 "parts" (Ja8 Ad) ["self"] (JaZ K Ad)) (Bcn:MCal P w K mg base 2 "gaps" (Ja8 Ad) ["self"] (Jbs K Ad)) (BdJ:MCal P w K mg base 5 "room" (Ja8 Ad) ["self","name"] (Jcq K Ad)) (BaF:Cal P w K mg base 1 "under" ["one","other"] [] (Jcy K)) (BbV:Cal P w K mg base 2 "part_names" ["thing","gap_name"] [] (Jcw K Ad)) (k_Lid:KCal P w K mg base 1 "Lid" Ad.Lid ["self","name","rest","weights"] (JbU K Ad)) (Bb7:MCal P w K mg base 2 "lifted" (Jdq Ad) ["self","number"] (Jbr K Ad)):FnOk P w K mg base (CX1 P w) 7 f fd ["thing","scale"] (JdC K Ad):=by
 refine F.okx Jbv (fun vs H Q E h=>?_) (fun i9 A h7 s H vs Q E hr h=>?_)
 ·obtain ⟨x,sc,ls,es,pl,b,fs,rfl,_⟩:=h; rfl
 obtain ⟨x,sc,ls,es,pl,b,fs,rfl,h⟩:=h;have hu:=hr.units;refine ⟨_,(Jab (Jaj (i:=2) Jbv.nd rfl (Or.inr rfl) JbA)
   (Jab (Ja1 PassesOwn.leaving rfl (pi_U (BaG.m0 hr ⋯ pass1 (pv 0))) (Jar (i:=3) Jbv.nd rfl (Or.inl rfl))
   (Jah (JbR (hu1 hu) (pv 2) (pe_ix ix_U (pv 3) Jac (fun _ _=>rfl)) (pe_ix ix_U (pv 3) Jac (fun _ _=>rfl)) rfl)))
   (Jab (Jaj (i:=4) Jbv.nd rfl (Or.inl rfl) (Ja5 Jad))
   (Jab (Ja1 PassesOwn.leaving rfl (pi_U (Bcn.m0 hr ⋯ pass1 (pv 0))) (Jar (i:=5) Jbv.nd rfl (Or.inl rfl))
   (Jab (Jaj (i:=6) Jbv.nd rfl (Or.inl rfl) (BdJ.m hr ⋯ pass1 (pv 0) (Jaa (pe_ix ix_U (pv 5) Jac (fun _ _=>rfl)) Jad)))
   (Jab (ps_if (Ja2 (BaF.ev hr ⋯ rfl pass1 (Jaa (pv 6) (Jaa (JcW (v:=.ref _) rfl T.Bdo T.Bdp) Jad)) (he:=by exact Jaf rfl)))
   (Jah ps_no)
   JaA)
   (Jab (Jaj (i:=7) Jbv.nd rfl (Or.inl rfl) (Jcf (Jhh rfl) rfl T.n_dict Jkb (Jaa (Jjm (own:=["name"]) (cs:=[(2,"weights")]) rfl (pi_U (BbV.ev hr ⋯ rfl pass1 (Jaa (pv 0) (Jaa (pe_ix ix_U (pv 5) Jac (fun _ _=>rfl)) Jad)) (he:=by exact Jaf rfl))) (fun _ _ _ _=>(Jar (i:=0) (show [("name" : Str),("weights" : Str)].Nodup by decide) rfl (Or.inl rfl))) (fun _ _ _ _=>(JaJ (Jaa (pv 0) (Jaa (Ja0 (hu1 hu) (pv 1) (pv 0) (fun _ _=>rfl)) Jad)))) (JdF rfl) ⋯ rfl ⋯
   (hcs1 rfl rfl rfl)) Jad)))
   (Jah (Ja9 (pe_bm PySem.F.plainAttrs_list PySem.F.slot_list_append PySem.F.type_list_append Ja7 (pv 4) (Jaa (k_Lid.ev hr ⋯ rfl pass1 (Jaa (pe_ix ix_U (pv 5) Jac (fun _ _=>rfl)) (Jaa (Bb7.m hr ⋯ pass1 (pv 1) (Jaa (pv 6) Jad)) (Jaa (pv 7) Jad)))) Jad) (hs:=by exact Jaf rfl))))))))
   (Jah (Jaq (pv 4))))))),?_⟩
 clear hu;obtain ⟨ht,d7,L,g8,k⟩:=h;obtain ⟨dx,d1,d2,d3,k1,k2,k3,hx,_⟩:=id ht;obtain ⟨f8,fl,e9,_,i2,sb,_⟩:=id d7;have sl:(1000:Nat)<=sizeLine:=by decide
 have j0:=L.l12;have l7:=L.l7;show tSeq _ _ _ [some (.ref x),some (.ref sc),none,none,none,none,none,none] H;nofun;rename_i wd d4 i5 H H1 S1 e1;nofun;refine ⟨x,_,dx,_,rfl,S1 _ _ hx,rfl,rfl,x,ls,_,rfl,ht.same S1,by ac_nf,fun l ys H2 S2 e6 e2 hY=>?_⟩;have lY:=hY.length;have h9:l≠wd:=fun z=>by rw [z,e1] at e6; cases e6
 have g3:=S1.trans S2;nofun;refine ⟨l,rfl,ForA.byLN (xs:=ys) (SqL.of e2) (fun i σ M=>i<=ys.length/\∃ (v3:Option V) (kv:List (Key × V)),σ=[some (.ref x),some (.ref sc),some (.ref wd),v3,none,none,none,none]/\(∀ c u,c≠wd->H2 c=some u->M c=some u)/\SameT H2 M/\M wd=some (.dK kv)/\BG (·.nm) (fun p v=>v=.int p.wt) (ls.take i) kv) ⟨Nat.zero_le _,none,[],rfl,fun _ _ _ h=>h,SameT.refl _,S2 _ _ e1,⟨rfl,rfl⟩⟩ (fun i σ M q=>by obtain ⟨_,_,_,_,q,_⟩:=q; exact SqL.of (q _ _ h9 e2)) ?_ ?_⟩
 ·rintro i y σ H3 O ⟨hi,v3,kv,rfl,ho,hT,W,hB⟩ N0 b9;have li:=(List.getElem?_eq_some_iff.mp O).1;obtain ⟨p,hp,b_,vz,vm,rfl,hb,_,_⟩:=hY.at_ O;have lB:=hB.length;rw [length_take] at lB;have c6:=hb.sameT hT;nofun;refine ixT (i:=5) c6 rfl ?_;nofun;refine ixT (i:=0) c6 rfl ?_;refine ⟨wd,_,rfl,DPut.k (k:=Sum.inr p.nm) W ∅,?_⟩;generalize u4:upd H3 wd _=H4;nofun;have e4:=putE u4;have T4:SameT H3 H4:=SameT.put u4 W rfl;refine b9 _ _ ⟨li,_,_,rfl,fun c u X h=>by rw [<- u4,Jag X]; exact ho c u X h,hT.trans T4,e4,?_⟩;rw [take_succ,hp];exact hB.new (a:=p) (Jid L.nd hp) rfl
 ·rintro σ H3 ⟨hi,v3,kv,rfl,ho,hT,W,hB⟩;rw [take_of_length_le ∅] at hB;have d6:Same H H3:=fun c u h=>ho c u (Jai h d4) (g3 _ _ h);nofun;refine ⟨len0,?_⟩;rename_i D Z i6 H3 H4 S4 e4;nofun;have b6:=d6.trans S4;have a0:H D=none:=Jda d6 Z;refine ⟨x,_,dx,_,rfl,b6 _ _ hx,rfl,rfl,x,ls,_,rfl,ht.same b6,by rw [length_map]; ac_nf,fun m zs H5 S5 f1 e5 hZ=>?_⟩;have lZ:=hZ.length;rw [length_map] at lZ;have g4:m≠D:=fun z=>by rw [z,e4] at f1; cases f1
  have d0:=b6.trans S5;have f2:=S5 _ _ (S4 _ _ W);nofun;refine ⟨m,rfl,ForA.byLN (xs:=zs) (SqL.of e5) (fun i σ M=>i<=zs.length/\∃ (v5 v6 v7:Option V) (xs:List V) (I:List LidD),σ=[some (.ref x),some (.ref sc),some (.ref wd),v3,some (.ref D),v5,v6,v7]/\(∀ c u,c≠D->H5 c=some u->M c=some u)/\M D=some (.lst xs)/\All2 (LDV K Ad (cut D M)) I xs/\xs.Nodup/\(∀ v∈xs, ∃ q,v=.ref q/\H q=none/\M q≠none)/\I.length=i/\∀ (j:Nat) e l,es[j]?=some e->I[j]?=some l->LSt b ls pl e l) ⟨Nat.zero_le _,none,none,none,[],[],rfl,fun _ _ _ h=>h,S5 _ _ e4,rfl, .nil,(fun v hv=>by cases hv),rfl,fun j e l _ h=>by simp at h⟩ (fun i σ M q=>by obtain ⟨_,_,_,_,_,_,_,q,_⟩:=q; exact SqL.of (q _ _ g4 e5)) ?_ ?_⟩
  ·rintro i y σ H6 O ⟨hi,v5,v6,v7,xs,I,rfl,R,ex,hX,c1,a6,b3,c0⟩ N0 b9;have li:=(List.getElem?_eq_some_iff.mp O).1;have lX:=hX.length;obtain ⟨g,a3,a_,j2,i8,rfl,hb,_,_⟩:=hZ.at_ O;obtain ⟨e,d5,rfl⟩:∃ e,es[i]?=some e/\e.1=g:=by
    rw [List.getElem?_map] at a3;exact Option.map_eq_some_iff.mp a3
   have he:=List.mem_of_getElem? d5;have gm:e.1∈es.map (·.1):=mem_map.mpr ⟨e,he,rfl⟩;have Y:Same H H6:=fun c u h=>R c u (Jai h a0) (d0 _ _ h);have g0:SameT H5 H6:=fun c u t h=>R c u (fun z=>by have:=S5 _ _ e4; rw [<- z,h] at this; cases this; simp [isTF] at t) h;have h6:wd≠D:=fun z=>by rw [<- z,W] at Z; cases Z
   have f0:=R _ _ h6 f2;have c3:=hb.sameT g0;nofun;refine ⟨x,_,dx,_,rfl,Y _ _ hx,rfl,rfl,?_⟩;refine ixT (i:=0) c3 rfl ?_;refine ⟨x,e.1.nm,ls,es.map (·.1),rfl,ht.same Y,fun z=>absurd (mem_map.mpr ⟨e.1,gm,rfl⟩) z,fun g' a3 hz=>?_⟩;have f9:=L.gn e he g' a3 hz;subst f9;refine ⟨pl,L.gn e he,fun p hp q hq h=>Jir L.nd hp hq h,L.pok,L.plb,L.pls,L.tok e he,fun v H7 S7 fv=>?_⟩;have rb:=L.rb e he;have l0:=Jc5 (a:=roomF pl e.1) (c:=(0,1)) rb.b1 ⋯;rw [Jfu] at l0;unfold lessF at l0;nofun;refine ⟨v, .ref Ad.ZERO,_,_,0,1,rfl,fv,⟨Ad.ZERO,rfl,T.Bdq _⟩,rb.s1.mono ⋯,rb.s2.mono ⋯, .lit ⋯ ⋯, .lit ⋯ ⋯,?_⟩;nofun;rw [if_neg (fun z=>absurd (l0.mp z) (Rat.not_lt.mpr (g8 e he)))];nofun;have h4:=Y.trans S7;refine ixT (i:=0) (c3.same S7) rfl ?_;refine ⟨x,ls,es.map (·.1),e.1,rfl,ht.same h4,L.nd,by ac_nf,gm,L.gn e he,fun nl w H8 S8 e8 hw b0=>?_⟩;have c2:=S7.trans S8;have f4:=c2 _ _ f0;have f3:∀ n∈w.map (·.1),n∈ls.map (·.nm):=fun n hn=>JeQ (Jgz hw) n hn;have lw:w.length<=12:=by
    have:=sub_len (w.map (·.1)) (ls.map (·.nm)) b0 fun n hn=>f3 n hn;rw [length_map,length_map] at this;ac_nf
   nofun;refine ⟨nl,rfl, .inl ⟨⟨_,SqL.of e8⟩,CompJ.list (xs:=(w.map (·.1)).map V.str) (fun j qs M=>Same H8 M/\∃ (as:List Addr) (C:List (Str × Int)),qs=as.map V.ref/\as.length=C.length/\(∀ (i:Nat) (a:Addr) (p:Str × Int),as[i]?=some a->C[i]?=some p->M a=some (.tup [.str p.1, .int p.2]))/\C.map (·.1)=(w.map (·.1)).take j/\∀ y∈C, ∃ p∈ls,p.nm=y.1/\p.wt=y.2) ⟨Same.refl _,[],[],rfl,rfl,(fun i a p h=>by simp at h),rfl,(fun y O=>by cases O)⟩ (fun j qs M hj z=>by
    obtain ⟨z1,as,C,rfl,r,_,d,_⟩:=z;have:=congrArg List.length d;rw [length_map,length_take,length_map] at this;exact ⟨SqL.of (z1 _ _ e8),by rw [length_map]; ac_nf⟩) ?_ ?_⟩⟩
   ·rintro j y' qs H9 S ⟨S9,as,C,rfl,b7,b2,o,b4⟩;have lj:=(List.getElem?_eq_some_iff.mp S).1;rw [length_map] at lj;rw [List.getElem?_map,List.getElem?_eq_getElem lj] at S;obtain ⟨n,hn⟩:∃ n,n=(w.map (·.1))[j]:=⟨_,rfl⟩;rw [<- hn] at S;have S:y'=.str n:=(Option.some.inj S).symm;subst S;have f6:n∈ls.map (·.nm):=f3 n (by rw [hn]; exact List.getElem_mem lj);obtain ⟨p,v',g7,g1,hv,g9⟩:=hB.some (z:=n) f6;simpa only [length_singleton,length_cons,length_nil,List.replicate,JaD,map_cons,map_nil,Option.join_some];refine ⟨wd,_,rfl,by rw [<- hv]; exact DGet.k (k:=Sum.inr n) (S9 _ _ f4),?_⟩;rw [g9];refine ⟨by show 2<=sizeLine; ac_nf,?_⟩;rename_i t j4 j3 H9 d8 U b5;nofun;refine ⟨S9.trans U,as++[t],C++[(n,p.wt)],by simp,by simp [b7],fun i' a' p' r d=>?_,?_,fun y O=>?_⟩
    ·rcases Jbo r with r | ⟨q1,q2⟩
     ·rcases Jbo d with d | ⟨q3,q4⟩
      ·exact U _ _ (b2 i' a' p' r d)
      ·have:=(List.getElem?_eq_some_iff.mp r).1;ac_nf
     ·rcases Jbo d with d | ⟨q3,q4⟩
      ·have:=(List.getElem?_eq_some_iff.mp d).1;ac_nf
      ·rw [q2,q4];exact b5
    ·rw [map_append,o,take_succ,List.getElem?_eq_getElem lj, <- hn];rfl
    ·rcases mem_append.mp O with O | O
     ·exact b4 y O
     ·rw [mem_singleton.mp O];exact ⟨p,g7,g1,rfl⟩
   ·rintro qs H9 ⟨S9,as,C,rfl,b7,b2,o,b4⟩;rw [length_map,take_of_length_le (Nat.le_refl _)] at o;have j1:C.length<=12:=by have:=congrArg List.length o; rw [length_map,length_map] at this; ac_nf
    have d9:(C.map (·.1)).Nodup:=by rw [o]; exact b0
    rename_i ql i1 i3 H9 d8 U b5;nofun;refine ⟨ql,as,C.map fun p=>(p.1,V.int p.2),rfl,b5,by rw [length_map]; exact b7,fun i' a' p' r d=>?_,?_⟩
    ·rw [List.getElem?_map] at d;obtain ⟨h5,h3,rfl⟩:=Option.map_eq_some_iff.mp d;exact U _ _ (b2 i' a' h5 r h3)
    have g6:JdH (C.map fun p=>(p.1,V.int p.2))=wsK C:=by
     rw [Jiq (by rw [map_map]; exact d9),map_map];rfl
    rw [g6];rename_i od a9 i4 d8 i7 f7 c7;nofun;have a8:=S9.trans (U.trans f7);have B:=c2.trans a8;have e0:=Y.trans B;have c8:=B _ _ ex;refine ⟨.inl ⟨rfl,_,SqL.of c8⟩,?_⟩;refine ixT (i:=0) (c3.same B) rfl ?_;refine ⟨sc,_,f8,_,rfl,e0 _ _ e9,rfl,rfl,?_⟩;refine ⟨sc,v,roomF pl e.1,b,fs,rfl,d7.same e0,FrV.same (S8.trans a8) fv,rb.mono ⋯ ⋯,fun pr t b8 a5 h0 hL=>?_⟩;nofun;intro q dq hq f5 i0;have e7:Same b8 (upd (upd b8 dq (.own q)) q (.ins Ad.Lid dq [])):=fun b u z=>by rw [Jag (Jai z hq),Jag (Jai z f5)]; exact z
    refine ⟨q,dq,od,e.1.nm, .ref pr,C,rfl,Jak,e7 _ _ (a5 _ _ c7),fun a4 c9 g5=>⟨rfl,?_⟩⟩;have G:Same b8 a4:=fun b u z=>by rw [g5 b (Jai z hq)]; exact e7 _ _ z
    have N:=B.trans (a5.trans G);have a7:=N _ _ ex;have a2:H6 q=none:=Jda (B.trans a5) hq;refine ⟨D,xs,_,rfl,rfl,a7,by ac_nf,?_⟩;generalize a1:upd a4 D _=e3;nofun;have c5:=putE a1;have ec:cut D e3=cut D a4:=by rw [<- a1]; exact Jge
    have c4:q≠D:=fun z=>by rw [z,ex] at a2; cases a2
    have h8:od≠D:=fun z=>by rw [z,(c2.trans (S9.trans U)) _ _ ex] at a9; cases a9
    refine b9 _ _ ⟨li,_,_,_,xs++[.ref q],I++[⟨e.1.nm,t,C,(C.map (·.2)).sum,(0,1)⟩],rfl,fun c u X h=>by rw [<- a1,Jag X]; exact N _ _ (R c u X h),c5,?_,?_,fun v' J=>?_,by simp [b3],fun j e' l' r d=>?_⟩
    ·rw [ec];refine (hX.mono (P':=LDV K Ad (cut D a4)) fun _ _ z=>z.same N.cut).append (.one ⟨q,dq, .ref pr, .ref Ad.ZERO,od,rfl,?_,?_,⟨Ad.ZERO,rfl,T.Bdq _⟩,?_⟩)
     ·rw [JbH c4];exact c9
     ·exact (FrV.of (G _ _ h0)).cut a7
     ·rw [JbH h8];exact G _ _ (a5 _ _ c7)
    ·refine nodup_append.mpr ⟨c1,by simp,fun u hu v' J z=>?_⟩;rw [mem_singleton.mp J] at z;obtain ⟨q',r,_,d⟩:=a6 u hu;rw [r] at z;cases z;exact d a2
    ·have g2:∀ c,H6 c≠none->e3 c≠none:=fun c h=>by
      by_cases cc:c=D
      ·rw [cc,c5]; intro y; cases y
      ·cases hh:H6 c with
       | none=>exact absurd hh h
       | some u=>rw [<- a1,Jag cc,N _ _ hh]; intro y; cases y
     rcases mem_append.mp J with J | J
     ·obtain ⟨q',r,d,h3⟩:=a6 v' J;exact ⟨q',r,d,g2 q' h3⟩
     ·rw [mem_singleton.mp J];exact ⟨q,rfl,Jda Y a2,by rw [<- a1,Jag c4,c9]; intro y; cases y⟩
    ·rcases Jbo d with d | ⟨q1,q2⟩
     ·exact c0 j e' l' r d
     ·rw [q1,b3,d5] at r;cases r;rw [q2];exact ⟨rfl,hL.vl rb.b1,(hL.fb rb sb).mono ⋯ ⋯,by rw [o]; exact (L.way e he w hw b0).symm,d9,b4,rfl,rfl⟩
  ·rintro σ H6 ⟨hi,v5,v6,v7,xs,I,rfl,R,ex,hX,c1,a6,b3,c0⟩;nofun;exact k D xs I H6 (fun c u h=>R c u (Jai h a0) (d0 _ _ h)) a0 ex (hX.mono fun _ _ z=>z.same Jc9) c1 (fun v hv=>by obtain ⟨q,r,d,_⟩:=a6 v hv; exact ⟨q,r,d⟩) ∅ c0
abbrev BaC:Stmt:=top 34
theorem Jb8:Jan ["thing","scale","told","part"] ["thing","scale"] (Jae BaC):=by bv_decide
def Jcb (K:W.Frag) (Ad:Adr):Sp:=fun vs H Q E=>∃ (x sc:Addr) (ls:List PD) (gs:List GD) (b:Int) (fs:List Int),vs=[.ref x, .ref sc]/\TK K Ad H x ls gs/\SCK Ad H sc b fs/\ls.length<=12/\(ls.map (·.nm)).Nodup/\(∀ p∈ls,FB 200 12 p.mo/\1<=p.wt/\Mth.Sz 21 p.wt)/\∀ md kv ms H',Same H H'->H md=none->H' md=some (.dK kv)->BG (·.1) (NFV K H') ms kv->ms.length=ls.length->(∀ (i:Nat) p m,ls[i]?=some p->ms[i]?=some m->MSt b p m)->Q (.ref md) H'
theorem JeA (F:FunD K "most_levels" "most_levels" BaC dV f fd) (T:Txt K mg Ad) (BaG:MCal P w K mg base 2 "parts" (Ja8 Ad) ["self"] (JaZ K Ad)) (Bb7:MCal P w K mg base 2 "lifted" (Jdq Ad) ["self","number"] (Jbr K Ad)) (Bc2:Cal P w K mg base 3 "over" ["one","other"] [] (Jfo K Ad)):FnOk P w K mg base (CX1 P w) 4 f fd ["thing","scale"] (Jcb K Ad):=by
 refine F.okn Jb8 (by subst_eqs) (fun b0 A a6 s H vs Q E Z h=>?_)
 obtain ⟨x,J,ls,gs,b,fs,rfl,h⟩:=h;have hu:=Z.units;refine ⟨_,(Jab (Jaj (i:=2) Jb8.nd rfl (Or.inl rfl) JbA)
   (Jab (Ja1 PassesOwn.never rfl (pi_U (BaG.m0 Z ⋯ passF (pv 0))) (Jar (i:=3) Jb8.nd rfl (Or.inl rfl))
   (Jah (JbR (hu1 hu) (pv 2) (pe_ix ix_U (pv 3) Jac (fun _ _=>rfl)) (Bc2.ev Z ⋯ rfl passF (Jaa (Bb7.m Z ⋯ passF (pv 1) (Jaa (pe_ix ix_U (pv 3) Jac (fun _ _=>rfl)) Jad)) (Jaa (JaJ (Jaa (pe_ix ix_U (pv 3) Jac (fun _ _=>rfl)) (Jaa Jac Jad))) Jad)) (he:=by exact Jaf rfl)) rfl)))
   (Jah (Jaq (pv 2))))),?_⟩
 clear hu;obtain ⟨ht,N,b2,a5,a2,k⟩:=h;obtain ⟨dx,d1,d2,d3,k1,k2,k3,hx,_⟩:=id ht;obtain ⟨a0,fl,U,_,S,sb,_⟩:=id N;have sl:(1000:Nat)<=sizeLine:=by decide
 have b1:=S.b1;show tSeq _ _ _ [some (.ref x),some (.ref J),none,none] H;nofun;rename_i D n a9 H H1 S1 e1;nofun;refine ⟨x,_,dx,_,rfl,S1 _ _ hx,rfl,rfl,x,ls,_,rfl,ht.same S1,by ac_nf,fun l ys H2 S2 R e2 hY=>?_⟩;have lY:=hY.length;have a1:l≠D:=fun z=>by rw [z,e1] at R; cases R
 have L:=S1.trans S2;nofun;refine ⟨l,rfl,ForA.byLN (xs:=ys) (SqL.of e2) (fun i σ O=>i<=ys.length/\∃ (v3:Option V) (W:List (Key × V)) (v:List (Str × Fr2)),σ=[some (.ref x),some (.ref J),some (.ref D),v3]/\(∀ c u,c≠D->H2 c=some u->O c=some u)/\SameT H2 O/\O D=some (.dK W)/\BG (·.1) (NFV K O) v W/\v.map (·.1)=(ls.take i).map (·.nm)/\∀ (j:Nat) p m,ls[j]?=some p->v[j]?=some m->MSt b p m) ⟨Nat.zero_le _,none,[],[],rfl,fun _ _ _ h=>h,SameT.refl _,S2 _ _ e1,⟨rfl,rfl⟩,rfl,fun j p m _ h=>by simp at h⟩ (fun i σ O q=>by obtain ⟨_,_,_,_,_,q,_⟩:=q; exact SqL.of (q _ _ a1 e2)) ?_ ?_⟩
 ·rintro i y σ H3 hy ⟨hi,v3,W,v,rfl,ho,Y,r,hB,d,C⟩ N0 a4;have li:=(List.getElem?_eq_some_iff.mp hy).1;obtain ⟨p,X,b_,vz,vm,rfl,hb,_,hm⟩:=hY.at_ hy;obtain ⟨mb,w1,ws⟩:=a2 p (List.mem_of_getElem? X);have lB:=hB.length;have a3:v.length=i:=by have:=congrArg List.length d; rw [length_map,length_map,length_take] at this; ac_nf
  have B:=hb.sameT Y;have M:Same H H3:=fun c u h=>ho c u (Jai h n) (L _ _ h);nofun;refine ⟨J,_,a0,_,rfl,M _ _ U,rfl,rfl,?_⟩;refine ixT (i:=4) B rfl ?_;refine ⟨J,vm,p.mo,b,fs,rfl,N.same M,hm.sameT Y,mb.mono ⋯ ⋯,fun pr t H4 S4 e4 hL=>?_⟩;nofun;refine ixT (i:=5) (B.same S4) rfl ?_;nofun;refine ⟨len2,?_⟩;rename_i wp a8 a7 H4 H5 S5 e5;nofun;have o:=hL.fb mb sb;refine ⟨.ref pr, .ref wp,_,_,p.wt,1,rfl,FrV.of (S5 _ _ e4),FrV.of e5,o.s1.mono ⋯,o.s2.mono ⋯,ws.mono ⋯, .lit ⋯ ⋯,o.b1,by decide,o.g1,by unfold Mth.g; simp,fun z=>absurd z ∅,fun _ p2 H6 S6 e6=>?_⟩;have e6:H6 p2=some (.tup [.int (divF t (p.wt,1)).1, .int (divF t (p.wt,1)).2]):=e6;have e:=S4.trans (S5.trans S6);nofun;refine ixT (i:=0) (B.same e) rfl ?_;refine ⟨D,_,rfl,DPut.k (k:=Sum.inr p.nm) (e _ _ r) ∅,?_⟩;generalize u7:upd H6 D _=H7;nofun;have e7:=putE u7;have T7:SameT H6 H7:=SameT.put u7 (e _ _ r) rfl;have G:SameT H3 H7:=e.t.trans T7;have nn:p.nm∉v.map (·.1):=by rw [d]; exact Jid a5 X
  refine a4 _ _ ⟨li,_,_,v++[(p.nm,divF t (p.wt,1))],rfl,fun c u I h=>by rw [<- u7,Jag I]; exact e _ _ (ho c u I h),Y.trans G,e7,?_,?_,fun j p' m' h1 h2=>?_⟩
  ·exact (hB.mono (P':=NFV K H7) fun _ _ z=>z.sameT G).new (a:=(p.nm,divF t (p.wt,1))) nn (FrV.of (T7 _ _ rfl e6))
  ·rw [map_append,d,take_succ,X,map_append];rfl
  ·rcases Jbo h2 with h2 | ⟨q1,q2⟩
   ·exact C j p' m' h1 h2
   ·rw [q1,a3,X] at h1;cases h1;rw [q2];have dl:=Jkg (a:=t) (c:=(p.wt,1)) o.b1 w1;refine ⟨rfl,?_,?_,?_,dl.b1,dl.g1⟩
    ·show vl (divF t (p.wt,1))=_;rw [Jj1 o.b1 w1 (Int.le_refl 1),Jf9,hL.vl mb.b1]
    ·exact Mth.Sz.top (by have:=Jb2 o.b1 w1; show t.2*p.wt≠0; ac_nf) (by rw [Int.mul_one]; exact o.s1)
    ·exact (Mth.Sz.bot (t:=t.1*1) (b:=t.2*p.wt) (by have:=Jb2 o.b1 w1; ac_nf) (o.s2.mul ws)).mono ⋯
 ·rintro σ H3 ⟨hi,v3,W,v,rfl,ho,Y,r,hB,d,C⟩;rw [take_of_length_le ∅] at d;nofun;exact k D W v H3 (fun c u h=>ho c u (Jai h n) (L _ _ h)) n r hB (by simpa using congrArg List.length d) C
abbrev Bav:Stmt:=top 35
theorem JbS:Jan ["mosts","lids","levels","stops","lid"] ["mosts","lids","levels"] (Jae Bav):=by bv_decide
def JbW (K:W.Frag) (Ad:Adr):Sp:=fun vs H Q E=>∃ (md ll ld:Addr) (kvm:List (Key × V)) (ms:List (Str × Fr2)) (xs:List V) (lds:List LidD) (kvl:List (Key × V)) (lvs:List (Str × Fr2)),vs=[.ref md, .ref ll, .ref ld]/\H md=some (.dK kvm)/\BG (·.1) (NFV K H) ms kvm/\H ll=some (.lst xs)/\All2 (LDV K Ad H) lds xs/\H ld=some (.dK kvl)/\BG (·.1) (NFV K H) lvs kvl/\ms.length<=12/\lds.length<=7/\(∀ e∈lds,FB 3000 1000 e.rest/\Mth.Sz 64 e.load/\e.ws.length<=12)/\(ms.map (·.1)).Nodup/\∀ sl ys H',Same H H'->H' sl=some (.lst ys)->All2 (StV K H') (stF ms lds (lvs.map (·.1))) ys->Q (.ref sl) H'
theorem Jee (F:FunD K "coming_stops" "coming_stops" Bav dV f fd) (T:Txt K mg Ad) (m_full_level:MCal P w K mg base 4 "full_level" (IsLid Ad) ["self"] (Jbw K Ad)):FnOk P w K mg base (CX1 P w) 5 f fd ["mosts","lids","levels"] (JbW K Ad):=by
 refine F.okn JbS (by subst_eqs) (fun e2 A d3 s H vs Q E hr h=>?_)
 obtain ⟨r,ll,ld,c,ms,xs,M,c1,a,rfl,h⟩:=h;have hu:=hr.units;refine ⟨_,(Jab (JkP (JcX (j:=3) (own:=["name"]) (cs:=[(0,"mosts"),(2,"levels")]) JbS.nd rfl (Or.inl rfl) rfl (Jiu (pv 0)) (fun _ _ _ _=>(Jar (i:=0) (show [("name" : Str),("mosts" : Str),("levels" : Str)].Nodup by decide) rfl (Or.inl rfl))) (fun _ _ _ _=>(Jel (Jdh (hu1 hu) (pv 0) (pv 2)) (by with_unfolding_all rfl))) (fun _ _ _ _=>(JaJ (Jaa (Ja0 (hu1 hu) (pv 1) (pv 0) (fun _ _=>rfl)) (Jaa (Ja5 (Jaa (pv 0) Jad)) Jad)))) (JdF rfl) ⋯ rfl ⋯ (hcs2 rfl rfl rfl rfl rfl rfl)))
   (Jab (Ja1 PassesOwn.never rfl (pi_U (pv 1)) (Jar (i:=4) JbS.nd rfl (Or.inl rfl))
   (Jah (ps_if (Jax Jg2 (Jas (pv 4) rfl) Jac (Jaz _))
   (Jah (Ja9 (pe_bm PySem.F.plainAttrs_list PySem.F.slot_list_append PySem.F.type_list_append Ja7 (pv 3) (Jaa (JaJ (Jaa (m_full_level.m0 hr ⋯ passF (pv 4)) (Jaa (JgA (Jdi (own:=["name"]) (cs:=[(2,"levels")]) rfl (Jiu (Jas (pv 4) rfl)) (fun _ _ _ _=>(Jar (i:=0) (show [("name" : Str),("levels" : Str)].Nodup by decide) rfl (Or.inl rfl))) (fun _ _ _ _=>(Jel (Jdh (hu1 hu) (pv 0) (pv 1)) (by with_unfolding_all rfl))) (fun _ _ _ _=>(pv 0)) (JdF rfl) ⋯ rfl ⋯ (hcs1 rfl rfl rfl))) Jad))) Jad) (hs:=by exact Jaf rfl))))
   JaA)))
   (Jah (Jaq (pv 3))))),?_⟩
 clear hu;obtain ⟨hm,bm,hl,hX,hv,bl,c4,l7,c5,d5,k⟩:=h;have sz:(1000:Nat)<=sizeLine:=by decide
 have lX:=hX.length;show tSeq _ _ _ [some (.ref r),some (.ref ll),some (.ref ld),none,none] H;and_intros;refine ⟨r,c,hm,r,c,ms.map (·.1),rfl,hm,bm.keysS,fun od=>?_⟩;generalize uf:upd H r (.frz od (.dK c))=H1;and_intros;have f1:H1 r=some (.frz od (.dK c)):=by rw [<- uf,Jak]
 have t1:thw r c H1=H:=by rw [<- uf]; exact JiR hm
 refine JbO.keys (fun i ys C=>C r=some (.frz od (.dK c))/\Same H (thw r c C)/\All2 (StV K (thw r c C)) (((ms.take i).filter fun m=>decide (m.1∉a.map (·.1))).map fun m=>(m.2,[m.1])) ys) ⟨f1,by rw [t1]; exact Same.refl _,rfl⟩ (fun i ys C hi z=>⟨z.1,by
  have h1:=z.2.2.length;rw [length_map] at h1;have h2:=length_filter_le (fun m:Str × Fr2=>decide (m.1∉a.map (·.1))) (ms.take i);rw [length_take] at h2;ac_nf⟩) ?_ ?_
 ·rintro i z ys H2 hz ⟨L,S2,hA⟩;rw [List.getElem?_map] at hz;obtain ⟨m,a3,a2⟩:=Option.map_eq_some_iff.mp hz;have a2:m.1=z:=a2;subst a2;have b5:=List.mem_of_getElem? a3;simpa only [length_singleton,length_cons,length_nil,List.replicate,JaD,map_cons,map_nil,Option.join_some];refine ⟨ld,_,rfl,JiS (k:=Sum.inr m.1) L (S2 _ _ hv),?_⟩;rw [bl.val];by_cases g:m.1∈a.map (·.1)
  ·rw [decide_eq_true g];and_intros;refine ⟨L,S2,?_⟩;rw [take_succ,a3,filter_append,map_append];have : [m].filter (fun m=>decide (m.1∉a.map (·.1)))=[]:=List.filter_eq_nil_iff.mpr fun x G=>by rw [mem_singleton.mp G]; simpa using g
   rw [show (some m).toList=[m] from rfl,this,map_nil,append_nil];exact hA
  ·rw [decide_eq_false g];and_intros;obtain ⟨a',v,b6,c6,d1,c8⟩:=bm.some (z:=m.1) (mem_map.mpr ⟨m,b5,rfl⟩);have ea:=JgV d5 b6 b5 c6;subst ea;refine ⟨r,v,rfl,by rw [<- d1]; exact DGet.f (k:=Sum.inr a'.1) L,?_⟩;and_intros;refine ⟨by show 1<=sizeLine; ac_nf,?_⟩;rename_i l b2 b9 H2 H3 S3 e3;and_intros;refine ⟨by show 2<=sizeLine; ac_nf,?_⟩;rename_i t d4 d0 H3 H4 S4 e4;and_intros;have b3:=S3.trans S4;have f4:=b3 _ _ L;have St:=Jfs (d:=r) (kv:=c) b3;refine ⟨f4,S2.trans St,?_⟩;rw [take_succ,a3,filter_append,map_append];have : [a'].filter (fun m=>decide (m.1∉a.map (·.1)))=[a']:=List.filter_eq_self.mpr fun x G=>by rw [mem_singleton.mp G]; simpa using g
   rw [show (some a').toList=[a'] from rfl,this];exact (hA.mono (P':=StV K (thw r c H4)) fun _ _ z=>z.same St).append (.one ⟨t,v,l,rfl,SqT.of (Jhb f4 e4 (by intro o w z; cases z)),FrV.same (S2.trans St) c8,Jhb f4 (S4 _ _ e3) (by intro o w z; cases z)⟩)
 ·rintro ys H2 ⟨L,S2,hA⟩;rw [length_map,take_of_length_le (Nat.le_refl _)] at hA;rename_i B N d7 H2 H3 S3 e3;and_intros;refine ⟨od,c,S3 _ _ L,?_⟩;obtain ⟨H4,U⟩:∃ H4,H4=thw r c H3:=⟨_,rfl⟩;rw [show upd H3 r (.dK c)=H4 from U.symm];and_intros;have St:=Jfs (d:=r) (kv:=c) S3;rw [<- U] at St;have b0:=S2.trans St;have e4:H4 B=some (.lst ys):=by rw [U]; exact Jhb (S3 _ _ L) e3 (by intro o w z; cases z)
  have O:H B=none:=Jda S2 (Jfr L N);have b8:All2 (StV K (cut B H4)) ((ms.filter fun m=>decide (m.1∉a.map (·.1))).map fun m=>(m.2,[m.1])) ys:=hA.mono fun _ _ z=>z.same fun b u h=>by
   rw [JbH (fun y=>by rw [y,Jfr L N] at h; cases h)];exact St b u h
  have d8:(ms.filter fun m=>decide (m.1∉a.map (·.1))).length<=12:=Nat.le_trans (length_filter_le _ _) c4;have e1:ll≠B:=fun z=>by rw [z,O] at hl; cases hl
  refine ⟨ll,rfl,ForA.byLN (xs:=xs) (SqL.of (b0 _ _ hl)) (fun i σ C=>i<=xs.length/\∃ (v4:Option V) (R:List V) (S:List (Fr2 × List Str)),σ=[some (.ref r),some (.ref ll),some (.ref ld),some (.ref B),v4]/\Same H C/\C B=some (.lst R)/\All2 (StV K (cut B C)) S R/\S.length<=12+i/\S=(ms.filter fun m=>decide (m.1∉a.map (·.1))).map (fun m=>(m.2,[m.1]))++((M.take i).filter fun e=>decide (0<e.load)).map fun e=>(divF e.rest (e.load,1),(e.ws.map (·.1)).filter fun n=>decide (n∉a.map (·.1)))) ⟨Nat.zero_le _,none,ys,_,rfl,b0,e4,b8,by rw [length_map]; ac_nf,by rw [take_zero]; simp⟩ (fun i σ C q=>by obtain ⟨_,_,_,_,_,q,_⟩:=q; exact SqL.of (q _ _ hl)) ?_ ?_⟩
  ·rintro i y σ H5 hy ⟨hi,v4,R,S,rfl,S5,ez,hZ,d2,D⟩ N0 b4;have li:=(List.getElem?_eq_some_iff.mp hy).1;obtain ⟨e,a9,hd⟩:=hX.at_ hy;have c3:=List.mem_of_getElem? a9;obtain ⟨b7,c2,e0⟩:=c5 e c3;have a7:=hd.same S5;obtain ⟨q,dx,vr,vt,I,rfl,hq,hr,d9,hw⟩:=id a7;have tc:=T.c_Lid Ad.Lid rfl;have lZ:=hZ.length;and_intros;refine ⟨q,_,dx,_, .int e.load,rfl,hq,tc.cls,tc.n4,rfl,?_⟩;and_intros;have b1:M.take (i+1)=M.take i++[e]:=by rw [take_succ,a9]; rfl
   by_cases c0:0<e.load
   ·rw [if_pos (by simpa using c0)];and_intros;refine ⟨.inl ⟨rfl,_,SqL.of ez⟩,?_⟩;refine ⟨q,_,dx,_,rfl,hq,rfl,rfl,?_⟩;refine ⟨q,e,rfl,a7,b7,by ac_nf,c2,fun p H6 S6 e6=>?_⟩;and_intros;have a1:=S6 _ _ hw;refine ⟨I,_,a1,q,_,dx,_, .ref I,rfl,S6 _ _ hq,tc.cls,tc.n3,rfl,I,wsK e.ws,e.ws.map (·.1),rfl,a1,JjD e.ws,fun Y=>?_⟩;generalize ug:upd H6 I (.frz Y (.dK (wsK e.ws)))=H7;and_intros;have f7:H7 I=some (.frz Y (.dK (wsK e.ws))):=by rw [<- ug,Jak]
    have t7:thw I (wsK e.ws) H7=H6:=by rw [<- ug]; exact JiR a1
    have d6:=S5.trans S6;refine JbO.keys (fun j qs C=>C=H7/\qs=(((e.ws.map (·.1)).take j).filter fun n=>decide (n∉a.map (·.1))).map V.str) ⟨rfl,by rw [take_zero]; rfl⟩ (fun j qs C hj z=>⟨by rw [z.1]; exact f7,by
     rw [z.2,length_map];have h2:=length_filter_le (fun n:Str=>decide (n∉a.map (·.1))) ((e.ws.map (·.1)).take j);rw [length_take,length_map] at h2;ac_nf⟩) ?_ ?_
    ·rintro j z qs H8 hz ⟨a0,J⟩;subst a0;subst J;simpa only [length_singleton,length_cons,length_nil,List.replicate,JaD,map_cons,map_nil,Option.join_some];refine ⟨ld,_,rfl,JiS (k:=Sum.inr z) f7 (by rw [t7]; exact d6 _ _ hv),?_⟩;rw [bl.val];have a6:(e.ws.map (·.1)).take (j+1)=(e.ws.map (·.1)).take j++[z]:=by rw [take_succ,hz]; rfl
     by_cases g:z∈a.map (·.1)
     ·rw [decide_eq_true g];and_intros;rw [a6,filter_append,show [z].filter (fun n=>decide (n∉a.map (·.1)))=[] from List.filter_eq_nil_iff.mpr fun x G=>by rw [mem_singleton.mp G]; simpa using g,append_nil]
     ·rw [decide_eq_false g];and_intros;rw [a6,filter_append,show [z].filter (fun n=>decide (n∉a.map (·.1)))=[z] from List.filter_eq_self.mpr fun x G=>by rw [mem_singleton.mp G]; simpa using g,map_append];rfl
    ·rintro qs H8 ⟨a0,J⟩;subst a0;rw [take_of_length_le (Nat.le_refl _)] at J;subst J;rename_i l b2 b9 H8 H9 S9 e9;and_intros;refine ⟨Y,_,S9 _ _ f7,?_⟩;obtain ⟨HA,W⟩:∃ HA,HA=thw I (wsK e.ws) H9:=⟨_,rfl⟩;rw [show upd H9 I (.dK (wsK e.ws))=HA from W.symm];have Su:=Jfs (d:=I) (kv:=wsK e.ws) S9;rw [t7, <- W] at Su;have eA:HA l=some (.lst (((e.ws.map (·.1)).filter fun n=>decide (n∉a.map (·.1))).map V.str)):=by rw [W]; exact Jhb (S9 _ _ f7) e9 (by intro o w z; cases z)
     and_intros;refine ⟨len2,?_⟩;rename_i t d4 d0 HA HB SB eB;and_intros;have a4:=S6.trans (Su.trans SB);have Z:=a4 _ _ ez;refine ⟨B,R,_,rfl,rfl,Z,by ac_nf,?_⟩;generalize X:upd HB B _=c7;and_intros;have c9:=putE X;have ec:cut B c7=cut B HB:=by rw [<- X]; exact Jge
     have a5:H6 l=none:=by rw [<- t7]; exact Jfr f7 b2
     have a8:l≠B:=fun z=>by rw [z,S6 _ _ ez] at a5; cases a5
     refine b4 _ _ ⟨li,_,R++[.ref t],S++[(divF e.rest (e.load,1),(e.ws.map (·.1)).filter fun n=>decide (n∉a.map (·.1)))],rfl,fun b u h=>by rw [<- X,Jag (Jai h O)]; exact a4 _ _ (S5 _ _ h),c9,?_,by simp; ac_nf,?_⟩
     ·rw [ec];refine (hZ.mono (P':=StV K (cut B HB)) fun _ _ z=>z.same a4.cut).append (.one ⟨t, .ref p,l,rfl,SqT.cut Z (SqT.of eB),FrV.cut Z (FrV.of (SB _ _ (Su _ _ e6))),?_⟩);rw [JbH a8];exact SB _ _ eA
     ·rw [D,b1,filter_append,show [e].filter (fun e=>decide (0<e.load))=[e] from List.filter_eq_self.mpr fun x G=>by rw [mem_singleton.mp G]; simpa using c0,map_append, <- List.append_assoc];rfl
   ·rw [if_neg (by simpa using c0)];and_intros;refine b4 _ _ ⟨li,_,R,S,rfl,S5,ez,hZ,by ac_nf,?_⟩;rw [D,b1,filter_append,show [e].filter (fun e=>decide (0<e.load))=[] from List.filter_eq_nil_iff.mpr fun x G=>by rw [mem_singleton.mp G]; simpa using c0,append_nil]
  ·rintro σ H5 ⟨hi,v4,R,S,rfl,S5,ez,hZ,d2,D⟩;rw [take_of_length_le ∅] at D;and_intros;refine k B R H5 S5 ez ?_;unfold stF;rw [<- D];exact hZ.mono fun _ _ z=>z.cut
abbrev BaD:Stmt:=top 36
theorem JbB:Jan ["stops","found","stop"] ["stops"] (Jae BaD):=by bv_decide
def Jca (K:W.Frag):Sp:=fun vs H Q E=>∃ (sl:Addr) (ys:List V) (st:List (Fr2 × List Str)),vs=[.ref sl]/\SqL K H sl ys/\All2 (StV K H) st ys/\st≠[]/\(∀ s∈st,FB 3000 1200 s.1)/\∀ v (L:Fr2),L∈st.map (·.1)->(∀ s∈st,vl L<=vl s.1)->FrV K H v L.1 L.2->Q v H
theorem Jey (F:FunD K "first_level" "first_level" BaD dV f fd) (T:Txt K mg Ad) (BaF:Cal P w K mg base 1 "under" ["one","other"] [] (Jcy K)):FnOk P w K mg base (CX1 P w) 2 f fd ["stops"] (Jca K):=by
 refine F.okn JbB (by subst_eqs) (fun a1 A R s H vs Q E hr h=>?_)
 obtain ⟨x,O,W,rfl,h⟩:=h;refine ⟨_,(Jab (Jaj (i:=1) JbB.nd rfl (Or.inl rfl) (pe_ix ix_U (pe_ix ix_U (pv 0) Jac (fun _ _=>rfl)) Jac (fun _ _=>rfl)))
   (Jab (Ja1 PassesOwn.never rfl (pi_U (pv 0)) (Jar (i:=2) JbB.nd rfl (Or.inl rfl))
   (Jah (ps_if (Ja2 (BaF.ev hr ⋯ rfl passF (Jaa (pe_ix ix_U (pv 2) Jac (fun _ _=>rfl)) (Jaa (pv 1) Jad)) (he:=by exact Jaf rfl)))
   (Jah (Jaj (i:=1) JbB.nd rfl (Or.inl rfl) (pe_ix ix_U (pv 2) Jac (fun _ _=>rfl))))
   JaA)))
   (Jah (Jaq (pv 1))))),?_⟩
 obtain ⟨Z,I,Y,n,k⟩:=h;have lA:=I.length;obtain ⟨g,r,rfl⟩:∃ g r,W=g::r:=by cases W with | nil=>exact absurd rfl Y | cons a b=>exact ⟨a,b,rfl⟩
 obtain ⟨y0,X,t0,v0,l0,rfl,J,C,_⟩:=I.get (i:=0) rfl;show tSeq _ _ _ [some (.ref x),none,none] H;nofun;refine ixL (i:=0) Z X ?_;nofun;refine ixT (i:=0) J rfl ?_;nofun;refine ⟨x,rfl,ForA.byLN (xs:=O) Z (fun i σ B=>i<=O.length/\B=H/\∃ (v:V) (L:Fr2) (M:Option V),σ=[some (.ref x),some v,M]/\FrV K H v L.1 L.2/\L∈(g::r).map (·.1)/\∀ s∈(g::r).take i,vl L<=vl s.1) ⟨Nat.zero_le _,rfl,v0,g.1,none,rfl,C,by simp,(fun s o=>by simp at o)⟩ (fun i σ B q=>by rw [q.2.1]; exact Z) ?_ ?_⟩
 ·rintro i y σ B hy ⟨hi,rfl,v,L,M,rfl,p,u,d⟩ N0 m;have li:=(List.getElem?_eq_some_iff.mp hy).1;obtain ⟨s,o,t,w,l,rfl,ht,hw,_⟩:=I.at_ hy;have N:=n s (List.mem_of_getElem? o);obtain ⟨sL,a0,S⟩:=mem_map.mp u;have U:FB 3000 1200 L:=S ▸ n sL a0;have j:(g::r).take (i+1)=(g::r).take i++[s]:=by rw [take_succ,o]; rfl
  have D:=Jc5 (a:=s.1) (c:=L) N.b1 U.b1;unfold lessF at D;nofun;refine ixT (i:=0) ht rfl ?_;refine ⟨w,v,_,_,_,_,rfl,hw,p,N.s1.mono ⋯,N.s2.mono ⋯,U.s1.mono ⋯,U.s2.mono ⋯,?_⟩;nofun;by_cases c:decide (s.1.1*L.2<L.1*s.1.2)=true
  ·rw [if_pos c];nofun;refine ixT (i:=0) ht rfl ?_;nofun;have lt:=D.mp c;refine m _ _ ⟨li,rfl,w,s.1,_,rfl,hw,mem_map.mpr ⟨s,List.mem_of_getElem? o,rfl⟩,fun G e=>?_⟩;rw [j] at e;rcases mem_append.mp e with h | h
   ·exact Rat.le_trans (Rat.le_of_lt lt) (d G h)
   ·rw [mem_singleton.mp h];exact Rat.le_refl
  ·rw [if_neg c];nofun;refine m _ _ ⟨li,rfl,v,L,_,rfl,p,u,fun G e=>?_⟩;rw [j] at e;rcases mem_append.mp e with h | h
   ·exact d G h
   ·rw [mem_singleton.mp h];exact Rat.not_lt.mp fun z=>c (D.mpr z)
 ·rintro σ B ⟨hi,rfl,v,L,M,rfl,p,u,d⟩;rw [take_of_length_le ∅] at d;nofun;exact k v L u d p
abbrev BaN:Stmt:=top 37
theorem JbL:Jan ["stops","level","names","stop","name"] ["stops","level"] (Jae BaN):=by bv_decide
def Jcx (K:W.Frag):Sp:=fun vs H Q E=>∃ (sl:Addr) (lv:V) (ys:List V) (st:List (Fr2 × List Str)) (L:Fr2) (N:List Str),vs=[.ref sl,lv]/\SqL K H sl ys/\All2 (StV K H) st ys/\FrV K H lv L.1 L.2/\N.length<=20/\(∀ s∈st, ∀ n∈s.2,n∈N)/\∀ (l:Addr) (ns:List Str) (H':Hp),Same H H'->H' l=some (.lst (ns.map V.str))->ns.Nodup->(∀ n,n∈ns↔∃ s∈st,s.1=L/\n∈s.2)->Q (.ref l) H'
theorem Jfd (F:FunD K "stopped_at" "stopped_at" BaN dV f fd) (T:Txt K mg Ad)  : FnOk P w K mg base (CX1 P w) 1 f fd ["stops","level"] (Jcx K):=by
 refine F.okn JbL (by subst_eqs) (fun a5 A a2 s H vs Q E hr h=>?_)
 obtain ⟨sl,lv,ys,st,L,N,rfl,h⟩:=h;have hu:=hr.units;refine ⟨_,(Jab (Jaj (i:=2) JbL.nd rfl (Or.inl rfl) JbA)
   (Jab (Ja1 PassesOwn.never rfl (pi_U (pv 0)) (Jar (i:=3) JbL.nd rfl (Or.inl rfl))
   (Jah (ps_if (Jax (JbP hu) (pe_ix ix_U (pv 3) Jac (fun _ _=>rfl)) (pv 1) (Jaz _))
   (Jah (Ja1 PassesOwn.never rfl (pi_U (pe_ix ix_U (pv 3) Jac (fun _ _=>rfl))) (Jar (i:=4) JbL.nd rfl (Or.inl rfl))
   (Jah (JbR (hu1 hu) (pv 2) (pv 4) pe_bl rfl))))
   JaA)))
   (Jah (Jaq (Jcf (Jhi rfl) rfl T.BdB JeV (Jaa (pv 2) Jad)))))),?_⟩
 clear hu;obtain ⟨hS,hA,hL,a4,hN,k⟩:=h;have sz:(1000:Nat)<=sizeLine:=by decide
 have lA:=hA.length;show tSeq _ _ _ [some (.ref sl),some lv,none,none,none] H;nofun;rename_i R M a3 H H1 S1 e1;nofun;refine ⟨sl,rfl,ForA.byLN (xs:=ys) (hS.same S1) (fun i σ S=>i<=ys.length/\∃ (v3 O:Option V) (B:List (Key × V)) (r:List Str),σ=[some (.ref sl),some lv,some (.ref R),v3,O]/\Same H S/\S R=some (.dK B)/\B.map (·.1)=r.map Sum.inr/\r.Nodup/\∀ n,n∈r↔∃ s∈st.take i,s.1=L/\n∈s.2) ⟨Nat.zero_le _,none,none,[],[],rfl,S1,e1,rfl, .nil,fun n=>by simp⟩ (fun i σ S q=>by obtain ⟨_,_,_,_,_,_,q,_⟩:=q; exact hS.same q) ?_ ?_⟩
 ·rintro i y σ H2 hy ⟨hi,v3,O,B,r,rfl,J,e2,hk,G,d⟩ N0 a0;have li:=(List.getElem?_eq_some_iff.mp hy).1;obtain ⟨s,hs,t,w,l,rfl,ht,hw,hl⟩:=hA.at_ hy;have a1:=List.mem_of_getElem? hs;have Z:st.take (i+1)=st.take i++[s]:=by rw [take_succ,hs]; rfl
  nofun;refine ixT (i:=0) (ht.same J) rfl ?_;refine eqF (hw.same J) (hL.same J) ?_;have ee:(decide (s.1.1=L.1)&&decide (s.1.2=L.2))=decide (s.1=L):=by
   rw [<- Bool.decide_and];exact decide_eq_decide.mpr Prod.ext_iff.symm
  rw [ee];nofun;by_cases c:s.1=L
  ·rw [if_pos (by simpa using c)];nofun;refine ixT (i:=1) (ht.same J) rfl ?_;nofun;have a7:l≠R:=Jai hl M;refine ⟨l,rfl,ForA.byLN (xs:=s.2.map V.str) (SqL.of (J _ _ hl)) (fun j σ S=>j<=(s.2.map V.str).length/\∃ (O:Option V) (B:List (Key × V)) (ns':List Str),σ=[some (.ref sl),some lv,some (.ref R),some (.ref t),O]/\Same H S/\S R=some (.dK B)/\B.map (·.1)=ns'.map Sum.inr/\ns'.Nodup/\∀ n,n∈ns'↔n∈r\/n∈s.2.take j) ⟨Nat.zero_le _,O,B,r,rfl,J,e2,hk,G,fun n=>by simp⟩ (fun j σ S q=>by obtain ⟨_,_,_,_,_,q,_⟩:=q; exact SqL.of (q _ _ hl)) ?_ ?_⟩
   ·rintro j z σ H3 hz ⟨hj,O,I,m,rfl,S3,W,o,g,a⟩ N1 Y;have lj:=(List.getElem?_eq_some_iff.mp hz).1;rw [List.getElem?_map] at hz;obtain ⟨n,hn,rfl⟩:=Option.map_eq_some_iff.mp hz;have lk:I.length=m.length:=by simpa using congrArg List.length o
    have lN:m.length<=N.length:=sub_len m N g fun x hx=>by
     rcases (a x).mp hx with h | h
     ·obtain ⟨D,e,_,p⟩:=(d x).mp h;exact hN D (List.mem_of_mem_take e) x p
     ·exact hN s a1 x (List.mem_of_mem_take h)
    nofun;refine ⟨R,_,rfl,DPut.k (k:=Sum.inr n) W ∅,?_⟩;generalize u4:upd H3 R _=H4;nofun;have e4:=putE u4;have X:s.2.take (j+1)=s.2.take j++[n]:=by rw [take_succ,hn]; rfl
    have S4:Same H H4:=fun b u h=>by rw [<- u4,Jag (Jai h M)]; exact S3 _ _ h
    have U:=Jh7 (kvs:=I) (k:=Sum.inr n);rw [o] at U;by_cases cn:n∈m
    ·refine Y _ _ ⟨lj,_,_,m,rfl,S4,e4,?_,g,fun x=>?_⟩
     ·rw [Jh8,if_pos (U.mpr (mem_map.mpr ⟨n,cn,rfl⟩))];exact o
     ·rw [a x,X,mem_append,mem_singleton];refine ⟨fun h=>h.elim .inl fun h=>.inr (.inl h),fun h=>?_⟩;rcases h with h | h | h
      ·exact .inl h
      ·exact .inr h
      ·rw [h];exact (a n).mp cn
    ·refine Y _ _ ⟨lj,_,_,m++[n],rfl,S4,e4,?_,?_,fun x=>?_⟩
     ·rw [Jh8,if_neg (fun z=>cn (by obtain ⟨q,hq,eq⟩:=mem_map.mp (U.mp z); have eq:q=n:=(by injection eq); exact eq ▸ hq)),o,map_append];rfl
     ·exact nodup_append.mpr ⟨g,by simp,fun u hu v hv z=>cn (by rw [mem_singleton.mp hv] at z; rw [<- z]; exact hu)⟩
     ·rw [mem_append,mem_singleton,a x,X,mem_append,mem_singleton];grind
   ·rintro σ H3 ⟨hj,O,I,m,rfl,S3,W,o,g,a⟩;rw [length_map,take_of_length_le (Nat.le_refl _)] at a;refine a0 _ _ ⟨li,_,_,I,m,rfl,S3,W,o,g,fun n=>?_⟩;rw [a n,d n,Z];constructor
    ·rintro (⟨D,e,p,C⟩ | h)
     ·exact ⟨D,mem_append.mpr (.inl e),p,C⟩
     ·exact ⟨s,mem_append.mpr (.inr (by simp)),c,h⟩
    ·rintro ⟨D,e,p,C⟩;rcases mem_append.mp e with e | e
     ·exact .inl ⟨D,e,p,C⟩
     ·rw [mem_singleton.mp e] at C;exact .inr C
  ·rw [if_neg (by simpa using c)];nofun;refine a0 _ _ ⟨li,_,_,B,r,rfl,J,e2,hk,G,fun n=>?_⟩;rw [d n,Z];constructor
   ·rintro ⟨D,e,p,C⟩;exact ⟨D,mem_append.mpr (.inl e),p,C⟩
   ·rintro ⟨D,e,p,C⟩;rcases mem_append.mp e with e | e
    ·exact ⟨D,e,p,C⟩
    ·rw [mem_singleton.mp e] at p;exact absurd p c
 ·rintro σ H2 ⟨hi,v3,O,B,r,rfl,J,e2,hk,G,d⟩;rw [take_of_length_le ∅] at d;nofun;refine ⟨R,B,r,rfl,e2,hk,?_⟩;rename_i l a8 a6 H2 H3 S3 W;nofun;exact k l r H3 (J.trans S3) W G d
abbrev Baw:Stmt:=top 38
theorem Ja4:Jan ["mosts","lids","levels","stops","level","name","lid"] ["mosts","lids"] (Jae Baw):=by bv_decide
def JbY (K:W.Frag) (Ad:Adr):Sp:=fun vs H Q E=>∃ (md ll:Addr) (kvm:List (Key × V)) (ms:List (Str × Fr2)) (xs:List V) (lds:List LidD) (b q0:Int) (N:List Str) (w M:Str->Rat) (gs:List Gp),vs=[.ref md, .ref ll]/\H md=some (.dK kvm)/\BG (·.1) (NFV K H) ms kvm/\H ll=some (.lst xs)/\All2 (LDV K Ad H) lds xs/\xs.Nodup/\lds.length<=7/\RC b q0 N w M gs ms/\RSt b N w M gs [] lds/\∀ (ld:Addr) (kv:List (Key × V)) (lvs:List (Str × Fr2)) (lds':List LidD) (H':Hp),(∀ a u,V.ref a∉xs->H a=some u->H' a=some u)->H ld=none->H' ld=some (.dK kv)->BG (·.1) (NFV K H') lvs kv->All2 (LDV K Ad H') lds' xs->RSt b N w M gs lvs lds'->N.length<=lvs.length->lds'.map (·.nm)=lds.map (·.nm)->Q (.ref ld) H'
theorem Jef (F:FunD K "risen_levels" "risen_levels" Baw dV f fd) (T:Txt K mg Ad) (Bbh:Cal P w K mg base 5 "coming_stops" ["mosts","lids","levels"] [] (JbW K Ad)) (Bby:Cal P w K mg base 2 "first_level" ["stops"] [] (Jca K)) (BbW:Cal P w K mg base 1 "stopped_at" ["stops","level"] [] (Jcx K)) (m_settle:MCal P w K mg base 4 "settle" (IsLid Ad) ["self","part","level"] (Jco K Ad)):FnOk P w K mg base (CX1 P w) 7 f fd ["mosts","lids"] (JbY K Ad):=by
 refine F.okn Ja4 (by subst_eqs) (fun f9 A e9 s H vs Q E hr h=>?_)
 obtain ⟨md,ll,I,ms,xs,G,b,q0,N,w,M,gs,rfl,h⟩:=h;have hu:=hr.units;refine ⟨_,(Jab (Jaj (i:=2) Ja4.nd rfl (Or.inl rfl) JbA)
   (Jab (JdS PassesOwn.never (Jax Jdf (Jap Jcc rfl T.Bbe Jbd (Jaa (pv 2) Jad)) (Jap Jcc rfl T.Bbe Jbd (Jaa (pv 0) Jad)) (Jaz _))
   (Jab (Jaj (i:=3) Ja4.nd rfl (Or.inl rfl) (Bbh.ev hr ⋯ rfl passF (Jaa (pv 0) (Jaa (pv 1) (Jaa (pv 2) Jad))) (he:=by exact Jaf rfl)))
   (Jab (Jaj (i:=4) Ja4.nd rfl (Or.inl rfl) (Bby.ev hr ⋯ rfl passF (Jaa (pv 3) Jad) (he:=by exact Jaf rfl)))
   (Jah (Ja1 PassesOwn.never rfl (pi_U (BbW.ev hr ⋯ rfl passF (Jaa (pv 3) (Jaa (pv 4) Jad)) (he:=by exact Jaf rfl))) (Jar (i:=5) Ja4.nd rfl (Or.inl rfl))
   (Jab (JbR (hu1 hu) (pv 2) (pv 5) (pv 4) rfl)
   (Jah (Ja1 PassesOwn.never rfl (pi_U (pv 1)) (Jar (i:=6) Ja4.nd rfl (Or.inl rfl))
   (Jah (Ja9 (m_settle.m hr ⋯ passF (pv 6) (Jaa (pv 5) (Jaa (pv 4) Jad)))))))))))))
   (Jah (Jaq (pv 2))))),?_⟩
 clear hu;obtain ⟨hm,bm,hl,hX,d6,l7,U,d9,k⟩:=h;show tSeq _ _ _ [some (.ref md),some (.ref ll),none,none,none,none,none] H;nofun;rename_i g S f5 H H1 S1 e1;nofun;refine ⟨fun m σ C=>∃ (v3 v4 v5 v6:Option V) (kv:List (Key × V)) (d:List (Str × Fr2)) (o:List LidD),σ=[some (.ref md),some (.ref ll),some (.ref g),v3,v4,v5,v6]/\(∀ a u,V.ref a∉xs->H a=some u->C a=some u)/\C g=some (.dK kv)/\BG (·.1) (NFV K C) d kv/\All2 (LDV K Ad (cut g C)) o xs/\RSt b N w M gs d o/\o.map (·.nm)=G.map (·.nm)/\m=N.length-d.length,⟨_,none,none,none,none,[],[],G,rfl,fun a u _ h=>S1 _ _ h,e1,⟨rfl,rfl⟩,hX.mono fun _ _ h=>h.same (Same.cutN S1 S),d9,rfl,rfl⟩,?_⟩;rintro m σ H2 ⟨v3,v4,v5,v6,kv,d,o,rfl,S2,e2,b2,b9,st,c4,rfl⟩;have x2:All2 (LDV K Ad H2) o xs:=b9.mono fun _ _ z=>z.same Jc9;nofun;have g2:=U.l12;have c1:=S2 md _ (LDV.notin hX hm (fun _ _ z=>by cases z)) hm;have Y:=S2 ll _ (LDV.notin hX hl (fun _ _ z=>by cases z)) hl;have T2:SameT H H2:=fun c u t h=>S2 c u (LDV.notin hX h (fun _ _ z=>by rw [z] at t; simp [isTF] at t)) h;have d0:BG (·.1) (NFV K H2) ms I:=bm.mono fun _ _ z=>z.sameT T2;have lk:=b2.length;have lm:=bm.length;have lN:ms.length=N.length:=by rw [<- U.nm,length_map]
 have sz:(1000:Nat)<=sizeLine:=by decide
 have f8:=hX.length;have g0:=x2.length;refine ⟨g,kv,rfl,e2,md,I,rfl,c1,?_⟩;nofun;by_cases c:d.length<N.length
 ·rw [if_pos (by simpa using (by ac_nf:kv.length<I.length))];nofun;refine ⟨_,fun σ' C h=>h,?_⟩;nofun;refine ⟨md,ll,g,I,ms,xs,o,kv,d,rfl,c1,d0,Y,x2,e2,b2,by ac_nf,by ac_nf,st.lids U,by rw [U.nm]; exact U.nd,fun sl ys H3 S3 e3 hY=>?_⟩;nofun;have x:=st.stops U;refine ⟨sl,ys,_,rfl,SqL.of e3,hY,st.some U c,fun s hs=>⟨(x s hs).1.s1,(x s hs).1.s2.mono ⋯,(x s hs).1.b1,(x s hs).1.g1⟩,fun v L hL b7 hv=>?_⟩;nofun;refine ⟨sl,v,ys,_,L,N,rfl,SqL.of e3,hY,hv,by ac_nf,fun s hs n hn=>((x s hs).2 n hn).1,fun l J H4 S4 e4 c3 f1=>?_⟩;obtain ⟨e0,d4,f4,D,d1⟩:=st.first U c hL b7 c3 f1;have O:=S3.trans S4;have x4:All2 (LDV K Ad H4) o xs:=x2.mono fun _ _ z=>z.same O;have a0:=O _ _ e2;have f2:l≠g:=fun z=>by rw [z,a0] at e4; cases e4
  have f3:=LDV.notin x4 e4 (fun _ _ z=>by cases z);have a3:=LDV.notin x4 a0 (fun _ _ z=>by cases z);have b0:ll≠g:=fun z=>by rw [z,e2] at Y; cases Y
  have a2:=LDV.notin x2 Y (fun _ _ z=>by cases z);have c8:=hv.same S4;nofun;refine ⟨l,rfl,ForA.byLN (xs:=J.map V.str) (SqL.of e4) (fun i σ C=>i<=(J.map V.str).length/\∃ (v5 v6:Option V) (kv':List (Key × V)) (lds':List LidD),σ=[some (.ref md),some (.ref ll),some (.ref g),some (.ref sl),some v,v5,v6]/\(∀ a u,V.ref a∉xs->a≠g->H4 a=some u->C a=some u)/\C g=some (.dK kv')/\BG (·.1) (NFV K C) (d++(J.take i).map fun n=>(n,L)) kv'/\All2 (LDV K Ad (cut g C)) lds' xs/\RMd b N w M gs L D (d.length+1) (d++(J.take i).map fun n=>(n,L)) lds'/\lds'.map (·.nm)=G.map (·.nm)) ⟨Nat.zero_le _,v5,v6,kv,o,rfl,fun _ _ _ _ h=>h,a0,by rw [take_zero,map_nil,append_nil]; exact b2.mono fun _ _ z=>z.sameT fun c u _ h=>O _ _ h,b9.mono (fun _ _ z=>z.same O.cut),by rw [take_zero,map_nil,append_nil]; exact d1,c4⟩ (fun i σ C q=>by obtain ⟨_,_,_,_,_,_,q,_⟩:=q; exact SqL.of (q _ _ f3 f2 e4)) ?_ ?_⟩
  ·rintro i y σ H5 hy ⟨hi,d7,b3,a7,B,rfl,S5,e5,b5,R,p,W⟩ N0 d8;have li:=(List.getElem?_eq_some_iff.mp hy).1;rw [length_map] at li;rw [List.getElem?_map] at hy;obtain ⟨n,hn,rfl⟩:=Option.map_eq_some_iff.mp hy;have c7:=List.mem_of_getElem? hn;have hN:=d4 n c7;have c6:J.take (i+1)=J.take i++[n]:=by rw [take_succ,hn]; rfl
   have a4:(d++(J.take (i+1)).map fun n=>(n,L))=(d++(J.take i).map fun n=>(n,L))++[(n,L)]:=by rw [c6,map_append, <- List.append_assoc]; rfl
   have hS:n∉(d++(J.take i).map fun n=>(n,L)).map (·.1):=by
    rw [Jbg];intro z;rcases mem_append.mp z with z | z
    ·exact hN.2 z
    ·exact JgN c3 hn z
   have T5:SameT H4 H5:=fun c u t h=>S5 c u (LDV.notin x4 h (fun _ _ z=>by rw [z] at t; simp [isTF] at t)) (fun z=>by rw [z,a0] at h; cases h; simp [isTF] at t) h;have f7:=b5.length;have l5:(d++(J.take i).map fun n=>(n,L)).length<=N.length:=by
    have:=sub_len _ _ p.inv.nd p.inv.sub;simpa using this
   have f6:=R.length;nofun;refine ⟨g,_,rfl,DPut.k (k:=Sum.inr n) e5 ∅,?_⟩;generalize u6:upd H5 g _=Z;nofun;have e6:=putE u6;have T6:SameT H5 Z:=SameT.put u6 e5 rfl;have o6:∀ a u,a≠g->H5 a=some u->Z a=some u:=fun a u ne h=>by rw [<- u6,Jag ne]; exact h
   have f0:cut g Z=cut g H5:=by rw [<- u6]; exact Jge
   rw [<- f0] at R;have x6:All2 (LDV K Ad Z) B xs:=R.mono fun _ _ z=>z.same Jc9;have c0:=(c8.sameT T5).sameT T6;have b6:BG (·.1) (NFV K Z) (d++(J.take (i+1)).map fun n=>(n,L)) (putK a7 (Sum.inr n) v):=by
    rw [a4];exact (b5.mono (P':=NFV K Z) fun _ _ z=>z.sameT T6).new (a:=(n,L)) hS c0
   have a9:Z ll=some (.lst xs):=o6 _ _ b0 (S5 _ _ a2 b0 (O _ _ Y));have X:=p.rest U;have d2:=p.step U hN.1 hS;nofun;refine ⟨ll,rfl,ForA.byLN (xs:=xs) (SqL.of a9) (fun j σ C=>j<=xs.length/\∃ (v6:Option V),σ=[some (.ref md),some (.ref ll),some (.ref g),some (.ref sl),some v,some (.str n),v6]/\(∀ a u,V.ref a∉xs->Z a=some u->C a=some u)/\All2 (LDV K Ad (cut g C)) ((B.take j).map (fun e=>e.settle n L)++B.drop j) xs) ⟨Nat.zero_le _,b3,rfl,fun _ _ _ h=>h,by rw [take_zero,map_nil,List.drop_zero,nil_append]; exact R⟩ (fun j σ C q=>by obtain ⟨_,_,_,q,_⟩:=q; exact SqL.of (q _ _ a2 a9)) ?_ ?_⟩
   ·rintro j z σ H7 hz ⟨hj,c2,rfl,S7,x7⟩ N1 c9;have lj:=(List.getElem?_eq_some_iff.mp hz).1;obtain ⟨e,a6,a5⟩:=x7.at_ hz;rw [Jkm] at a6;have b4:=List.mem_of_getElem? a6;have b8:=a5.same Jc9;obtain ⟨q,dx,vr,vt,wd,rfl,hq,_⟩:=id b8;have T7:SameT Z H7:=fun c u t h=>S7 c u (LDV.notin x6 h (fun _ _ z=>by rw [z] at t; simp [isTF] at t)) h;have e7:=S7 _ _ a3 e6;have d3:V.ref q∈xs:=List.mem_of_getElem? hz;nofun;refine ⟨q,_,dx,_,rfl,hq,rfl,rfl,?_⟩;refine ⟨q,n,v,e,L,rfl,b8,c0.sameT T7,(X e b4).1,p.fL,(X e b4).2,fun H8 S8 _ d5=>?_⟩;nofun;have a8:g≠q:=fun z=>by rw [<- z,e7] at hq; cases hq
    have e8:=S8 _ _ a8 e7;refine c9 _ _ ⟨lj,_,rfl,fun a u hx h=>S8 a u (fun z=>hx (z ▸ d3)) (S7 a u hx h),?_⟩;rw [<- JgX a6];refine x7.put hz (d5 g _ e7 a5) fun i' a y ne ha hy a1=>?_;have qc:cut g H7 q=_:=(JbH a8.symm).trans hq;refine a1.keep (q:=q) (fun b u nb h=>?_) qc (fun z=>ne ?_)
    ·have c5:b≠g:=fun z=>by rw [z] at h; unfold cut at h; rw [if_pos rfl] at h; cases h
     rw [JbH c5] at h ⊢;exact S8 b u nb h
    ·rw [z, <- hz] at hy;exact ((List.getElem?_inj lj d6).mp hy.symm).symm
   ·rintro σ H7 ⟨hj,c2,rfl,S7,x7⟩;rw [take_of_length_le ∅,List.drop_eq_nil_of_le ∅,append_nil] at x7;have T7:SameT Z H7:=fun c u t h=>S7 c u (LDV.notin x6 h (fun _ _ z=>by rw [z] at t; simp [isTF] at t)) h;refine d8 _ _ ⟨by rw [length_map]; ac_nf,_,_,_,_,rfl,fun a u hx a1 h=>S7 a u hx (o6 a u a1 (S5 a u hx a1 h)),S7 _ _ a3 e6,b6.mono fun _ _ z=>z.sameT T7,x7,by rw [a4]; exact d2,JhE.trans W⟩
  ·rintro σ H5 ⟨hi,d7,b3,a7,B,rfl,S5,e5,b5,R,p,W⟩;rw [length_map,take_of_length_le (Nat.le_refl _)] at b5 p;have ln:1<=J.length:=by cases J with | nil=>exact absurd rfl e0 | cons a r=>simp
   refine ⟨_,?_,_,_,_,_,a7,_,B,rfl,fun a u hx h=>S5 a u hx (fun z=>by rw [z,S] at h; cases h) (O _ _ (S2 a u hx h)),e5,b5,R,p.next U f4 st.lo ∅,W,rfl⟩;rw [length_append,length_map];ac_nf
 ·rw [if_neg (by simpa using (by ac_nf:¬ kv.length<I.length))];nofun;exact k g kv d o H2 S2 S e2 b2 x2 st ∅ c4
abbrev Ba2:Stmt:=top 39
theorem Jeo:Jan ["lids","name","level","full"] ["lids","name","level"] (Jae Ba2):=by bv_decide
def Jc0 (K:W.Frag) (Ad:Adr):Sp:=fun vs H Q E=>∃ (ll:Addr) (n:Str) (lv:V) (xs:List V) (lds:List LidD) (L:Fr2) (e:LidD),vs=[.ref ll, .str n,lv]/\H ll=some (.lst xs)/\All2 (LDV K Ad H) lds xs/\lds.length<=7/\FrV K H lv L.1 L.2/\lds.find? (fun l=>(wtOf l.ws n).isSome&&(decide (l.rest=(0,1))&&decide (l.last=L)))=some e/\∀ p H',Same H H'->H' p=some (.tup [.str (Str.ofString "gap"), .str e.nm])->Q (.ref p) H'
theorem Jgo (F:FunD K "gap_stop" "gap_stop" Ba2 dV f fd) (T:Txt K mg Ad) (m_has_stopped:MCal P w K mg base 1 "has_stopped" (IsLid Ad) ["self","part","level"] (Jbq K Ad)):FnOk P w K mg base (CX1 P w) 2 f fd ["lids","name","level"] (Jc0 K Ad):=by
 refine F.okn Jeo (by subst_eqs) (fun a2 A r s H Z Q E hr h=>?_)
 obtain ⟨u,n,t,xs,a,L,e,rfl,h⟩:=h;refine ⟨_,(Jab (JcX (j:=3) (own:=["lid"]) (cs:=[(1,"name"),(2,"level")]) Jeo.nd rfl (Or.inl rfl) rfl (pi_U (pv 0)) (fun _ _ _ _=>(Jar (i:=0) (show [("lid" : Str),("name" : Str),("level" : Str)].Nodup by decide) rfl (Or.inl rfl))) (fun _ _ _ _=>(Ja2 (m_has_stopped.m hr ⋯ passF (pv 0) (Jaa (pv 1) (Jaa (pv 2) Jad))))) (fun _ _ _ _=>(JkK (K:=K) rfl (pv 0) rfl)) (JdF rfl) ⋯ rfl ⋯ (hcs2 rfl rfl rfl rfl rfl rfl))
   (Jah (Jaq (JaJ (Jaa JbQ (Jaa (pe_ix ix_U (pv 3) Jac (fun _ _=>rfl)) Jad)))))),?_⟩
 obtain ⟨C,I,l7,X,S,k⟩:=h;have lX:=I.length;have sz:(1000:Nat)<=sizeLine:=by decide
 show tSeq _ _ _ [some (.ref u),some (.str n),some t,none] H;and_intros;obtain ⟨P,O⟩:∃ P:LidD->Bool,P=fun l=>(wtOf l.ws n).isSome&&(decide (l.rest=(0,1))&&decide (l.last=L)):=⟨_,rfl⟩;rw [<- O] at S;refine ⟨u,rfl, .inl ⟨⟨xs,SqL.of C⟩,JbO.list (xs:=xs) (fun i g J=>J=H/\g=((a.take i).filter P).map fun e=>V.str e.nm) ⟨rfl,by rw [take_zero]; rfl⟩ (fun i g J hi z=>⟨by rw [z.1]; exact SqL.of C,by
  rw [z.2,length_map];have Y:=length_filter_le P (a.take i);rw [length_take] at Y;ac_nf⟩) ?_ ?_⟩⟩
 ·rintro i y g R hy ⟨c,b⟩;subst c;subst b;obtain ⟨l,v,G⟩:=I.at_ hy;obtain ⟨q,N,vr,vt,wd,rfl,U,_⟩:=id G;have B:=T.c_Lid Ad.Lid rfl;have d:a.take (i+1)=a.take i++[l]:=by rw [take_succ,v]; rfl
  simpa only [length_singleton,length_cons,length_nil,List.replicate,JaD,map_cons,map_nil,Option.join_some];refine ⟨q,_,N,_,rfl,U,rfl,rfl,?_⟩;refine ⟨q,n,t,l,L,rfl,G,X,?_⟩;and_intros;rw [show ((wtOf l.ws n).isSome&&(decide (l.rest=(0,1))&&decide (l.last=L)))=P l by rw [O]];cases cp:P l with
  | false=>
   and_intros;rw [d,filter_append,show [l].filter P=[] from List.filter_eq_nil_iff.mpr fun x o=>by rw [mem_singleton.mp o,cp]; decide,append_nil]
  | true=>
   and_intros;refine ⟨q,_,N,_, .str l.nm,rfl,U,B.cls,B.n1,rfl,?_⟩;and_intros;rw [d,filter_append,show [l].filter P=[l] from List.filter_eq_self.mpr fun x o=>by rw [mem_singleton.mp o,cp],map_append];rfl
 ·rintro g R ⟨c,b⟩;subst c;rw [take_of_length_le ∅] at b;have h0:g[0]?=some (.str e.nm):=by
   have h1:(a.filter P).head?=some e:=by rw [List.head?_filter]; exact S
   rw [b,List.getElem?_map, <- List.head?_eq_getElem?,h1];rfl
  rename_i fl D M R H3 S3 W;and_intros;and_intros;refine ixL (i:=0) (SqL.of W) h0 ?_;and_intros;refine ⟨len2,?_⟩;rename_i p a0 a1 H3 H4 S4 e4;and_intros;exact k p H4 (S3.trans S4) e4
abbrev Bct:Stmt:=top 40
theorem JbC:Jan ["thing","scale","lids","mosts","levels","told","part","name","level","slack"] ["thing"] (Jae Bct):=by bv_decide
def Jfq (K:W.Frag) (Ad:Adr):Sp:=fun vs H Q E=>∃ (x:Addr) (ls:List PD) (es:List (GD × List Str)) (pl:Str->Fr2),vs=[.ref x]/\TK K Ad H x ls (es.map (·.1))/\SHC ls es pl/\(∀ e∈es,0<=vl (roomF pl e.1))/\∀ (tl:Addr) (zs:List V) (rs:List ShD) (H':Hp),Same H H'->H tl=none->H' tl=some (.lst zs)->All2 (ShV K H') rs zs->ShR ls es pl rs->Q (.ref tl) H'
theorem Jjg (F:FunD K "share" "share" Bct dV f fd) (T:Txt K mg Ad) (Bcu:Cal P w K mg base 4 "scale_of" ["thing"] [] (Jc4 K Ad)) (BcR:Cal P w K mg base 7 "lids_of" ["thing","scale"] [] (JdC K Ad)) (Bbz:Cal P w K mg base 4 "most_levels" ["thing","scale"] [] (Jcb K Ad)) (Bbi:Cal P w K mg base 7 "risen_levels" ["mosts","lids"] [] (JbY K Ad)) (BaG:MCal P w K mg base 2 "parts" (Ja8 Ad) ["self"] (JaZ K Ad)) (m_lowered:MCal P w K mg base 2 "lowered" (Jdq Ad) ["self","number"] (JbG K Ad)) (Bbf:Cal P w K mg base 2 "times" ["one","other"] [] (Jdp K)) (Bcv:Cal P w K mg base 2 "gap_stop" ["lids","name","level"] [] (Jc0 K Ad)):FnOk P w K mg base (CX1 P w) 9 f fd ["thing"] (Jfq K Ad):=by
 refine F.okx JbC (fun vs H Q E h=>?_) (fun i5 A h4 s H vs Q E Z h=>?_)
 ·obtain ⟨x,X,es,pl,rfl,_⟩:=h; rfl
 obtain ⟨x,X,es,pl,rfl,h⟩:=h;have hu:=Z.units;refine ⟨_,(Jab (Jaj (i:=1) JbC.nd rfl (Or.inl rfl) (Bcu.ev Z ⋯ rfl pass1 (Jaa (pv 0) Jad) (he:=by exact Jaf rfl)))
   (Jab (Jaj (i:=2) JbC.nd rfl (Or.inl rfl) (BcR.ev Z ⋯ rfl pass1 (Jaa (pv 0) (Jaa (pv 1) Jad)) (he:=by exact Jaf rfl)))
   (Jab (Jaj (i:=3) JbC.nd rfl (Or.inl rfl) (Bbz.ev Z ⋯ rfl pass1 (Jaa (pv 0) (Jaa (pv 1) Jad)) (he:=by exact Jaf rfl)))
   (Jab (Jaj (i:=4) JbC.nd rfl (Or.inl rfl) (Bbi.ev Z ⋯ rfl pass1 (Jaa (pv 3) (Jaa (pv 2) Jad)) (he:=by exact Jaf rfl)))
   (Jab (Jaj (i:=5) JbC.nd rfl (Or.inl rfl) (Ja5 Jad))
   (Jab (Ja1 PassesOwn.leaving rfl (pi_U (BaG.m0 Z ⋯ pass1 (pv 0))) (Jar (i:=6) JbC.nd rfl (Or.inl rfl))
   (Jab (Jaj (i:=7) JbC.nd rfl (Or.inl rfl) (pe_ix ix_U (pv 6) Jac (fun _ _=>rfl)))
   (Jab (Jaj (i:=8) JbC.nd rfl (Or.inl rfl) (Ja0 (hu1 hu) (pv 4) (pv 7) (fun _ _=>rfl)))
   (Jah (ps_if (Jax (JbP hu) (pv 8) (Ja0 (hu1 hu) (pv 3) (pv 7) (fun _ _=>rfl)) (Jaz _))
   (Jah (Ja9 (pe_bm PySem.F.plainAttrs_list PySem.F.slot_list_append PySem.F.type_list_append Ja7 (pv 5) (Jaa (JaJ (Jaa (pv 7) (Jaa (pe_ix ix_U (pv 6) Jac (fun _ _=>rfl)) (Jaa (JaJ (Jaa JbQ Jad)) Jad)))) Jad) (hs:=by exact Jaf rfl))))
   (Jab (Jaj (i:=9) JbC.nd rfl (Or.inl rfl) (m_lowered.m Z ⋯ pass1 (pv 1) (Jaa (Bbf.ev Z ⋯ rfl pass1 (Jaa (pv 8) (Jaa (JaJ (Jaa (pe_ix ix_U (pv 6) Jac (fun _ _=>rfl)) (Jaa Jac Jad))) Jad)) (he:=by exact Jaf rfl)) Jad)))
   (Jah (Ja9 (pe_bm PySem.F.plainAttrs_list PySem.F.slot_list_append PySem.F.type_list_append Ja7 (pv 5) (Jaa (JaJ (Jaa (pv 7) (Jaa (pv 9) (Jaa (Bcv.ev Z ⋯ rfl pass1 (Jaa (pv 2) (Jaa (pv 7) (Jaa (pv 8) Jad))) (he:=by exact Jaf rfl)) Jad)))) Jad) (hs:=by exact Jaf rfl))))))))))
   (Jah (Jaq (pv 5))))))))),?_⟩
 clear hu;obtain ⟨ht,d,d5,k⟩:=h;obtain ⟨dx,d1,d2,d3,k1,k2,k3,hx,_⟩:=id ht;have sl:(1000:Nat)<=sizeLine:=by decide
 have i8:=d.l12;have l7:=d.l7;show tSeq _ _ _ [some (.ref x),none,none,none,none,none,none,none,none,none] H;nofun;refine ⟨x,X,_,rfl,ht,d.l12,by rw [length_map]; exact d.l7,by rw [length_map]; exact d.l14,fun p N=>⟨(d.pb p N).1,(d.pb p N).2.b1,(d.pb p N).2.s2.mono ⋯⟩,fun g hg=>by obtain ⟨e,he,rfl⟩:=mem_map.mp hg; exact d.gb e he,fun sc b fs H1 S1 a0=>?_⟩;obtain ⟨e7,fl,d8,_,d6,sb,_⟩:=id a0;have b1:=d6.b1;nofun;refine ⟨x,sc,X,es,pl,b,fs,rfl,ht.same S1,a0,d,d5,fun ll xs b3 H2 S2 i3 e2 hX f9 g6 c7 b8=>?_⟩;nofun;have f3:=S1.trans S2;refine ⟨x,sc,X,_,b,fs,rfl,ht.same f3,a0.same S2,d.l12,d.nd,fun p N=>⟨(d.pb p N).2,(d.pok p N).w,d.wt p N⟩,fun md c1 ms H3 S3 i4 e3 bm g0 h5=>?_⟩;obtain ⟨q0,rc,g5⟩:=Jjz b1 sb d d5 c7 b8 g0 h5;have hw:=JjT c7 b8;nofun;have x3:All2 (LDV K Ad H3) b3 xs:=hX.mono fun _ _ z=>z.same S3;refine ⟨md,ll,c1,ms,xs,b3,b,q0,_,_,_,_,rfl,e3,bm,S3 _ _ e2,x3,f9,by ac_nf,rc,g5,fun ld kv g4 U H4 S4 i0 e4 b4 x4 W L h7=>?_⟩;have b9:Same H1 H4:=fun c u h=>S4 c u (fun z=>by obtain ⟨q,eq,hq⟩:=g6 _ z; have eq:c=q:=(by injection eq); rw [<- eq,h] at hq; cases hq) (S3 _ _ (S2 _ _ h));have a1:=S1.trans b9;have T4:SameT H3 H4:=fun c u t h=>S4 c u (LDV.notin x3 h (fun _ _ z=>by rw [z] at t; simp [isTF] at t)) h;have f5:=S4 _ _ (LDV.notin x3 e3 (fun _ _ z=>by cases z)) e3;have g9:=S4 _ _ (LDV.notin x3 (S3 _ _ e2) (fun _ _ z=>by cases z)) (S3 _ _ e2);have f7:BG (·.1) (NFV K H4) ms c1:=bm.mono fun _ _ z=>z.sameT T4;have c6:U.map (·.nm)=es.map (·.1.nm):=by
  rw [h7];refine List.ext_getElem? fun i=>?_;rw [List.getElem?_map,List.getElem?_map];by_cases c:i<es.length
  ·rw [List.getElem?_eq_getElem c,List.getElem?_eq_getElem (by ac_nf:i<b3.length)];exact congrArg some (b8 i _ _ (List.getElem?_eq_getElem c) (List.getElem?_eq_getElem ∅)).nm
  ·rw [List.getElem?_eq_none ∅,List.getElem?_eq_none ∅];rfl
 have i7:U.length=es.length:=by simpa using congrArg List.length c6
 nofun;refine ⟨Nat.zero_le _,?_⟩;rename_i Y a4 i2 H4 H5 S5 e5;nofun;have a7:H Y=none:=Jda a1 a4;refine ⟨x,_,dx,_,rfl,S5 _ _ (a1 _ _ hx),rfl,rfl,x,X,_,rfl,ht.same (a1.trans S5),by ac_nf,fun l ys H6 S6 d4 e6 hY=>?_⟩;have lY:=hY.length;have e1:l≠Y:=fun z=>by rw [z,e5] at d4; cases d4
 have c9:=Same.trans S5 S6;nofun;refine ⟨l,rfl,ForA.byLN (xs:=ys) (SqL.of e6) (fun i σ H'=>i<=ys.length/\∃ (v6 v7 v8 v9:Option V) (zs:List V) (W:List ShD),σ=[some (.ref x),some (.ref sc),some (.ref ll),some (.ref md),some (.ref ld),some (.ref Y),v6,v7,v8,v9]/\(∀ c u,c≠Y->H6 c=some u->H' c=some u)/\SameT H6 H'/\H' Y=some (.lst zs)/\All2 (ShV K H') W zs/\W.length=i/\∀ (j:Nat) p r,X[j]?=some p->W[j]?=some r->ShRow X es pl (lvf b g4) p r) ⟨Nat.zero_le _,none,none,none,none,[],[],rfl,fun _ _ _ h=>h,SameT.refl _,S6 _ _ e5,rfl,rfl,fun j p r _ h=>by simp at h⟩ (fun i σ H' q=>by obtain ⟨_,_,_,_,_,_,_,_,q,_⟩:=q; exact SqL.of (q _ _ e1 e6)) ?_ ?_⟩
 ·rintro i y σ H7 hy ⟨hi,v6,v7,v8,v9,zs,a3,rfl,ho,hT,ez,hZ,S,I⟩ N0 d9;have li:=(List.getElem?_eq_some_iff.mp hy).1;obtain ⟨p,N,b_,vz,vm,rfl,hb,_,hm⟩:=hY.at_ hy;have a2:=List.mem_of_getElem? N;have a9:=hb.sameT hT;have B:Same H4 H7:=fun c u h=>ho c u (Jai h a4) (c9 _ _ h);have c3:p.nm∈X.map (·.nm):=mem_map.mpr ⟨p,a2,rfl⟩;obtain ⟨a,O,ha,J,c5,g2⟩:=b4.some (z:=p.nm) (W.all rc L _ c3);have J:a.1=p.nm:=J;obtain ⟨m,b0,h8,b2,b7,f8⟩:=f7.some (z:=p.nm) (by rw [rc.nm]; exact c3);have b2:m.1=p.nm:=b2;have fa:=sh_lv rc W ha;have ml:=rc.ml m h8;have c8:vl m.2=moF X a.1*(b:Rat):=by rw [ml.1,b2,J]
  have g7:DGet H7 ld (.str p.nm) (some O):=by rw [<- c5]; exact DGet.k (k:=Sum.inr p.nm) (B _ _ e4)
  have h3:DGet H7 md (.str p.nm) (some b0):=by rw [<- b7]; exact DGet.k (k:=Sum.inr p.nm) (B _ _ f5)
  have a8:FrV K H7 O a.2.1 a.2.2:=FrV.same B g2;have h0:FrV K H7 b0 m.2.1 m.2.2:=FrV.same B f8;have lZ:=hZ.length;nofun;refine ixT (i:=0) a9 rfl ?_;nofun;refine ⟨ld,O,rfl,g7,?_⟩;nofun;refine ⟨md,b0,rfl,h3,?_⟩;refine eqF a8 h0 ?_;have ee:(decide (a.2.1=m.2.1)&&decide (a.2.2=m.2.2))=decide (a.2=m.2):=by
   rw [<- Bool.decide_and];exact decide_eq_decide.mpr Prod.ext_iff.symm
  rw [ee];nofun;by_cases c:a.2=m.2
  ·rw [if_pos (by simpa using c)];nofun;refine ⟨.inl ⟨rfl,_,SqL.of ez⟩,?_⟩;refine ixT (i:=4) a9 rfl ?_;nofun;refine ⟨by show 1<=sizeLine; ac_nf,?_⟩;rename_i t j0 i9 H7 H8 S8 e8;nofun;nofun;refine ⟨by show 3<=sizeLine; ac_nf,?_⟩;rename_i pr d0 c0 H8 H9 S9 e9;nofun;have o:=Same.trans S8 S9;have R:=o _ _ ez;nofun;refine ⟨Y,zs,_,rfl,rfl,R,by ac_nf,?_⟩;generalize C:upd H9 Y _=G;nofun;have b5:=putE C;have n:SameT H9 G:=SameT.put C R rfl;have T7:=o.t.trans n;refine d9 _ _ ⟨li,_,_,_,_,_,a3++[(⟨p.nm,p.mo,none⟩:ShD)],rfl,fun c u M h=>by rw [<- C,Jag M]; exact o _ _ (ho c u M h),hT.trans T7,b5,(hZ.mono (P':=ShV K G) fun _ _ z=>z.sameT T7).append (.one (show ShV K G (⟨p.nm,p.mo,none⟩:ShD) (.ref pr) from ⟨pr,_,t,rfl,SqT.of (n _ _ rfl e9),((hm.sameT hT).same o).sameT n,SqT.of (n _ _ rfl (S9 _ _ e8))⟩)),by rw [length_append,S]; rfl,fun j p' r' h1 h2=>?_⟩;rcases Jbo h2 with h2 | ⟨q1,q2⟩
   ·exact I j p' r' h1 h2
   ·rw [q1,S,N] at h1;cases h1;rw [q2];exact JkX d rc W a2 ha J (by rw [c]; exact c8)
  ·rw [if_neg (by simpa using c)];nofun;have d7:vl a.2≠moF X a.1*(b:Rat):=fun z=>c (fa.lo.inj ml.2.1.lo (z.trans c8.symm));obtain ⟨l0,e0,h6,f0,f6⟩:=JkV hw rc W L c6 ha d7;have wp:=d.wt p a2;refine ⟨sc,_,e7,_,rfl,B _ _ (b9 _ _ d8),rfl,rfl,?_⟩;refine ixT (i:=5) a9 rfl ?_;nofun;refine ⟨len2,?_⟩;rename_i w1 i1 h9 H7 H8 S8 e8;nofun;refine ⟨O, .ref w1,_,_,p.wt,1,rfl,a8.same S8,FrV.of e8,fa.s1.mono ⋯,fa.s2.mono ⋯,wp.mono ⋯, .lit ⋯ ⋯,fa.b1,by decide,fa.g1,by unfold Mth.g; simp,fun p2 H9 S9 e9=>?_⟩;have e9:H9 p2=some (.tup [.int (mulF a.2 (p.wt,1)).1, .int (mulF a.2 (p.wt,1)).2]):=e9;have a5:=Same.trans S8 S9;have j1:=Je4 (a:=a.2) (c:=(p.wt,1)) fa.b1 (Int.le_refl 1);have g3:FB 3000 1000 (mulF a.2 (p.wt,1)):=by
    refine FB.low (Jb2 fa.b1 (Int.le_refl 1)) ((fa.s1.mul wp).mono ⋯) ?_;show Mth.Sz 1000 (a.2.2*1);rw [Int.mul_one];exact fa.s2.mono ⋯
   nofun;refine ⟨sc, .ref p2,_,b,fs,rfl,a0.same (b9.trans (B.trans a5)),FrV.of e9,g3,fun p3 tt i6 f2 f4 g8=>?_⟩;have v:=a5.trans f2;nofun;refine ⟨.inl ⟨rfl,_,SqL.of (v _ _ ez)⟩,?_⟩;nofun;refine ⟨ll,p.nm,O,xs,U,a.2,l0,rfl,v _ _ (B _ _ g9),x4.mono (fun _ _ z=>z.same (B.trans v)),by ac_nf,a8.same v,by rw [<- J]; exact h6,fun t f1 c2 c4=>?_⟩;nofun;refine ⟨by show 3<=sizeLine; ac_nf,?_⟩;rename_i pr d0 c0 f1 a6 b6 e9;nofun;have o:=v.trans (c2.trans b6);have R:=o _ _ ez;nofun;refine ⟨Y,zs,_,rfl,rfl,R,by ac_nf,?_⟩;generalize C:upd a6 Y _=G;nofun;have b5:=putE C;have n:SameT a6 G:=SameT.put C R rfl;have T7:=o.t.trans n;refine d9 _ _ ⟨li,_,_,_,_,_,a3++[(⟨p.nm,tt,some e0.1.nm⟩:ShD)],rfl,fun c u M h=>by rw [<- C,Jag M]; exact o _ _ (ho c u M h),hT.trans T7,b5,(hZ.mono (P':=ShV K G) fun _ _ z=>z.sameT T7).append (.one (show ShV K G (⟨p.nm,tt,some e0.1.nm⟩:ShD) (.ref pr) from ⟨pr,_,t,rfl,SqT.of (n _ _ rfl e9),FrV.of (n _ _ rfl (b6 _ _ (c2 _ _ f4))),by rw [f6] at c4; exact SqT.of (n _ _ rfl (b6 _ _ c4))⟩)),by rw [length_append,S]; rfl,fun j p' r' h1 h2=>?_⟩;rcases Jbo h2 with h2 | ⟨q1,q2⟩
   ·exact I j p' r' h1 h2
   ·rw [q1,S,N] at h1;cases h1;rw [q2];exact JkW d rc W a2 ha J d7 g8 f0
 ·rintro σ H7 ⟨hi,v6,v7,v8,v9,zs,a3,rfl,ho,hT,ez,hZ,S,I⟩;nofun;obtain ⟨D,F⟩:=JiI hw rc W L;exact k Y zs a3 H7 (fun c u h=>ho c u (Jai h a7) (c9 _ _ (a1 _ _ h))) a7 ez hZ ⟨by have:=hZ.length; ac_nf,_,D,F,I⟩
abbrev Ba3:Stmt:=top 51
theorem Jcl:Jan ["_law_script","_law_k","_law_total","_law_j"] ["_law_script","_law_k"] (Jae Ba3):=by bv_decide
def Jbz (K:W.Frag):Sp:=fun vs H Q E=>∃ (a:Addr) (ns:List Int) (k:Int),vs=[.ref a, .int k]/\SqL K H a (ns.map V.int)/\ns.length<=63/\0<=k/\k<=1000/\∀ v:Int,Q (.int v) H
theorem Jgr (F:FunD K "_law_cell" "_law_cell" Ba3 dV f fd) (T:Txt K mg Ad)  : FnOk P w K mg base (CX1 P w) 1 f fd ["_law_script","_law_k"] (Jbz K):=by
 refine F.okn Jcl (by subst_eqs) (fun o A c s H l Q E r h=>?_)
 obtain ⟨a,e,k,rfl,h⟩:=h;refine ⟨_,(Jab (Jaj (i:=2) Jcl.nd rfl (Or.inl rfl) Jac)
   (Jab (Ja1 PassesOwn.never rfl (Jiv rfl T.Bcz (Jaa (pv 1) (Jaa (Jap (JhN rfl) rfl T.Bd7 Jk7 (Jaa (Jap JaP rfl T.Bbe Jbd (Jaa (pv 0) Jad)) (Jaa Jac Jad))) (Jaa Jac Jad)))) (Jar (i:=3) Jcl.nd rfl (Or.inl rfl))
   (Jah (Jaj (i:=2) Jcl.nd rfl (Or.inl rfl) (pe_op JaY (pv 2) (pe_op JaB (pe_ix ix_U (pv 0) (pv 3) (fun _ _=>rfl)) (pe_op JaY Jac (pv 3)))))))
   (Jah (Jaq (pv 2))))),?_⟩
 obtain ⟨g,p,m,u,q⟩:=h;obtain ⟨k,rfl⟩:=Int.eq_ofNat_of_zero_le m;show tSeq _ _ _ [some (.ref a),some (.int (k:Int)),none,none] H;nofun;refine ⟨_, .inl g,?_⟩;simpa only [length_map];refine ⟨_,_,_,rfl,⟨by ac_nf,by ac_nf,by split <;> ac_nf,by split <;> ac_nf,by decide,by decide⟩,?_⟩;refine ForQ.by (fun i σ b=>∃ (t:Int) (v:Option V),σ=[some (.ref a),some (.int (k:Int)),some (.int t),v]/\b=H) ⟨0,none,rfl,rfl⟩ ?_ ?_
 ·rintro i σ b d ⟨t,v,rfl,rfl⟩;have j:k+i*44<e.length:=by
   unfold rsz at d;split at d <;> split at d <;> ac_nf
  have n:(k:Int)+(i:Int)*44=((k+i*44:Nat):Int):=by ac_nf
  rw [n];nofun;refine ixL g (by rw [List.getElem?_map,List.getElem?_eq_getElem j]; rfl) ?_;nofun;exact ⟨JjN (.lit ∅ ∅),_,_,rfl,trivial⟩
 ·rintro σ b ⟨t,v,rfl,rfl⟩;nofun;exact q t
abbrev Bbx:Stmt:=top 52
theorem JbM:Jan ["_law_top","_law_bottom","_law_one","_law_other","_law_rest"] ["_law_top","_law_bottom"] (Jae Bbx):=by bv_decide
def JbN  : Sp:=fun vs H Q E=>∃ (t b:Int),vs=[.int t, .int b]/\1<=b/\Mth.Sz 8000 b/\∀ p H',Same H H'->H' p=some (.tup [.int (Mth.top t b), .int (Mth.bot t b)])->Q (.ref p) H'
theorem Jhu (F:FunD K "_law_low" "_law_low" Bbx dV f fd) (T:Txt K mg Ad)  : FnOk P w K mg base (CX1 P w) 1 f fd ["_law_top","_law_bottom"] (JbN):=by
 refine F.okn JbM (by subst_eqs) (fun D A j s H B Q E C h=>?_)
 obtain ⟨t,b,rfl,h⟩:=h;have l:=C.units;refine ⟨_,(Jab (Jaj (i:=2) JbM.nd rfl (Or.inl rfl) (pv 0))
   (Jab (Jaj (i:=3) JbM.nd rfl (Or.inl rfl) (pv 1))
   (Jab (JdS PassesOwn.never (Jax (Jce l) (pv 3) Jac (Jaz _))
   (Jab (Jaj (i:=4) JbM.nd rfl (Or.inl rfl) (pe_op JaG (pv 2) (pv 3)))
   (Jab (Jaj (i:=2) JbM.nd rfl (Or.inl rfl) (pv 3))
   (Jah (Jaj (i:=3) JbM.nd rfl (Or.inl rfl) (pv 4))))))
   (Jah (Jaq (JaJ (Jaa (pe_op Jat (pv 0) (Jap Jc8 rfl T.BdP JgO (Jaa (pv 2) Jad))) (Jaa (pe_op Jat (pv 1) (Jap Jc8 rfl T.BdP JgO (Jaa (pv 2) Jad))) Jad)))))))),?_⟩
 clear l;obtain ⟨J,G,k⟩:=h;show tSeq _ _ _ [some (.int t),some (.int b),none,none,none] H;nofun;refine ⟨fun m σ r=>∃ (x y:Int) (z:Option V),σ=[some (.int t),some (.int b),some (.int x),some (.int y),z]/\r=H/\0<=y/\Mth.g x y=Mth.g t b/\y.toNat=m,⟨_,_,_,none,rfl,rfl,by ac_nf,rfl,rfl⟩,?_⟩;rintro m σ r ⟨x,y,z,rfl,rfl,M,o,rfl⟩;nofun;by_cases c:y=0
 ·subst c;rw [if_neg (by simp)];nofun;have L:=Mth.g_pos (a:=t) (b:=b) ∅;have N:=Mth.g_le (a:=t) (b:=b) ∅;have u:DivOk (Mth.g t b):=divOk (n:=8000) ∅ (Nat.lt_of_le_of_lt (by ac_nf:(Mth.g t b).natAbs<=b.natAbs) G);have e:(if x<0 then -x else x)=Mth.g t b:=by
   rw [<- o,Mth.JjL];split <;> ac_nf
  nofun;rw [e];refine ⟨u,u,len2,?_⟩;refine Jd9 fun p I S v=>k p I S ?_;rw [v];unfold Mth.top Mth.bot Mth.by_;rw [if_neg ∅];nofun
 ·rw [if_pos (by simp [c])];nofun;have f:=Mth.fm (x:=x) (y:=y) ∅;refine ⟨_,fun _ _ q=>q,?_⟩;nofun;have d:Mth.g y (x.fmod y)=Mth.g t b:=by rw [Mth.JhZ ∅]; exact o
  refine ⟨c,?_⟩;nofun;first
   | exact ⟨(x.fmod y).toNat,by ac_nf,y,x.fmod y,_,rfl,f.1,d,rfl⟩
   | exact ⟨(x.fmod y).toNat,by ac_nf,y,x.fmod y,_,rfl,rfl,f.1,d,rfl⟩
abbrev Ba4:Stmt:=top 53
theorem JgH:Jan ["_law_one","_law_other","_law_sign"] ["_law_one","_law_other","_law_sign"] (Jae Ba4):=by bv_decide
def JbX (K:W.Frag):Sp:=fun vs H Q E=>∃ (x y:V) (g:Int) (a c:Fr2) (s:Bool),vs=[x,y, .int g]/\(g=if s then 1 else -1)/\FrV K H x a.1 a.2/\FrV K H y c.1 c.2/\FW 3000 3000 a/\FW 3000 3000 c/\∀ p H',Same H H'->H' p=some (.tup [.int (addF a (sgn s c)).1, .int (addF a (sgn s c)).2])->Q (.ref p) H'
theorem Jgv (F:FunD K "_law_plus" "_law_plus" Ba4 dV f fd) (T:Txt K mg Ad) (Bam:Cal P w K mg base 1 "_law_low" ["_law_top","_law_bottom"] [] (JbN)):FnOk P w K mg base (CX1 P w) 2 f fd ["_law_one","_law_other","_law_sign"] (JbX K):=by
 refine F.okn JgH (by subst_eqs) (fun r A m s H o Q E q h=>?_)
 obtain ⟨x,y,g,a,c,s,rfl,h⟩:=h;refine ⟨_,(Jah (Jaq (Bam.ev q ⋯ rfl passF (Jaa (pe_op JaY (pe_op JaB (pe_ix ix_U (pv 0) Jac (fun _ _=>rfl)) (pe_ix ix_U (pv 1) Jac (fun _ _=>rfl))) (pe_op JaB (pe_op JaB (pv 2) (pe_ix ix_U (pv 1) Jac (fun _ _=>rfl))) (pe_ix ix_U (pv 0) Jac (fun _ _=>rfl)))) (Jaa (pe_op JaB (pe_ix ix_U (pv 0) Jac (fun _ _=>rfl)) (pe_ix ix_U (pv 1) Jac (fun _ _=>rfl))) Jad)) (he:=by exact Jaf rfl)))),?_⟩;obtain ⟨n,l,j,i,b,k⟩:=h;have d:Mth.Sz 4 g:=by
  rw [n];cases s
  ·exact .lit ⋯ ⋯
  ·exact .lit ⋯ ⋯
 have t:(sgn s c).1=g*c.1:=by
  rw [n];cases s
  ·show -c.1 = -1*c.1;ac_nf
  ·show c.1=1*c.1;ac_nf
 have u:(sgn s c).2=c.2:=by cases s <;> rfl
 unfold addF at k;rw [t,u] at k;show tRet _ _ [some x,some y,some (.int g)] H;nofun;refine ixF0 l (ixF1 j ?_);nofun;refine ⟨mulOk i.s1 b.s2,ixF0 j ?_⟩;nofun;refine ⟨mulOk d b.s1,ixF1 l ?_⟩;nofun;refine ⟨mulOk (d.mul b.s1) i.s2,ixF1 l (ixF1 j ?_)⟩;nofun;refine ⟨mulOk i.s2 b.s2,_,_,rfl,?_,(i.s2.mul b.s2).mono ⋯,fun p v S e=>k p v S e⟩;have:=Int.mul_pos (show 0<a.2 by have:=i.b1; ac_nf) (show 0<c.2 by have:=b.b1; ac_nf);ac_nf
abbrev Ba5:Stmt:=top 54
theorem JgG:Jan ["_law_k","_law_sign","_law_style"] ["_law_k","_law_sign","_law_style"] (Jae Ba5):=by bv_decide
def Jcu  : Sp:=fun vs H Q E=>∃ (i:Int) (z:Str) (st:Int) (s m:Nat),vs=[.int i, .str z, .int st]/\z.cps=#[s]/\i=(m:Int)/\m<=16/\0<=st/\st<=3/\Q (.str (nmK s st.toNat m)) H
theorem Jgu (F:FunD K "_law_name" "_law_name" Ba5 dV f fd) (T:Txt K mg Ad)  : FnOk P w K mg base (CX1 P w) 1 f fd ["_law_k","_law_sign","_law_style"] (Jcu):=by
 refine F.okn JgG (by subst_eqs) (fun u A o s H r Q E D h=>?_)
 obtain ⟨i,z,a,s,m,rfl,h⟩:=h;refine ⟨_,(Jah (Jaq (pe_op JaY (pe_op JaY (pe_op JaB (pv 1) (pv 2)) (pe_ix ix_U JbQ (pv 0) (fun _ _=>rfl))) (pe_op JaB (pv 1) (pe_op Jio Jac (pv 2)))))),?_⟩;obtain ⟨v,rfl,y,t,L,q⟩:=h;have n:z.cps.toList=[s]:=by rw [v]
 have G:z.length=1:=by rw [JdQ,n]; rfl
 have C:(1000:Nat)<=sizeLine:=by decide
 show tRet _ _ [some (.int (m:Int)),some (.str z),some (.int a)] H;nofun;refine ⟨t,by ac_nf,by ac_nf,fun b l=>?_⟩;have c:b.cps.toList=List.replicate a.toNat s:=by
  rw [l,n];simp
 have k:(Str.ofString "abcdefghijklmnopqrstuvwxyz").cps.toList=List.range' 97 26:=by decide
 refine ⟨97+m,by decide,by rw [k]; exact JdU (by rw [List.getElem?_range' ∅,Nat.one_mul]),?_⟩;nofun;have B:b.length=a.toNat:=by rw [JdQ,c,List.length_replicate]
 have g:(b++(⟨#[97+m]⟩:Str)).cps.toList=List.replicate a.toNat s++[97+m]:=by rw [JgM,c]
 have x:(b++(⟨#[97+m]⟩:Str)).length=a.toNat+1:=by rw [JdQ,g]; simp
 have J:(⟨#[97+m]⟩:Str).length=1:=rfl;refine ⟨by ac_nf,?_⟩;nofun;refine ⟨by ac_nf,by ac_nf,by ac_nf,fun d j=>?_⟩;have e:d.cps.toList=List.replicate (3-a.toNat) s:=by
  rw [j,n];have : (3-a).toNat=3-a.toNat:=by ac_nf
  rw [this];simp
 have I:d.length=3-a.toNat:=by rw [JdQ,e,List.length_replicate]
 nofun;refine ⟨by ac_nf,?_⟩;have p:b++(⟨#[97+m]⟩:Str)++d=nmK s a.toNat m:=by
  have : (b++(⟨#[97+m]⟩:Str)++d).cps=(nmK s a.toNat m).cps:=by
   apply Array.toList_inj.mp;rw [JgM,g,e];unfold nmK;simp
  cases h1:b++(⟨#[97+m]⟩:Str)++d;cases h2:nmK s a.toNat m;rw [h1,h2] at this
  congr
 rw [p];exact q
abbrev BaW:Stmt:=top 55
theorem Jav:Jan ["_law_script","_law_style","_law_parts_here","_law_spots","_law_k","_law_cell_here","_law_mixed","_law_here","_law_there","_law_other","_law_size","_law_bottom","_law_most","_law_ends","_law_name_here","_law_weight","_law_place"] ["_law_script","_law_style"] (Jae BaW):=by bv_decide
def JcH (K:W.Frag):Sp:=fun vs H Q E=>∃ (a:Addr) (ns:List Int) (st:Nat),vs=[.ref a, .int (st:Int)]/\SqL K H a (ns.map V.int)/\ns.length<=63/\st<=3/\∀ q pl sd px kv ls xs H',Same H H'->H' q=some (.tup [.ref pl, .ref sd])->H' pl=some (.lst px)->All2 (PDV K H') ls px->H' sd=some (.dK kv)->BG (·.1.f) (SNV K pl sd H') xs kv->Grn st ls (xs.map (·.1))->Nms ls xs->Two (xs.map (·.1))->1<=ls.length->ls.length<=8->xs.length<=16->(∀ p∈ls,Mth.Sz 21 p.wt)->xs≠[]->Q (.ref q) H'
theorem JfR (F:FunD K "_law_parts" "_law_parts" BaW dV f fd) (T:Txt K mg Ad) (Bae:Cal P w K mg base 1 "_law_cell" ["_law_script","_law_k"] [] (Jbz K)) (BaO:Cal P w K mg base 1 "_law_name" ["_law_k","_law_sign","_law_style"] [] (Jcu)) (Bam:Cal P w K mg base 1 "_law_low" ["_law_top","_law_bottom"] [] (JbN)) (Bap:Cal P w K mg base 2 "_law_plus" ["_law_one","_law_other","_law_sign"] [] (JbX K)):FnOk P w K mg base (CX1 P w) 3 f fd ["_law_script","_law_style"] (JcH K):=by
 refine F.okn Jav (by subst_eqs) (fun t5 A m3 s H vs Q E hr h=>?_)
 obtain ⟨a,ns,g,rfl,h⟩:=h;have hu:=hr.units;refine ⟨_,(Jab (Jaj (i:=2) Jav.nd rfl (Or.inl rfl) (Ja5 Jad))
   (Jab (Jaj (i:=3) Jav.nd rfl (Or.inl rfl) JbA)
   (Jab (Ja1 PassesOwn.never rfl (Jdj rfl T.Bcz (Jaa (pe_op JaY Jac (pe_op JaG (Bae.ev hr ⋯ rfl passF (Jaa (pv 0) (Jaa Jac Jad)) (he:=by exact Jaf rfl)) Jac)) Jad)) (Jar (i:=4) Jav.nd rfl (Or.inl rfl))
   (Jab (Jaj (i:=5) Jav.nd rfl (Or.inl rfl) (Bae.ev hr ⋯ rfl passF (Jaa (pv 0) (Jaa (pe_op JaY Jac (pe_op JaB Jac (pv 4))) Jad)) (he:=by exact Jaf rfl)))
   (Jab (Jaj (i:=6) Jav.nd rfl (Or.inl rfl) (pe_op Jat (pe_op JaG (pe_op JaB (pv 5) Jac) Jac) Jac))
   (Jab (ps_if (PW.pt (pw_or (Jax (JbP hu) (Jap Jcc rfl T.Bbe Jbd (Jaa (pv 3) Jad)) Jac (Jaz _)) (JbJ (Jax (JbP hu) (pe_op JaG (pe_op Jat (pv 6) Jac) Jac) Jac (Jaz _)))))
   (Jab (Jaj (i:=7) Jav.nd rfl (Or.inl rfl) (BaO.ev hr ⋯ rfl passF (Jaa (Jap Jcc rfl T.Bbe Jbd (Jaa (pv 3) Jad)) (Jaa JbQ (Jaa (pv 1) Jad))) (he:=by exact Jaf rfl)))
   (Jah (JbR (hu1 hu) (pv 3) (pv 7) (JaJ (Jaa (pv 7) (Jaa (JaJ (Jaa Jac (Jaa Jac Jad))) (Jaa (Ja5 Jad) Jad)))) rfl)))
   (Jah (Jaj (i:=7) Jav.nd rfl (Or.inl rfl) (pe_ix ix_U (Jap (JeG rfl) rfl T.BdC JfA (Jaa (pv 3) Jad)) (pe_op JaG (pv 6) (Jap Jcc rfl T.Bbe Jbd (Jaa (pv 3) Jad))) (fun _ _=>rfl)))))
   (Jab (Jaj (i:=8) Jav.nd rfl (Or.inl rfl) (BaO.ev hr ⋯ rfl passF (Jaa (Jap Jcc rfl T.Bbe Jbd (Jaa (pv 3) Jad)) (Jaa JbQ (Jaa (pv 1) Jad))) (he:=by exact Jaf rfl)))
   (Jab (Jaj (i:=9) Jav.nd rfl (Or.inl rfl) (Bae.ev hr ⋯ rfl passF (Jaa (pv 0) (Jaa (pe_op JaY Jac (pe_op JaB Jac (pv 4))) Jad)) (he:=by exact Jaf rfl)))
   (Jab (Jaj (i:=10) Jav.nd rfl (Or.inl rfl) (Bam.ev hr ⋯ rfl passF (Jaa (pe_op JaG (pv 9) (pe_ix ix_U (Ja5 (Jaa Jac (Jaa (pe_op Jff Jac Jac) Jad))) (pe_op JaG (pe_op Jat (pv 6) Jac) Jac) (fun _ _=>rfl))) (Jaa (pe_op JaY Jac (pe_op JaG (pe_op Jat (pv 6) Jac) Jac)) Jad)) (he:=by exact Jaf rfl)))
   (Jab (Jaj (i:=11) Jav.nd rfl (Or.inl rfl) (pe_ix ix_U (Ja5 (JcB (JcB (JcB (JcB (JcB (JcB (JcB (JcB (JcB (JcB (JcB (JcB Jad))))))))))))) (pe_op JaG (pe_op Jat (pv 6) Jac) Jac) (fun _ _=>rfl)))
   (Jab (Jaj (i:=12) Jav.nd rfl (Or.inl rfl) (Bam.ev hr ⋯ rfl passF (Jaa (pe_op JaG (pv 9) (pe_ix ix_U (Ja5 (Jaa Jac (Jaa Jac (Jaa (pe_op Jff Jac Jac) Jad)))) (pe_op JaG (pe_op Jat (pv 6) Jac) Jac) (fun _ _=>rfl))) (Jaa (pv 11) Jad)) (he:=by exact Jaf rfl)))
   (Jab (Jaj (i:=13) Jav.nd rfl (Or.inl rfl) (pe_ix ix_U (Ja5 (Jaa (JaJ (Jaa (pv 7) (Jaa (pv 8) Jad))) (Jaa (JaJ (Jaa (pv 8) (Jaa (pv 7) Jad))) Jad))) (pe_op JaG (pe_op Jat (pv 6) Jac) Jac) (fun _ _=>rfl)))
   (Jab (Jaj (i:=14) Jav.nd rfl (Or.inl rfl) (BaO.ev hr ⋯ rfl passF (Jaa (pv 4) (Jaa JbQ (Jaa (pv 1) Jad))) (he:=by exact Jaf rfl)))
   (Jab (Jaj (i:=15) Jav.nd rfl (Or.inl rfl) (pe_ix ix_U (Ja5 (Jaa (pe_op JaY Jac (pe_op JaG (pe_op Jat (pv 6) Jac) Jac)) (Jaa (pe_op JaY Jac (pe_op JaG (pv 9) (pe_op Jff Jac Jac))) Jad))) (Jcf JfB rfl T.BdQ JgP (Jaa (Jbf (JbP hu) (pe_op JaG (pe_op Jat (pv 6) Jac) Jac) Jac (Jaz _)) Jad)) (fun _ _=>rfl)))
   (Jab (Ja9 (pe_bm PySem.F.plainAttrs_list PySem.F.slot_list_append PySem.F.type_list_append Ja7 (pv 2) (Jaa (JaJ (Jaa (pv 14) (Jaa (pe_ix ix_U (pv 13) Jac (fun _ _=>rfl)) (Jaa (pe_ix ix_U (pv 13) Jac (fun _ _=>rfl)) (Jaa (pv 10) (Jaa (pv 12) (Jaa (pv 15) Jad))))))) Jad) (hs:=by exact Jaf rfl)))
   (Jab (Jaj (i:=16) Jav.nd rfl (Or.inl rfl) (Bap.ev hr ⋯ rfl passF (Jaa (pe_ix ix_U (Ja0 (hu1 hu) (pv 3) (pv 7) (fun _ _=>rfl)) Jac (fun _ _=>rfl)) (Jaa (pv 10) (Jaa (pe_op Jio Jac (pe_op JaB Jac (pe_op JaG (pe_op Jat (pv 6) Jac) Jac))) Jad))) (he:=by exact Jaf rfl)))
   (Jah (JbR (hu1 hu) (pv 3) (pv 8) (JaJ (Jaa (pe_ix ix_U (Ja0 (hu1 hu) (pv 3) (pv 7) (fun _ _=>rfl)) Jac (fun _ _=>rfl)) (Jaa (pv 16) (Jaa (pe_op JaY (pe_ix ix_U (Ja0 (hu1 hu) (pv 3) (pv 7) (fun _ _=>rfl)) Jac (fun _ _=>rfl)) (Ja5 (Jaa (pv 14) Jad))) Jad)))) rfl))))))))))))))))
   (Jah (Jaq (JaJ (Jaa (pv 2) (Jaa (pv 3) Jad)))))))),?_⟩
 clear hu;obtain ⟨hS,hl,d5,k⟩:=h;have sl:(1000:Nat)<=sizeLine:=by decide
 have b4:(Str.ofString "f").cps=#[102]:=by decide
 have k8:(Str.ofString "p").cps=#[112]:=by decide
 show tSeq _ _ _ [some (.ref a),some (.int (g:Int)),none,none,none,none,none,none,none,none,none,none,none,none,none,none,none] H;nofun;refine ⟨len0,?_⟩;rename_i D l3 r9 H H1 S1 e1;nofun;rename_i l c4 q9 H1 H2 S2 e2;nofun;refine ⟨a,ns,0,rfl,(hS.same S1).same S2,hl,by decide,by decide,fun c0=>?_⟩;nofun;repeat (refine And.intro (by first | exact JaV ⋯ | exact JaX ⋯ | exact JaW ⋯ | exact JaH ⋯ | exact Int.one_ne_zero | decide) ?_)
 have q0:=Mth.fm (x:=c0) (y:=8) ⋯;refine ⟨_,rfl,by ac_nf,by ac_nf,?_⟩;have g9:D≠l:=fun z=>by rw [<- z,e1] at c4; cases c4
 have f6:=Jda S1 c4;refine ForR.byN (fun i σ G=>∃ (v4 v5 v6 v7 v8 v9 a9 b0 b3 c7 b7 c5 c9:Option V) (px:List V) (L:List (Key × V)) (ls:List PD) (e:List (SpD × List Str)),σ=[some (.ref a),some (.int (g:Int)),some (.ref D),some (.ref l),v4,v5,v6,v7,v8,v9,a9,b0,b3,c7,b7,c5,c9]/\Same H G/\G D=some (.lst px)/\All2 (PDV K G) ls px/\G l=some (.dK L)/\BG (·.1.f) (SNV K D l G) e L/\Grn g ls (e.map (·.1))/\Nms ls e/\Two (e.map (·.1))/\ls.length=i/\e.length<=2*i/\(1<=i->e≠[])/\∀ p∈ls,Mth.Sz 21 p.wt) ⟨none,none,none,none,none,none,none,none,none,none,none,none,none,[],[],[],[],rfl,S1.trans S2,S2 _ _ e1,rfl,e2,⟨rfl,rfl⟩,Grn.nil,Nms.nil,(fun s hs=>by cases hs),rfl,by decide,fun z=>absurd z ⋯,(fun p hp=>by cases hp)⟩ ?_ ?_
 ·rintro i σ H3 hi ⟨v4,v5,v6,v7,v8,v9,a9,b0,b3,c7,b7,c5,c9,px,L,ls,e,rfl,S3,ep,hP,U,hB,Y,hM,hT,e0,g2,h5,g8⟩ N0 p6;have i7:i<8:=by ac_nf
  rw [Int.zero_add];simpa only [-y5by];repeat (refine And.intro (by first | exact JaV ⋯ | exact JaX ⋯ | exact JaW ⋯ | exact JaH ⋯ | exact Int.one_ne_zero | decide) ?_)
  refine ⟨a,ns,_,rfl,hS.same S3,hl,by ac_nf,by ac_nf,fun c1=>?_⟩;try simpa only [-y5by]
  repeat (refine And.intro (by first | exact JaV ⋯ | exact JaX ⋯ | exact JaW ⋯ | exact JaH ⋯ | exact Int.one_ne_zero | decide) ?_)
  generalize ((c1*48271).fmod 2147483647).fdiv 37=mx;refine Jlg (fun σ' G=>∃ (L:List (Key × V)) (e:List (SpD × List Str)) (s0:SpD × List Str),σ'=[some (.ref a),some (.int (g:Int)),some (.ref D),some (.ref l),some (.int (i:Int)),some (.int c1),some (.int mx),some (.str s0.1.f),v8,v9,a9,b0,b3,c7,b7,c5,c9]/\Same H G/\G D=some (.lst px)/\All2 (PDV K G) ls px/\G l=some (.dK L)/\BG (·.1.f) (SNV K D l G) e L/\Grn g ls (e.map (·.1))/\Nms ls e/\s0∈e/\(∀ s∈e.map (·.1),s.r=s0.1.r\/∃ t∈e.map (·.1),t.f≠s.f/\t.r=s.r)/\e.length<=2*i+1) ?_ ?_
  ·clear hB Y hT hM g2 h5 U hP ep S3;rintro σ' O ⟨L,e,s0,rfl,C,ep,hP,U,hB,Y,hM,Z,hT,g2⟩;have lk:=hB.length;have a8:(e.map (·.1)).length=e.length:=length_map ..;have M:s0.1∈e.map (·.1):=mem_map.mpr ⟨s0,Z,rfl⟩;nofun;refine ⟨l,L,rfl,U,?_⟩;refine ⟨_,_,_,102,e.length,rfl,b4,by ac_nf,by ac_nf,by ac_nf,by ac_nf,?_⟩;rw [Int.toNat_natCast];nofun;repeat (refine And.intro (by first | exact JaV ⋯ | exact JaX ⋯ | exact JaW ⋯ | exact JaH ⋯ | exact Int.one_ne_zero | decide) ?_)
   refine ⟨a,ns,_,rfl,hS.same C,hl,by ac_nf,by ac_nf,fun c2=>?_⟩;nofun;repeat (refine And.intro (by first | exact JaV ⋯ | exact JaX ⋯ | exact JaW ⋯ | exact JaH ⋯ | exact Int.one_ne_zero | decide) ?_)
   rename_i ml r5 s3 O H6 S6 e6;nofun;repeat (refine And.intro (by first | exact JaV ⋯ | exact JaX ⋯ | exact JaW ⋯ | exact JaH ⋯ | exact Int.one_ne_zero | decide) ?_)
   have q5:=Mth.fm (x:=mx.fdiv 64) (y:=2) ⋯;obtain ⟨n5,l4⟩:=Int.eq_ofNat_of_zero_le q5.1;rw [l4] at q5 ⊢;obtain ⟨mo,o4,m1,m2⟩:∃ mo:Int,[V.int 9, .int 10000000000000000000000000000000000000000][n5]?=some (.int mo)/\1<=mo/\mo<=10000000000000000000000000000000000000000:=by
    match n5,q5 with
    | 0,_=>exact ⟨_,rfl,by decide,by decide⟩
    | 1,_=>exact ⟨_,rfl,by decide,by decide⟩
    | n+2,q5=>ac_nf
   refine ixL (i:=n5) (SqL.of e6) o4 ?_;clear q5 l4;nofun;refine ⟨by ac_nf,?_⟩;repeat (refine And.intro (by first | exact JaV ⋯ | exact JaX ⋯ | exact JaW ⋯ | exact JaH ⋯ | exact Int.one_ne_zero | decide) ?_)
   have qt:=Mth.fm (x:=c2) (y:=mo) ∅;have qb:=Mth.fm (x:=mx.fdiv 128) (y:=12) ⋯;refine ⟨_,_,rfl,by ac_nf, .lit ∅ ∅,fun fz H7 S7 e7=>?_⟩;have zb:FB 133 4 (Mth.top (c2.fmod mo) (1+(mx.fdiv 128).fmod 12),Mth.bot (c2.fmod mo) (1+(mx.fdiv 128).fmod 12)):=FB.low ∅ (.lit ∅ ∅) (.lit ∅ ∅);obtain ⟨sz,j5⟩:∃ sz:Fr2,sz=(Mth.top (c2.fmod mo) (1+(mx.fdiv 128).fmod 12),Mth.bot (c2.fmod mo) (1+(mx.fdiv 128).fmod 12)):=⟨_,rfl⟩;rw [<- j5] at zb;have e7:H7 fz=some (.tup [.int sz.1, .int sz.2]):=by rw [e7,j5]
   nofun;refine ⟨by show 12<=sizeLine; ac_nf,?_⟩;rename_i bl r2 r4 H7 o9 p5 n8;nofun;repeat (refine And.intro (by first | exact JaV ⋯ | exact JaX ⋯ | exact JaW ⋯ | exact JaH ⋯ | exact Int.one_ne_zero | decide) ?_)
   have f8:=Mth.fm (x:=mx.fdiv 16) (y:=12) ⋯;obtain ⟨k0,f2⟩:=Int.eq_ofNat_of_zero_le f8.1;rw [f2] at f8 ⊢;obtain ⟨bt,m4,b1,b2⟩:∃ bt:Int,[V.int 1, .int 2, .int 3, .int 4, .int 5, .int 6, .int 10, .int 12, .int 15, .int 20, .int 30, .int 60][k0]?=some (.int bt)/\1<=bt/\bt<=60:=JlC ∅;refine ixL (i:=k0) (SqL.of n8) m4 ?_;clear f8 f2;nofun;repeat (refine And.intro (by first | exact JaV ⋯ | exact JaX ⋯ | exact JaW ⋯ | exact JaH ⋯ | exact Int.one_ne_zero | decide) ?_)
   rename_i ol q2 r1 o9 t9 p7 p4;nofun;repeat (refine And.intro (by first | exact JaV ⋯ | exact JaX ⋯ | exact JaW ⋯ | exact JaH ⋯ | exact Int.one_ne_zero | decide) ?_)
   have q3:=Mth.fm (x:=mx.fdiv 1024) (y:=3) ⋯;obtain ⟨n3,i4⟩:=Int.eq_ofNat_of_zero_le q3.1;rw [i4] at q3 ⊢;obtain ⟨om,m0,o1,o2⟩:∃ om:Int,[V.int 13, .int 13, .int 1000000000000000000000000000000][n3]?=some (.int om)/\1<=om/\om<=1000000000000000000000000000000:=pick3 ∅;refine ixL (i:=n3) (SqL.of p4) m0 ?_;clear q3 i4;nofun;refine ⟨by ac_nf,?_⟩;repeat (refine And.intro (by first | exact JaV ⋯ | exact JaX ⋯ | exact JaW ⋯ | exact JaH ⋯ | exact Int.one_ne_zero | decide) ?_)
   have qo:=Mth.fm (x:=c2) (y:=om) ∅;refine ⟨_,_,rfl,b1, .lit ∅ ∅,fun fm j4 m7 h0=>?_⟩;have mb:FB 100 6 (Mth.top (c2.fmod om) bt,Mth.bot (c2.fmod om) bt):=FB.low b1 (.lit ∅ ∅) (.lit ∅ ∅);have mn:0<=Mth.top (c2.fmod om) bt:=JiT qo.1 b1;obtain ⟨mz,g1⟩:∃ mz:Fr2,mz=(Mth.top (c2.fmod om) bt,Mth.bot (c2.fmod om) bt):=⟨_,rfl⟩;rw [<- g1] at mb;have mn:0<=mz.1:=by rw [g1]; exact mn
   have h0:j4 fm=some (.tup [.int mz.1, .int mz.2]):=by rw [h0,g1]
   clear qt qb qo m1 m2 b1 b2 o1 o2;nofun;refine ⟨len2,?_⟩;rename_i t1 s5 r8 j4 H8 S8 e8;nofun;refine ⟨len2,?_⟩;rename_i t2 s7 s2 H8 H9 S9 e9;nofun;refine ⟨len2,?_⟩;rename_i el s6 r3 H9 d8 d7 l9;nofun;repeat (refine And.intro (by first | exact JaV ⋯ | exact JaX ⋯ | exact JaW ⋯ | exact JaH ⋯ | exact Int.one_ne_zero | decide) ?_)
   have q6:=Mth.fm (x:=mx.fdiv 32) (y:=2) ⋯;obtain ⟨n6,l5⟩:=Int.eq_ofNat_of_zero_le q6.1;rw [l5] at q6 ⊢;obtain ⟨d,et,u,v,hd,e3,d0,c3,k2⟩:∃ (d:Bool) (et:Addr) (u v:Str),[V.ref t1, .ref t2][n6]?=some (.ref et)/\d8 et=some (.tup [.str u, .str v])/\(u=if d then s0.1.f else nmK 102 g e.length)/\(v=if d then nmK 102 g e.length else s0.1.f)/\(1-2*(n6:Int)=if d then 1 else -1):=by
    match n6,q6 with
    | 0,_=>exact ⟨true,t1,_,_,rfl,d7 _ _ (S9 _ _ e8),rfl,rfl,rfl⟩
    | 1,_=>exact ⟨false,t2,_,_,rfl,d7 _ _ e9,rfl,rfl,rfl⟩
    | n+2,q6=>ac_nf
   refine ixL (i:=n6) (SqL.of l9) hd ?_;clear q6;nofun;have f5:Same H7 d8:=p5.trans (p7.trans (m7.trans (S8.trans (S9.trans d7))));have a6:Same O d8:=S6.trans (S7.trans f5);have d6:=f5 _ _ e7;have d1:=d7 _ _ (S9 _ _ (S8 _ _ h0));have b5:=a6 _ _ ep;refine ⟨_,_,_,112,i,rfl,k8,rfl,by ac_nf,by ac_nf,by ac_nf,?_⟩;rw [Int.toNat_natCast];nofun;repeat (refine And.intro (by first | exact JaV ⋯ | exact JaX ⋯ | exact JaW ⋯ | exact JaH ⋯ | exact Int.one_ne_zero | decide) ?_)
   have qw:=Mth.fm (x:=mx.fdiv 8) (y:=4) ⋯;have l8:=Mth.fm (x:=c2) (y:=1000000) ⋯;refine ⟨len2,?_⟩;rename_i wl r0 s4 d8 k6 S i8;nofun;repeat (refine And.intro (by first | exact JaV ⋯ | exact JaX ⋯ | exact JaW ⋯ | exact JaH ⋯ | exact Int.one_ne_zero | decide) ?_)
   refine .inr ⟨_,rfl,?_⟩;obtain ⟨n7,wt,j1,m9,o6,t6⟩:∃ (n7:Nat) (wt:Int),(if decide ((mx.fdiv 2048).fmod 5=1)=true then (1:Int) else 0)=(n7:Int)/\[V.int (1+(mx.fdiv 8).fmod 4), .int (1+c2.fmod 1000000)][n7]?=some (.int wt)/\1<=wt/\wt<=1000000:=by
    by_cases c:(mx.fdiv 2048).fmod 5=1
    ·exact ⟨1,_,by rw [if_pos (by simpa using c)]; rfl,rfl,by ac_nf,by ac_nf⟩
    ·exact ⟨0,_,by rw [if_neg (by simpa using c)]; rfl,rfl,by ac_nf,by ac_nf⟩
   rw [j1];refine ixL (i:=n7) (SqL.of i8) m9 ?_;clear qw l8 j1;nofun;replace e3:=S _ _ e3;replace b5:=S _ _ b5;replace d6:=S _ _ d6;replace d1:=S _ _ d1;replace a6:=a6.trans S;refine ⟨.inl ⟨rfl,_,SqL.of b5⟩,?_⟩;refine ixT (i:=0) (SqT.of e3) rfl ?_;refine ixT (i:=1) (SqT.of e3) rfl ?_;nofun;refine ⟨by show 6<=sizeLine; ac_nf,?_⟩;rename_i pt q4 q1 k6 d3 d4 o7;nofun;have B:=a6.trans d4;have lp:=hP.length;refine ⟨D,px,_,rfl,rfl,B _ _ ep,by ac_nf,?_⟩;generalize f9:upd d3 D _=b6;nofun;have j3:b6 D=some (.lst (px++[.ref pt])):=putE f9;have h6:SameT d3 b6:=SameT.put f9 (B _ _ ep) rfl;have a3:∀ b u,b≠D->d3 b=some u->b6 b=some u:=fun b u hb h=>by rw [<- f9,Jag hb]; exact h
   have b9:=a3 _ _ (Ne.symm g9) (B _ _ U);have a5:SameT O b6:=B.t.trans h6;obtain ⟨W,t3,n9,p0,g3,tb,w0,l0,rfl,h7,n0,m5,s9,p3⟩:=hB.some (z:=s0.1.f) (mem_map.mpr ⟨s0,Z,rfl⟩);have es:=JdI Y n9 Z p0;subst es;nofun;refine ⟨l,_,rfl,by rw [<- g3]; exact DGet.k (k:=Sum.inr W.1.f) b9,?_⟩;refine ixT (i:=1) (h7.sameT a5) rfl ?_;nofun;repeat (refine And.intro (by first | exact JaV ⋯ | exact JaX ⋯ | exact JaW ⋯ | exact JaH ⋯ | exact Int.one_ne_zero | decide) ?_)
   have i2:FrV K b6 (.ref fz) sz.1 sz.2:=FrV.of (h6 _ _ rfl (d4 _ _ d6));have pb:=Y.fb W.1 M;refine ⟨w0, .ref fz,_,W.1.p,sz,d,rfl,(by first | exact k2 | (rw [l5]; exact k2)),n0.sameT a5,i2,pb.w.mono ∅ ∅,zb.w.mono ⋯ ⋯,fun np k9 d2 o0=>?_⟩;nofun;have c8:=d2 _ _ b9;have f7:SameT O k9:=a5.trans d2.t;refine ⟨l,_,rfl,by rw [<- g3]; exact DGet.k (k:=Sum.inr W.1.f) c8,?_⟩;refine ixT (i:=0) (h7.sameT f7) rfl ?_;refine ⟨l,_,rfl,by rw [<- g3]; exact DGet.k (k:=Sum.inr W.1.f) c8,?_⟩;refine ixT (i:=2) (h7.sameT f7) rfl ?_;nofun;refine ⟨by show 1<=sizeLine; ac_nf,?_⟩;rename_i n1 r6 q8 k9 f1 R l2;nofun;have j8:f1 l0=some (.lst (W.2.map V.str)):=R _ _ (d2 _ _ (a3 _ _ m5 (B _ _ p3)));have t7:=hM.ln W Z;refine .inl ⟨l0,n1,_,_,rfl,rfl,j8,l2,by simp only [length_map,length_cons,length_nil]; ac_nf,?_⟩;rename_i n2 I q7 f1 j2 f0 i5;nofun;refine ⟨by show 3<=sizeLine; ac_nf,?_⟩;rename_i nt r7 s1 j2 h8 g4 p2;nofun;have m:=d2.trans (R.trans (f0.trans g4));have f3:=m _ _ b9;refine ⟨l,_,rfl,DPut.k (k:=Sum.inr (nmK 102 g e.length)) f3 ∅,?_⟩;generalize i0:upd h8 l _=a0;nofun;have o8:=putE i0;have d9:SameT h8 a0:=SameT.put i0 f3 rfl;have a4:∀ b u,b≠l->h8 b=some u->a0 b=some u:=fun b u hb h=>by rw [<- i0,Jag hb]; exact h
   have f4:SameT O a0:=a5.trans (m.t.trans d9);have a2:SameT d3 a0:=h6.trans (m.t.trans d9);have W416:Same2 D l O a0:=fun b u h1 h2 h=>a4 _ _ h2 (m _ _ (a3 _ _ h1 (B _ _ h)));have g5:nameS (nmK 112 g i)=true:=JdR ⋯ d5 ∅;have t8:nameS W.1.f=true:=Y.fname d5 ∅ M;have t0:nameS (nmK 102 g e.length)=true:=JdR ⋯ d5 ∅;have a7:nmK 102 g e.length∉(e.map (·.1)).map (·.f):=Y.new (by rw [a8]; exact Nat.le_refl _);have nw:nmK 102 g e.length≠W.1.f:=fun z=>a7 (z ▸ mem_map.mpr ⟨W.1,M,rfl⟩);have p8:Mth.Sz 200 wt:=.lit ∅ ∅;have i9:Mth.Sz 21 wt:=.lit ∅ ∅;have n4:POk ⟨nmK 112 g i,u,v,sz,mz,wt⟩:=⟨g5,by show nameS u=true; rw [d0]; cases d <;> assumption,by show nameS v=true; rw [c3]; cases d <;> assumption,by show u≠v; rw [d0,c3]; cases d; exact nw; exact Ne.symm nw,zb.ok ⋯ ⋯,mb.ok ⋯ ⋯,mn,o6,p8⟩;rw [<- a8] at d0 c3;have k4:=Y.part d5 M (p:=⟨nmK 112 g i,u,v,sz,mz,wt⟩) (d:=d) (by rw [e0]) d0 c3 (zb.mono ⋯ ⋯) n4;have l7:=hM.part Y Z (p:=⟨nmK 112 g i,u,v,sz,mz,wt⟩) (d:=d) (by rw [e0]) d0 c3 zb mb;have i1:=JjB Y M hT (z:=addF W.1.p (sgn d sz));rw [a8] at k4 l7 i1;obtain ⟨X,hX⟩:∃ X:SpD × List Str,X=(⟨nmK 102 g e.length,W.1.r,addF W.1.p (sgn d sz)⟩,W.2++[nmK 112 g i]):=⟨_,rfl⟩;have b8:(e++[X]).map (·.1)=e.map (·.1)++[⟨nmK 102 g e.length,W.1.r,addF W.1.p (sgn d sz)⟩]:=by rw [map_append,hX]; rfl
   refine p6 _ _ ⟨_,_,_,_,_,_,_,_,_,_,_,_,_,px++[.ref pt],_,ls++[⟨nmK 112 g i,u,v,sz,mz,wt⟩],e++[X],rfl,fun b w h=>a4 _ _ (Jai h f6) (m _ _ (a3 _ _ (Jai h l3) (B _ _ (C _ _ h)))),a4 _ _ g9 (m _ _ j3),?_,o8,?_,by rw [b8]; exact k4,by rw [hX]; exact l7,by rw [b8]; exact i1,by simp [e0],by simp; ac_nf,(fun _=>by simp),fun p hp=>by
    rcases mem_append.mp hp with hp | hp
    ·exact g8 p hp
    ·rw [mem_singleton.mp hp]; exact i9⟩
   ·exact (hP.mono (P':=PDV K a0) fun _ _ z=>z.sameT f4).append (.one ⟨pt,_,_,rfl,SqT.of (a2 _ _ rfl o7),FrV.of (a2 _ _ rfl (d4 _ _ d6)),FrV.of (a2 _ _ rfl (d4 _ _ d1))⟩)
   ·have g0:=hB.mono (P':=SNV K D l a0) fun _ _ z=>z.keep f4 W416;have ef:X.1.f=nmK 102 g e.length:=by rw [hX]
    have nX:(fun x:SpD × List Str=>x.1.f) X∉e.map (fun x=>x.1.f):=by
     show X.1.f∉_;rw [ef];rw [map_map] at a7;exact a7
    have o3:n2≠D:=fun z=>by rw [z] at I; rw [R _ _ (d2 _ _ j3)] at I; cases I
    have j9:n2≠l:=fun z=>by rw [z] at I; rw [R _ _ c8] at I; cases I
    have:=g0.new (a:=X) (v:=.ref nt) nX ⟨nt, .ref np,n2,rfl,by rw [hX]; exact SqT.of (d9 _ _ rfl p2),by rw [hX]; exact FrV.of (d9 _ _ rfl (g4 _ _ (f0 _ _ (R _ _ o0)))),o3,j9,a4 _ _ j9 (by rw [hX]; rw [g4 _ _ i5]; simp)⟩;rw [ef] at this;exact this
  ·intro N hN;have lk:=hB.length;have a8:(e.map (·.1)).length=e.length:=length_map ..;nofun;refine ⟨l,L,rfl,U,?_⟩;nofun;have l1:∀ (G:Hp) (tf rf lf:Addr),Same H3 G->H3 lf=none->G lf=some (.lst [])->G rf=some (.tup [.int 0, .int 1])->G tf=some (.tup [.str (nmK 102 g e.length), .ref rf, .ref lf])->∀ J,upd G l (.dK (putK L (Sum.inr (nmK 102 g e.length)) (.ref tf)))=J->N [some (.ref a),some (.int (g:Int)),some (.ref D),some (.ref l),some (.int (i:Int)),some (.int c1),some (.int mx),some (.str (nmK 102 g e.length)),v8,v9,a9,b0,b3,c7,b7,c5,c9] J:=fun G tf rf lf S' o p1 hr ht J u=>by
    have m6:=S' _ _ U;have o5:=putE u;have T':SameT G J:=SameT.put u m6 rfl;have fr:∀ b w,b≠l->G b=some w->J b=some w:=fun b w hb h=>by rw [<- u,Jag hb]; exact h
    have T3:SameT H3 J:=S'.t.trans T';have W3:Same2 D l H3 J:=fun b u _ h2 h=>fr _ _ h2 (S' _ _ h);have np:lf≠D:=fun z=>by rw [z,ep] at o; cases o
    have i3:lf≠l:=fun z=>by rw [z,U] at o; cases o
    have k3:=Y.face;have l6:=hM.face Y;rw [a8] at k3 l6;obtain ⟨X,hX⟩:∃ X:SpD × List Str,X=(⟨nmK 102 g e.length,nmK 102 g e.length,(0,1)⟩,[]):=⟨_,rfl⟩;have b8:(e++[X]).map (·.1)=e.map (·.1)++[⟨nmK 102 g e.length,nmK 102 g e.length,(0,1)⟩]:=by rw [map_append,hX]; rfl
    have h9:X.1.f=nmK 102 g e.length:=by rw [hX]
    have p9:X.1.r=nmK 102 g e.length:=by rw [hX]
    refine hN _ _ ⟨_,e++[X],X,by rw [h9],fun b w h=>fr _ _ (Jai h f6) (S' _ _ (S3 _ _ h)),fr _ _ g9 (S' _ _ ep),hP.mono (P':=PDV K J) (fun _ _ z=>z.sameT T3),o5,?_,by rw [b8]; exact k3,by rw [hX]; exact l6,by simp,fun s hs=>?_,by simp; ac_nf⟩
    ·have g0:=hB.mono (P':=SNV K D l J) fun _ _ z=>z.keep T3 W3;have nX:(fun x:SpD × List Str=>x.1.f) X∉e.map (fun x=>x.1.f):=by
      show X.1.f∉_;rw [h9];have a7:nmK 102 g e.length∉(e.map (·.1)).map (·.f):=Y.new (by rw [a8]; exact Nat.le_refl _);rw [map_map] at a7;exact a7
     have:=g0.new (a:=X) (v:=.ref tf) nX ⟨tf, .ref rf,lf,rfl,by rw [hX]; exact SqT.of (T' _ _ rfl ht),by rw [hX]; exact FrV.of (T' _ _ rfl hr),np,i3,by rw [hX]; exact fr _ _ i3 p1⟩;rw [h9] at this;exact this
    ·rw [b8] at hs ⊢;rcases mem_append.mp hs with hs | hs
     ·obtain ⟨t,h1,h2,h3⟩:=hT s hs;exact .inr ⟨t,mem_append.mpr (.inl h1),h2,h3⟩
     ·rw [mem_singleton.mp hs,p9];exact .inl rfl
   by_cases z0:e.length=0
   ·rw [if_pos (by rw [decide_eq_true_iff]; ac_nf)];nofun;refine ⟨l,L,rfl,U,?_⟩;refine ⟨_,_,_,102,e.length,rfl,b4,by ac_nf,by ac_nf,by ac_nf,by ac_nf,?_⟩;rw [Int.toNat_natCast];nofun;refine ⟨len2,?_⟩;rename_i rf k5 k1 H3 O C e4;nofun;refine ⟨len0,?_⟩;rename_i lf o j6 O h4 a1 g6;nofun;refine ⟨by show 3<=sizeLine; ac_nf,?_⟩;rename_i tf k7 j7 h4 H5 S5 e5;nofun;refine ⟨l,_,rfl,DPut.k (k:=Sum.inr (nmK 102 g e.length)) (S5 _ _ (a1 _ _ (C _ _ U))) ∅,?_⟩;exact l1 H5 tf rf lf (C.trans (a1.trans S5)) (Jda C o) (S5 _ _ g6) (S5 _ _ (a1 _ _ e4)) e5 _ rfl
   ·rw [if_neg (by rw [decide_eq_true_iff]; ac_nf)];nofun;nofun;repeat (refine And.intro (by first | exact JaV ⋯ | exact JaX ⋯ | exact JaW ⋯ | exact JaH ⋯ | exact Int.one_ne_zero | decide) ?_)
    by_cases c6:(mx.fdiv 4096).fmod 6=1
    ·rw [if_pos (by simpa using c6)];nofun;refine ⟨l,L,rfl,U,?_⟩;refine ⟨_,_,_,102,e.length,rfl,b4,by ac_nf,by ac_nf,by ac_nf,by ac_nf,?_⟩;rw [Int.toNat_natCast];nofun;refine ⟨len2,?_⟩;rename_i rf k5 k1 H3 O C e4;nofun;refine ⟨len0,?_⟩;rename_i lf o j6 O h4 a1 g6;nofun;refine ⟨by show 3<=sizeLine; ac_nf,?_⟩;rename_i tf k7 j7 h4 H5 S5 e5;nofun;refine ⟨l,_,rfl,DPut.k (k:=Sum.inr (nmK 102 g e.length)) (S5 _ _ (a1 _ _ (C _ _ U))) ∅,?_⟩;exact l1 H5 tf rf lf (C.trans (a1.trans S5)) (Jda C o) (S5 _ _ g6) (S5 _ _ (a1 _ _ e4)) e5 _ rfl
    ·rw [if_neg (by simpa using c6)];nofun;refine ⟨l,L,e.map (·.1.f),rfl,U,by rw [hB.1,map_map]; rfl,by rw [length_map]; ac_nf,fun m8 g7 i6 j0=>?_⟩;generalize u4:upd H3 m8 _=O;nofun;have C:=newS i6 u4;have e4:=newE u4;nofun;refine ⟨l,L,rfl,C _ _ U,?_⟩;nofun;have lo:g7.length=e.length:=by rw [j0.1.length_eq,length_map]
     refine ⟨by ac_nf,?_⟩;have qj:=Mth.fm (x:=mx) (y:=(L.length:Int)) ∅;obtain ⟨j,hj⟩:=Int.eq_ofNat_of_zero_le qj.1;rw [hj] at qj ⊢;have jl:j<g7.length:=by ac_nf
     obtain ⟨s0,Z,ef⟩:=mem_map.mp (j0.1.mem_iff.mp (List.getElem_mem jl));refine ixL (i:=j) (SqL.of e4) (by rw [List.getElem?_map,List.getElem?_eq_getElem jl]; rfl) ?_;nofun;have ef:s0.1.f=g7[j]:=ef;rw [<- ef];exact hN _ _ ⟨L,e,s0,rfl,S3.trans C,C _ _ ep,hP.mono (P':=PDV K O) (fun _ _ z=>z.sameT C.t),C _ _ U,hB.mono (P':=SNV K D l O) (fun _ _ z=>z.same C),Y,hM,Z,fun s hs=>.inr (hT s hs),by ac_nf⟩
 ·rintro σ H3 ⟨v4,v5,v6,v7,v8,v9,a9,b0,b3,c7,b7,c5,c9,px,L,ls,e,rfl,S3,ep,hP,U,hB,Y,hM,hT,e0,g2,h5,g8⟩;nofun;refine ⟨len2,?_⟩;rename_i q s8 t4 H3 O C e4;nofun;exact k q D l px L ls e O (S3.trans C) e4 (C _ _ ep) (hP.mono (P':=PDV K O) fun _ _ z=>z.sameT C.t) (C _ _ U) (hB.mono (P':=SNV K D l O) fun _ _ z=>z.same C) Y hM hT ∅ ∅ ∅ g8 (h5 ∅)
abbrev BaP:Stmt:=top 56
theorem Jcm:Jan ["_law_script","_law_parts_here","_law_kept_here","_law_k"] ["_law_script","_law_parts_here"] (Jae BaP):=by bv_decide
def Jct (K:W.Frag):Sp:=fun vs H Q E=>∃ (a c:Addr) (ns:List Int) (px:List V) (ls:List PD),vs=[.ref a, .ref c]/\SqL K H a (ns.map V.int)/\ns.length<=63/\SqL K H c px/\All2 (PDV K H) ls px/\ls.length<=8/\∀ l ys ks H',Same H H'->H' l=some (.lst ys)->All2 (PDV K H') ks ys->ks.Perm ls->Q (.ref l) H'
theorem Jfa (F:FunD K "_law_listed" "_law_listed" BaP dV f fd) (T:Txt K mg Ad) (Bae:Cal P w K mg base 1 "_law_cell" ["_law_script","_law_k"] [] (Jbz K)):FnOk P w K mg base (CX1 P w) 2 f fd ["_law_script","_law_parts_here"] (Jct K):=by
 refine F.okn Jcm (by subst_eqs) (fun a1 A I s H vs Q E hr h=>?_)
 obtain ⟨a,c,N,px,e,rfl,h⟩:=h;refine ⟨_,(Jab (Jaj (i:=2) Jcm.nd rfl (Or.inl rfl) (Ja5 Jad))
   (Jab (Ja1 PassesOwn.never rfl (Jdj rfl T.Bcz (Jaa (Jap JaP rfl T.Bbe Jbd (Jaa (pv 1) Jad)) Jad)) (Jar (i:=3) Jcm.nd rfl (Or.inl rfl))
   (Jah (Ja9 (pe_bm PySem.F.plainAttrs_list PySem.F.slot_list_insert PySem.F.type_list_insert Jib (pv 2) (Jaa (pe_op JaG (pe_op Jat (pe_op JaG (pe_op JaB (Bae.ev hr ⋯ rfl passF (Jaa (pv 0) (Jaa (pe_op JaY Jac (pe_op JaB Jac (pv 3))) Jad)) (he:=by exact Jaf rfl)) Jac) Jac) Jac) (pe_op JaY Jac (pv 3))) (Jaa (pe_ix ix_U (pv 1) (pv 3) (fun _ _=>rfl)) Jad))))))
   (Jah (Jaq (pv 2))))),?_⟩
 obtain ⟨hS,hl,X,W,h8,k⟩:=h;have sl:(1000:Nat)<=sizeLine:=by decide
 have lp:=W.length;show tSeq _ _ _ [some (.ref a),some (.ref c),none,none] H;nofun;refine ⟨len0,?_⟩;rename_i o r M H H1 S e1;nofun;refine ⟨_, .inl (X.same S),?_⟩;nofun;refine ⟨_,rfl,by ac_nf,by ac_nf,?_⟩;refine ForR.by (fun i σ D=>∃ (G:Option V) (j:List V) (d:List PD),σ=[some (.ref a),some (.ref c),some (.ref o),G]/\Same H D/\D o=some (.lst j)/\All2 (PDV K D) d j/\d.Perm (e.take i)) ⟨none,[],[],rfl,S,e1,rfl,by simp⟩ ?_ ?_
 ·rintro i σ B hi ⟨G,j,d,rfl,g,q,v,m⟩;have O:i<e.length:=by ac_nf
  have a2:d.length=i:=by rw [m.length_eq,length_take]; ac_nf
  have a0:=v.length;obtain ⟨L,J,pv⟩:=W.get (List.getElem?_eq_getElem O);rw [Int.zero_add];nofun;refine ⟨.inl ⟨rfl,_,SqL.of q⟩,?_⟩;repeat (refine And.intro (by first | exact JaV ⋯ | exact JaX ⋯ | exact JaW ⋯ | exact JaH ⋯ | exact Int.one_ne_zero | decide) ?_)
  refine ⟨a,N,_,rfl,hS.same g,hl,by ac_nf,by ac_nf,fun c1=>?_⟩;nofun;repeat (refine And.intro (by first | exact JaV ⋯ | exact JaX ⋯ | exact JaW ⋯ | exact JaH ⋯ | exact Int.one_ne_zero | decide) ?_)
  refine ⟨by ac_nf,?_⟩;have R:=Mth.fm (x:=((c1*16807).fmod 2147483587).fdiv 37) (y:=1+(i:Int)) ∅;obtain ⟨n,hn⟩:=Int.eq_ofNat_of_zero_le R.1;rw [hn] at R ⊢;refine ixL (i:=i) (X.same g) J ?_;nofun;refine ⟨o,j,L,n,rfl,rfl,q,by ac_nf,by ac_nf,?_⟩;generalize C:upd B o _=Y;nofun;have Z:=putE C;have U:SameT B Y:=SameT.put C q rfl;have p:=v.mono (P':=PDV K Y) fun _ _ z=>z.sameT U;refine ⟨_,_,d.take n++e[i]::d.drop n,rfl,fun b u h=>by rw [<- C,Jag (Jai h r)]; exact g _ _ h,Z,(p.take n).append ⟨L,_,rfl,(pv.sameT g.t).sameT U,p.drop n⟩,?_⟩;rw [take_succ,List.getElem?_eq_getElem O];refine List.Perm.trans List.perm_middle ?_;rw [List.take_append_drop];refine List.Perm.trans (List.Perm.cons _ m) ?_;exact (List.perm_append_comm (l₁:=[e[i]]) (l₂:=e.take i))
 ·rintro σ B ⟨G,j,d,rfl,g,q,v,m⟩;rw [take_of_length_le ∅] at m;nofun;exact k o j d B g q v m
abbrev Ba6:Stmt:=top 57
theorem Jay:Jan ["_law_script","_law_spots","_law_style","_law_gaps_here","_law_rows","_law_k","_law_cell_here","_law_mixed","_law_faces","_law_one","_law_same","_law_two","_law_middle","_law_other","_law_far","_law_below","_law_above","_law_room","_law_here","_law_there","_law_names"] ["_law_script","_law_spots","_law_style"] (Jae Ba6):=by bv_decide
def Jc2 (K:W.Frag):Sp:=fun vs H Q E=>∃ (a sd c1 c2:Addr) (ns:List Int) (st:Nat) (kv:List (Key × V)) (ls:List PD) (xs:List (SpD × List Str)),vs=[.ref a, .ref sd, .int (st:Int)]/\SqL K H a (ns.map V.int)/\ns.length<=63/\st<=3/\H sd=some (.dK kv)/\BG (·.1.f) (SNV K c1 c2 H) xs kv/\Grn st ls (xs.map (·.1))/\Nms ls xs/\Two (xs.map (·.1))/\ls.length<=8/\xs.length<=16/\xs≠[]/\∀ q gl dl gx dx es H',Same H H'->H' q=some (.tup [.ref gl, .ref dl])->H' gl=some (.lst gx)->All2 (fun (e:GD × List Str) x=>TV K H' e.1.td x) es gx->H' dl=some (.lst dx)->All2 (RWV K gl dl (spOf (xs.map (·.1))) H') es dx->(∀ e∈es,GOQ ls xs e)->(∀ (i:Nat) (e:GD × List Str),es[i]?=some e->e.1.nm=nmK 103 st i)->es.length<=6->Q (.ref q) H'
theorem Jgs (F:FunD K "_law_gaps" "_law_gaps" Ba6 dV f fd) (T:Txt K mg Ad) (Bae:Cal P w K mg base 1 "_law_cell" ["_law_script","_law_k"] [] (Jbz K)) (BaO:Cal P w K mg base 1 "_law_name" ["_law_k","_law_sign","_law_style"] [] (Jcu)) (Bam:Cal P w K mg base 1 "_law_low" ["_law_top","_law_bottom"] [] (JbN)) (Bap:Cal P w K mg base 2 "_law_plus" ["_law_one","_law_other","_law_sign"] [] (JbX K)):FnOk P w K mg base (CX1 P w) 3 f fd ["_law_script","_law_spots","_law_style"] (Jc2 K):=by
 refine F.okn Jay (by subst_eqs) (fun u6 A m5 s H vs Q E hr h=>?_)
 obtain ⟨a,sd,c1,c2,ns,st,kv,ls,xs,rfl,h⟩:=h;have R:=hr.units;refine ⟨_,(Jab (Jaj (i:=3) Jay.nd rfl (Or.inl rfl) (Ja5 Jad))
   (Jab (Jaj (i:=4) Jay.nd rfl (Or.inl rfl) (Ja5 Jad))
   (Jab (Ja1 PassesOwn.never rfl (Jdj rfl T.Bcz (Jaa (pe_op JaG (Bae.ev hr ⋯ rfl passF (Jaa (pv 0) (Jaa Jac Jad)) (he:=by exact Jaf rfl)) Jac) Jad)) (Jar (i:=5) Jay.nd rfl (Or.inl rfl))
   (Jab (Jaj (i:=6) Jay.nd rfl (Or.inl rfl) (Bae.ev hr ⋯ rfl passF (Jaa (pv 0) (Jaa (pe_op JaY Jac (pe_op JaB Jac (pv 5))) Jad)) (he:=by exact Jaf rfl)))
   (Jab (Jaj (i:=7) Jay.nd rfl (Or.inl rfl) (pe_op Jat (pe_op JaG (pe_op JaB (pv 6) Jac) Jac) Jac))
   (Jab (Jaj (i:=8) Jay.nd rfl (Or.inl rfl) (Jap (JeG rfl) rfl T.BdC JfA (Jaa (pv 1) Jad)))
   (Jab (Jaj (i:=9) Jay.nd rfl (Or.inr rfl) (pe_ix ix_U (pv 8) (pe_op JaG (pv 7) (Jap JaP rfl T.Bbe Jbd (Jaa (pv 8) Jad))) (fun _ _=>rfl)))
   (Jab (JcX (j:=10) (own:=["_law_face"]) (cs:=[(9,"_law_one"),(1,"_law_spots")]) Jay.nd rfl (Or.inl rfl) rfl (pi_U (pv 8)) (fun _ _ _ _=>(Jar (i:=0) (show [("_law_face" : Str),("_law_one" : Str),("_law_spots" : Str)].Nodup by decide) rfl (Or.inl rfl))) (fun _ _ _ _=>(PW.pt (JjS (Jax (Jlx (K:=K) rfl R) (pv 0) (pv 1) (Jaz _)) (JiA (Jax (Jlu (K:=K) rfl R) (pe_ix (ix_UK (K:=K) rfl) (Ja0 (hu1 R) (pv 2) (pv 0) (fun _ _=>rfl)) Jac (fun _ _=>rfl)) (pe_ix (ix_UK (K:=K) rfl) (Ja0 (hu1 R) (pv 2) (pv 1) (fun _ _=>rfl)) Jac (fun _ _=>rfl)) (Jaz _)))))) (fun _ _ _ _=>(pv 0)) (JdF rfl) ⋯ rfl ⋯ (hcs2 rfl rfl rfl rfl rfl rfl))
   (Jab (Jaj (i:=11) Jay.nd rfl (Or.inl rfl) (pe_ix ix_U (pv 10) (pe_op JaG (pe_op Jat (pv 7) Jac) (Jap JaP rfl T.Bbe Jbd (Jaa (pv 10) Jad))) (fun _ _=>rfl)))
   (Jab (Jaj (i:=12) Jay.nd rfl (Or.inl rfl) (Bap.ev hr ⋯ rfl passF (Jaa (pe_ix ix_U (Ja0 (hu1 R) (pv 1) (pv 11) (fun _ _=>rfl)) Jac (fun _ _=>rfl)) (Jaa (pe_ix ix_U (Ja0 (hu1 R) (pv 1) (pv 9) (fun _ _=>rfl)) Jac (fun _ _=>rfl)) (Jaa (pe_un Jf5 Jac) Jad))) (he:=by exact Jaf rfl)))
   (Jab (Jaj (i:=13) Jay.nd rfl (Or.inl rfl) (Bae.ev hr ⋯ rfl passF (Jaa (pv 0) (Jaa (pe_op JaY Jac (pe_op JaB Jac (pv 5))) Jad)) (he:=by exact Jaf rfl)))
   (Jab (Jaj (i:=14) Jay.nd rfl (Or.inl rfl) (pe_ix ix_U (Ja5 (Jaa Jac (Jaa Jac (Jaa (pe_op Jff Jac Jac) Jad)))) (pe_op JaG (pe_op Jat (pv 7) Jac) Jac) (fun _ _=>rfl)))
   (Jab (Jaj (i:=15) Jay.nd rfl (Or.inl rfl) (Bam.ev hr ⋯ rfl passF (Jaa (pe_op JaG (pv 13) (pv 14)) (Jaa (pe_op JaY Jac (pe_op JaG (pe_op Jat (pv 7) Jac) Jac)) Jad)) (he:=by exact Jaf rfl)))
   (Jab (Jaj (i:=16) Jay.nd rfl (Or.inl rfl) (Bam.ev hr ⋯ rfl passF (Jaa (pe_op JaG (pe_op Jat (pv 13) Jac) (pv 14)) (Jaa (pe_op JaY Jac (pe_op JaG (pe_op Jat (pv 7) Jac) Jac)) Jad)) (he:=by exact Jaf rfl)))
   (Jab (Ja9 (pe_bm PySem.F.plainAttrs_list PySem.F.slot_list_append PySem.F.type_list_append Ja7 (pv 3) (Jaa (JaJ (Jaa (BaO.ev hr ⋯ rfl passF (Jaa (pv 5) (Jaa JbQ (Jaa (pv 2) Jad))) (he:=by exact Jaf rfl)) (Jaa (pv 9) (Jaa (pv 11) (Jaa (Bap.ev hr ⋯ rfl passF (Jaa (pv 12) (Jaa (pv 15) (Jaa (pe_un Jf5 Jac) Jad))) (he:=by exact Jaf rfl)) (Jaa (Bap.ev hr ⋯ rfl passF (Jaa (pv 12) (Jaa (pv 16) (Jaa Jac Jad))) (he:=by exact Jaf rfl)) Jad)))))) Jad) (hs:=by exact Jaf rfl)))
   (Jab (Jaj (i:=17) Jay.nd rfl (Or.inl rfl) (pe_ix ix_U (Ja5 (Jaa (pv 16) (Jaa (pv 15) Jad))) (Jcf JfB rfl T.BdQ JgP (Jaa (Jbf Jdf (pe_op JaB (pe_ix ix_U (pv 15) Jac (fun _ _=>rfl)) (pe_ix ix_U (pv 16) Jac (fun _ _=>rfl))) (pe_op JaB (pe_ix ix_U (pv 16) Jac (fun _ _=>rfl)) (pe_ix ix_U (pv 15) Jac (fun _ _=>rfl))) (Jaz _)) Jad)) (fun _ _=>rfl)))
   (Jab (Jaj (i:=18) Jay.nd rfl (Or.inr rfl) (pe_ix ix_U (Ja0 (hu1 R) (pv 1) (pv 9) (fun _ _=>rfl)) Jac (fun _ _=>rfl)))
   (Jab (Jaj (i:=19) Jay.nd rfl (Or.inr rfl) (pe_ix ix_U (Ja0 (hu1 R) (pv 1) (pv 11) (fun _ _=>rfl)) Jac (fun _ _=>rfl)))
   (Jab (Jaj (i:=20) Jay.nd rfl (Or.inl rfl) (pe_op JaY (Jdi (own:=["_law_name_here"]) (cs:=[(19,"_law_there")]) rfl (pi_U (pv 18)) (fun _ _ _ _=>(Jar (i:=0) (show [("_law_name_here" : Str),("_law_there" : Str)].Nodup by decide) rfl (Or.inl rfl))) (fun _ _ _ _=>(Jax (JfU (K:=K) rfl) (pv 0) (pv 1) (by with_unfolding_all rfl))) (fun _ _ _ _=>(pv 0)) (JdF rfl) ⋯ rfl ⋯ (hcs1 rfl rfl rfl)) (Jdi (own:=["_law_name_here"]) (cs:=[(18,"_law_here")]) rfl (pi_U (pv 19)) (fun _ _ _ _=>(Jar (i:=0) (show [("_law_name_here" : Str),("_law_here" : Str)].Nodup by decide) rfl (Or.inl rfl))) (fun _ _ _ _=>(Jax (JfU (K:=K) rfl) (pv 0) (pv 1) (by with_unfolding_all rfl))) (fun _ _ _ _=>(pv 0)) (JdF rfl) ⋯ rfl ⋯ (hcs1 rfl rfl rfl))))
   (Jah (Ja9 (pe_bm PySem.F.plainAttrs_list PySem.F.slot_list_append PySem.F.type_list_append Ja7 (pv 4) (Jaa (JaJ (Jaa (pv 17) (Jaa (pv 20) Jad))) Jad) (hs:=by exact Jaf rfl)))))))))))))))))))))
   (Jah (Jaq (JaJ (Jaa (pv 3) (Jaa (pv 4) Jad)))))))),?_⟩
 clear R;obtain ⟨hS,hl,f7,ed,hB,hG,hM,hT,h7,u5,r1,k⟩:=h;have sl:(1000:Nat)<=sizeLine:=by decide
 have j6:(Str.ofString "g").cps=#[103]:=by decide
 have lk:=hB.length;have t9:(xs.map (·.1)).length=xs.length:=length_map ..;have t1:1<=xs.length:=by cases xs with | nil=>exact absurd rfl r1 | cons _ _=>simp
 show tSeq _ _ _ [some (.ref a),some (.ref sd),some (.int (st:Int)),none,none,none,none,none,none,none,none,none,none,none,none,none,none,none,none,none,none] H;nofun;refine ⟨len0,?_⟩;rename_i gl a7 s3 H H1 S1 e1;nofun;refine ⟨len0,?_⟩;rename_i dl c4 s6 H1 H2 S2 e2;nofun;refine ⟨a,ns,1,rfl,(hS.same S1).same S2,hl,by decide,by decide,fun c0=>?_⟩;nofun;repeat (refine And.intro (by first | exact JaV ⋯ | exact JaX ⋯ | exact JaW ⋯ | exact JaH ⋯ | exact Int.one_ne_zero | decide) ?_)
 have q0:=Mth.fm (x:=c0) (y:=7) ⋯;refine ⟨_,rfl,by ac_nf,by ac_nf,?_⟩;have i5:gl≠dl:=fun z=>by rw [<- z,e1] at c4; cases c4
 have a6:=Jda S1 c4;replace hB:=hB.mono (P':=SNV K gl dl H) fun _ _ ⟨b,w,l,U,W,h3,_,_,h6⟩=>⟨b,w,l,U,W,h3,Jai h6 a7,Jai h6 a6,h6⟩;refine ForR.byN (fun i σ H'=>∃ (v5 v6 v7 v8 v9 f0 f3 g0 i0 g2 h4 i2 f4 g3 g4 f9:Option V) (gx dx:List V) (es:List (GD × List Str)),σ=[some (.ref a),some (.ref sd),some (.int (st:Int)),some (.ref gl),some (.ref dl),v5,v6,v7,v8,v9,f0,f3,g0,i0,g2,h4,i2,f4,g3,g4,f9]/\Same H H'/\H' gl=some (.lst gx)/\All2 (fun (e:GD × List Str) x=>TV K H' e.1.td x) es gx/\H' dl=some (.lst dx)/\All2 (RWV K gl dl (spOf (xs.map (·.1))) H') es dx/\(∀ e∈es,GOQ ls xs e)/\(∀ (i:Nat) (e:GD × List Str),es[i]?=some e->e.1.nm=nmK 103 st i)/\es.length=i) ⟨none,none,none,none,none,none,none,none,none,none,none,none,none,none,none,none,[],[],[],rfl,S1.trans S2,S2 _ _ e1,rfl,e2,rfl,(fun g hg=>by cases hg),(fun i g hi=>by cases hi),rfl⟩ ?_ ?_
 ·rintro i σ H3 hi ⟨v5,v6,v7,v8,v9,f0,f3,g0,i0,g2,h4,i2,f4,g3,g4,f9,gx,dx,es,rfl,S3,eg,hX,el,hD,g8,i1,f8⟩ N0 r6;have i6:i<6:=by ac_nf
  have f5:=S3 _ _ ed;have j8:=hB.mono (P':=SNV K gl dl H3) fun _ _ z=>z.same S3;rw [Int.zero_add];nofun;repeat (refine And.intro (by first | exact JaV ⋯ | exact JaX ⋯ | exact JaW ⋯ | exact JaH ⋯ | exact Int.one_ne_zero | decide) ?_)
  refine ⟨a,ns,_,rfl,hS.same S3,hl,by ac_nf,by ac_nf,fun h0=>?_⟩;nofun;repeat (refine And.intro (by first | exact JaV ⋯ | exact JaX ⋯ | exact JaW ⋯ | exact JaH ⋯ | exact Int.one_ne_zero | decide) ?_)
  (try ((with_reducible refine Nxt.go (by assumption) ?_); nofun))
  generalize ((h0*39373).fmod 2147483629).fdiv 37=mx;refine ⟨sd,kv,xs.map (·.1.f),rfl,f5,by rw [j8.1,map_map]; rfl,by rw [length_map]; ac_nf,fun fl L j5 d0=>?_⟩;generalize u4:upd H3 fl _=H4;nofun;have S4:=newS j5 u4;have e4:=newE u4;have i3:=S4 _ _ f5;have g9:=j8.mono (P':=SNV K gl dl H4) fun _ _ z=>z.same S4;have lo:L.length=xs.length:=by rw [d0.1.length_eq,length_map]
  nofun;refine ⟨_, .inl (SqL.of e4),?_⟩;try simpa only [length_map]
  refine ⟨by ac_nf,?_⟩;have qj:=Mth.fm (x:=mx) (y:=(L.length:Int)) ∅;obtain ⟨j,hj⟩:=Int.eq_ofNat_of_zero_le qj.1;rw [hj] at qj ⊢;have jl:j<L.length:=by ac_nf
  obtain ⟨s1,J,ef⟩:=mem_map.mp (d0.1.mem_iff.mp (List.getElem_mem jl));refine ixL (i:=j) (SqL.of e4) (by rw [List.getElem?_map,List.getElem?_eq_getElem jl]; rfl) ?_;have ef:s1.1.f=L[j]:=ef;rw [<- ef];clear qj hj;nofun;obtain ⟨d,t3,o0,p9,g6,t5,w1,l1,rfl,b5,p8,l3,_,o9⟩:=g9.some (z:=s1.1.f) (mem_map.mpr ⟨s1,J,rfl⟩);have r3:=JdI hG o0 J p9;subst r3;refine ⟨fl,rfl, .inl ⟨⟨_,SqL.of e4⟩,JbO.list (xs:=L.map V.str) (fun i ys H'=>H'=H4/\∃ fs:List Str,ys=fs.map V.str/\fs.length<=i/\(∀ f∈fs, ∃ t∈xs,t.1.f=f/\t.1.f≠d.1.f/\t.1.r=d.1.r)/\(∀ t∈xs,t.1.f∈L.take i->t.1.f≠d.1.f->t.1.r=d.1.r->t.1.f∈fs)) ⟨rfl,[],rfl,Nat.zero_le _,(fun f hf=>by cases hf),fun t _ h=>by simp at h⟩ (fun i ys H' hi z=>by
   obtain ⟨rfl,fs,rfl,hf,_⟩:=z;rw [length_map] at hi ⊢;exact ⟨SqL.of e4,by ac_nf⟩) ?_ ?_⟩⟩
  ·rintro m y ys H5 S ⟨rfl,fs,rfl,i7,d1,c6⟩;have lm:=(List.getElem?_eq_some_iff.mp S).1;rw [length_map] at lm;rw [List.getElem?_map,List.getElem?_eq_getElem lm] at S;have S:y=.str L[m]:=(Option.some.inj S).symm;subst S;obtain ⟨t,ht,c8⟩:=mem_map.mp (d0.1.mem_iff.mp (List.getElem_mem lm));have c8:t.1.f=L[m]:=c8;rw [<- c8];obtain ⟨o,vt,f1,h9,c9,r0,wt,lt,rfl,a5,k7,_⟩:=g9.some (z:=t.1.f) (mem_map.mpr ⟨t,ht,rfl⟩);have et:=JdI hG f1 ht h9;subst et;have d5:∀ (u:SpD × List Str),u∈xs->u.1.f∈L.take (m+1)->u.1.f∈L.take m\/u=o:=fun u R h=>by
    rw [take_succ,List.getElem?_eq_getElem lm] at h;rcases mem_append.mp h with h | h
    ·exact .inl h
    ·have : u.1.f=L[m]:=by simpa using h
     exact .inr (JdI hG R ht (this.trans c8.symm))
   simpa only [length_singleton,length_cons,length_nil,List.replicate,JaD,map_cons,map_nil,Option.join_some];have e3:(¬ (o.1.f≠d.1.f/\o.1.r=d.1.r))->∃ fs_1:List Str,fs.map V.str=fs_1.map V.str/\fs_1.length<=m+1/\(∀ f∈fs_1, ∃ t∈xs,t.1.f=f/\t.1.f≠d.1.f/\t.1.r=d.1.r)/\∀ t∈xs,t.1.f∈L.take (m+1)->t.1.f≠d.1.f->t.1.r=d.1.r->t.1.f∈fs_1:=fun o4=>⟨fs,rfl,by ac_nf,d1,fun u R hk U W=>by
    rcases d5 u R hk with h | rfl
    ·exact c6 u R h U W
    ·exact absurd ⟨U,W⟩ o4⟩
   by_cases c1:o.1.f=d.1.f
   ·rw [if_neg (by simpa using c1)];nofun;exact e3 fun h=>h.1 c1
   ·rw [if_pos (by simpa using c1)];nofun;refine ⟨sd,_,rfl,by rw [<- c9]; exact DGet.k (k:=Sum.inr o.1.f) i3,?_⟩;refine ixT (i:=0) a5 rfl ?_;refine ⟨sd,_,rfl,by rw [<- g6]; exact DGet.k (k:=Sum.inr d.1.f) i3,?_⟩;refine ixT (i:=0) b5 rfl ?_;nofun;by_cases c2:o.1.r=d.1.r
    ·rw [if_pos (by simpa using c2)];nofun;refine ⟨fs++[o.1.f],by simp,by simp; ac_nf,fun f hf=>?_,fun u R hk U W=>?_⟩
     ·rcases mem_append.mp hf with h | h
      ·exact d1 f h
      ·rw [mem_singleton.mp h];exact ⟨o,ht,rfl,c1,c2⟩
     ·rcases d5 u R hk with h | rfl
      ·exact mem_append.mpr (.inl (c6 u R h U W))
      ·simp
    ·rw [if_neg (by simpa using c2)];nofun;exact e3 fun h=>c2 h.2
  ·rintro ys H5 ⟨rfl,fs,rfl,i7,d1,c6⟩;have t7:1<=fs.length:=by
    obtain ⟨t0,n4,U,W⟩:=hT d.1 (mem_map.mpr ⟨d,J,rfl⟩);obtain ⟨t,ht,rfl⟩:=mem_map.mp n4;have:=c6 t ht (by rw [take_of_length_le (by rw [length_map]; ac_nf)]; exact d0.1.mem_iff.mpr (mem_map.mpr ⟨t,ht,rfl⟩)) U W;cases fs with
    | nil=>cases this
    | cons _ _=>simp
   rw [length_map] at i7;rename_i t6 l5 q8 H5 H6 S6 e6;nofun;nofun;repeat (refine And.intro (by first | exact JaV ⋯ | exact JaX ⋯ | exact JaW ⋯ | exact JaH ⋯ | exact Int.one_ne_zero | decide) ?_)
   refine ⟨_, .inl (SqL.of e6),?_⟩;try simpa only [length_map]
   refine ⟨by ac_nf,?_⟩;have qk:=Mth.fm (x:=mx.fdiv 64) (y:=(fs.length:Int)) ∅;obtain ⟨j2,q1⟩:=Int.eq_ofNat_of_zero_le qk.1;rw [q1] at qk ⊢;have j1:j2<fs.length:=by ac_nf
   obtain ⟨t,ht,h9,p1,l4⟩:=d1 _ (List.getElem_mem j1);refine ixL (i:=j2) (SqL.of e6) (by rw [List.getElem?_map,List.getElem?_eq_getElem j1]; rfl) ?_;rw [<- h9];obtain ⟨o,vt,f1,j9,c9,r0,wt,l2,rfl,a5,k7,n9,_,p7⟩:=g9.some (z:=t.1.f) (mem_map.mpr ⟨t,ht,rfl⟩);have et:=JdI hG f1 ht j9;subst et;nofun;have i8:=S6 _ _ i3;refine ⟨sd,_,rfl,by rw [<- c9]; exact DGet.k (k:=Sum.inr o.1.f) i8,?_⟩;refine ixT (i:=1) (a5.same S6) rfl ?_;refine ⟨sd,_,rfl,by rw [<- g6]; exact DGet.k (k:=Sum.inr d.1.f) i8,?_⟩;refine ixT (i:=1) (b5.same S6) rfl ?_;nofun;have tb:FB 174 33 o.1.p:=(hM.fb o ht).mono ∅ ∅;have sb:FB 174 33 d.1.p:=(hM.fb d J).mono ∅ ∅;refine ⟨wt,w1,_,o.1.p,d.1.p,false,rfl,rfl,k7.same S6,p8.same S6,tb.w.mono ∅ ∅,sb.w.mono ∅ ∅,fun mp H7 S7 e7=>?_⟩;have n5:=hG.pl_at (mem_map.mpr ⟨o,ht,rfl⟩);have m7:=hG.pl_at (mem_map.mpr ⟨d,J,rfl⟩);have mb:FB 208 66 (addF o.1.p (sgn false d.1.p)):=FB.add (n:=207) (m:=66) tb sb.neg ⋯ ⋯ ⋯;have p5:∀ (g:GD),g.st=d.1.f->g.en=o.1.f->mid (spOf (xs.map (·.1))) g=addF o.1.p (sgn false d.1.p):=fun g U W=>by
    unfold mid;rw [U,W,n5,m7];rfl
   generalize addF o.1.p (sgn false d.1.p)=m at *;nofun;repeat (refine And.intro (by first | exact JaV ⋯ | exact JaX ⋯ | exact JaW ⋯ | exact JaH ⋯ | exact Int.one_ne_zero | decide) ?_)
   have k8:=S4.trans (S6.trans S7);refine ⟨a,ns,_,rfl,(hS.same S3).same k8,hl,by ac_nf,by ac_nf,fun v=>?_⟩;nofun;repeat (refine And.intro (by first | exact JaV ⋯ | exact JaX ⋯ | exact JaW ⋯ | exact JaH ⋯ | exact Int.one_ne_zero | decide) ?_)
   rename_i t8 r7 q6 H7 u2 d4 n8;nofun;repeat (refine And.intro (by first | exact JaV ⋯ | exact JaX ⋯ | exact JaW ⋯ | exact JaH ⋯ | exact Int.one_ne_zero | decide) ?_)
   have q3:=Mth.fm (x:=mx.fdiv 256) (y:=3) ⋯;obtain ⟨n3,i9⟩:=Int.eq_ofNat_of_zero_le q3.1;rw [i9] at q3 ⊢;obtain ⟨om,m0,o1,o2⟩:∃ om:Int,[V.int 23, .int 23, .int 1000000000000000000000000000000][n3]?=some (.int om)/\1<=om/\om<=1000000000000000000000000000000:=JlD ∅;refine ixL (i:=n3) (SqL.of n8) m0 ?_;clear q3 i9;nofun;have qx:=Mth.fm (x:=v) (y:=om) ∅;have qy:=Mth.fm (x:=v.fdiv 23) (y:=om) ∅;have qd:=Mth.fm (x:=mx.fdiv 1024) (y:=5) ⋯;have q7:=Mth.fm (x:=mx.fdiv 8192) (y:=5) ⋯;refine ⟨by ac_nf,?_⟩;repeat (refine And.intro (by first | exact JaV ⋯ | exact JaX ⋯ | exact JaW ⋯ | exact JaH ⋯ | exact Int.one_ne_zero | decide) ?_)
   refine ⟨_,_,rfl,by ac_nf, .lit ∅ ∅,fun bp H8 S8 e8=>?_⟩;nofun;repeat (refine And.intro (by first | exact JaV ⋯ | exact JaX ⋯ | exact JaW ⋯ | exact JaH ⋯ | exact Int.one_ne_zero | decide) ?_)
   refine ⟨by ac_nf,?_⟩;nofun;repeat (refine And.intro (by first | exact JaV ⋯ | exact JaX ⋯ | exact JaW ⋯ | exact JaH ⋯ | exact Int.one_ne_zero | decide) ?_)
   refine ⟨_,_,rfl,by ac_nf, .lit ∅ ∅,fun ap H9 S9 e9=>?_⟩;have bb:FB 101 3 (Mth.top (v.fmod om) (1+(mx.fdiv 1024).fmod 5),Mth.bot (v.fmod om) (1+(mx.fdiv 1024).fmod 5)):=FB.low ∅ (.lit ∅ ∅) (.lit ∅ ∅);have ab:FB 101 3 (Mth.top ((v.fdiv 23).fmod om) (1+(mx.fdiv 8192).fmod 5),Mth.bot ((v.fdiv 23).fmod om) (1+(mx.fdiv 8192).fmod 5)):=FB.low ∅ (.lit ∅ ∅) (.lit ∅ ∅);have nB:0<=vl (Mth.top (v.fmod om) (1+(mx.fdiv 1024).fmod 5),Mth.bot (v.fmod om) (1+(mx.fdiv 1024).fmod 5)):=(vl_nn bb.b1).mpr (JiT qx.1 ∅);have nA:0<=vl (Mth.top ((v.fdiv 23).fmod om) (1+(mx.fdiv 8192).fmod 5),Mth.bot ((v.fdiv 23).fmod om) (1+(mx.fdiv 8192).fmod 5)):=(vl_nn ab.b1).mpr (JiT qy.1 ∅);obtain ⟨B,k2⟩:∃ B:Fr2,B=(Mth.top (v.fmod om) (1+(mx.fdiv 1024).fmod 5),Mth.bot (v.fmod om) (1+(mx.fdiv 1024).fmod 5)):=⟨_,rfl⟩;obtain ⟨A,k1⟩:∃ A:Fr2,A=(Mth.top ((v.fdiv 23).fmod om) (1+(mx.fdiv 8192).fmod 5),Mth.bot ((v.fdiv 23).fmod om) (1+(mx.fdiv 8192).fmod 5)):=⟨_,rfl⟩;rw [<- k2] at bb nB;rw [<- k1] at ab nA;have eb:H9 bp=some (.tup [.int B.1, .int B.2]):=by rw [S9 _ _ e8,k2]
   have ea:H9 ap=some (.tup [.int A.1, .int A.2]):=by rw [e9,k1]
   clear qx qy qd q7 o1 o2;have fB:=bb;have fA:=ab;have m8:0<=vl A+vl B:=by grind
   have j4:=k8.trans (d4.trans (S8.trans S9));have j0:=S9 _ _ (S8 _ _ (d4 _ _ e7));have u7:=hX.length;have u3:=hD.length;nofun;refine ⟨.inl ⟨rfl,_,SqL.of (j4 _ _ eg)⟩,?_⟩;refine ⟨_,_,_,103,i,rfl,j6,rfl,by ac_nf,by ac_nf,by ac_nf,?_⟩;rw [Int.toNat_natCast];nofun;refine ⟨.ref mp, .ref bp,_,m,B,false,rfl,rfl,FrV.of j0,FrV.of eb,mb.w.mono ⋯ ⋯,fB.w.mono ⋯ ⋯,fun lp u1 b0 l7=>?_⟩;nofun;refine ⟨.ref mp, .ref ap,_,m,A,true,rfl,rfl,FrV.of (b0 _ _ j0),FrV.of (b0 _ _ ea),mb.w.mono ⋯ ⋯,fA.w.mono ⋯ ⋯,fun hp n0 b6 q4=>?_⟩;nofun;refine ⟨len5,?_⟩;rename_i gt s5 s0 n0 c7 a9 p0;nofun;have N:=j4.trans (b0.trans (b6.trans a9));refine ⟨gl,gx,_,rfl,rfl,N _ _ eg,by ac_nf,?_⟩;generalize f2:upd c7 gl _=a1;nofun;have k0:a1 gl=some (.lst (gx++[.ref gt])):=putE f2;have d3:SameT c7 a1:=SameT.put f2 (N _ _ eg) rfl;have X:∀ b u,b≠gl->c7 b=some u->a1 b=some u:=fun b u hb h=>by rw [<- f2,Jag hb]; exact h
   have d6:=X _ _ (Ne.symm i5) (N _ _ el);have d8:SameT H9 a1:=(b0.trans (b6.trans a9)).t.trans d3;have b7:FrV K a1 (.ref bp) B.1 B.2:=FrV.of (d8 _ _ rfl eb);have b4:FrV K a1 (.ref ap) A.1 A.2:=FrV.of (d8 _ _ rfl ea);nofun;refine ⟨len2,?_⟩;rename_i rl s8 s9 a1 a4 I o3;nofun;refine ixF0 (b7.same I) (ixF1 (b4.same I) ?_);nofun;refine ⟨mulOk fB.s1 fA.s2,ixF0 (b4.same I) (ixF1 (b7.same I) ?_)⟩;nofun;refine ⟨mulOk fA.s1 fB.s2,?_⟩;nofun;refine .inr ⟨_,rfl,?_⟩;have p4:∃ (rv:V) (n2:Nat),(if decide (B.1*A.2<A.1*B.2)=true then (1:Int) else 0)=(n2:Int)/\[V.ref ap, .ref bp][n2]?=some rv/\FrV K a4 rv (if lessF B A then B else A).1 (if lessF B A then B else A).2:=by
    unfold lessF;by_cases c:decide (B.1*A.2<A.1*B.2)=true
    ·rw [if_pos c,if_pos c];nofun;exact ⟨.ref bp,1,rfl,rfl,b7.same I⟩
    ·rw [if_neg c,if_neg c];nofun;exact ⟨.ref ap,0,rfl,rfl,b4.same I⟩
   obtain ⟨rv,n2,r5,r8,q2⟩:=p4;rw [r5];refine ixL (i:=n2) (SqL.of o3) r8 ?_;nofun;have l9:sd≠gl:=fun z=>by rw [z] at ed; rw [ed] at a7; cases a7
   have t2:sd≠dl:=fun z=>by rw [z] at ed; rw [ed] at a6; cases a6
   have j7:=X _ _ l9 (N _ _ f5);have e0:=I _ _ j7;have e5:SameT H5 a4:=(S6.trans (S7.trans (d4.trans (S8.trans (S9.trans (b0.trans (b6.trans a9))))))).t.trans (d3.trans I.t);refine ⟨sd,_,rfl,by rw [<- g6]; exact DGet.k (k:=Sum.inr d.1.f) e0,?_⟩;refine ixT (i:=2) (b5.sameT e5) rfl ?_;nofun;refine ⟨sd,_,rfl,by rw [<- c9]; exact DGet.k (k:=Sum.inr o.1.f) e0,?_⟩;refine ixT (i:=2) (a5.sameT e5) rfl ?_;nofun;have g1:Same a4 a4:=Same.refl _;have d7:=S6.trans (S7.trans (d4.trans (S8.trans (S9.trans (b0.trans (b6.trans a9))))));have k6:l1≠gl:=l3;have b2:a4 l1=some (.lst (d.2.map V.str)):=I _ _ (X _ _ k6 (d7 _ _ o9));have k3:l2≠gl:=n9;have b9:a4 l2=some (.lst (o.2.map V.str)):=I _ _ (X _ _ k3 (d7 _ _ p7));have m2:=hM.ln d J;have o5:=hM.ln o ht;refine ⟨l1,rfl, .inl ⟨⟨_,SqL.of b2⟩,JbO.list (xs:=d.2.map V.str) (fun i ys H'=>H'=a4/\ys=((d.2.take i).filter (fun n=>decide (n∉o.2))).map V.str) ⟨rfl,rfl⟩ (fun i ys H' hi z=>⟨by rw [z.1]; exact SqL.of b2,by rw [z.2,length_map]; exact Nat.le_trans (length_filter_le _ _) (by rw [length_take]; have:=m2; ac_nf)⟩) ?_ ?_⟩⟩
   ·rintro m y ys H' S ⟨rfl,rfl⟩;have lm:=(List.getElem?_eq_some_iff.mp S).1;rw [length_map] at lm;rw [List.getElem?_map,List.getElem?_eq_getElem lm] at S;obtain ⟨n,hn⟩:∃ n,n=d.2[m]:=⟨_,rfl⟩;rw [<- hn] at S;have S:y=.str n:=(Option.some.inj S).symm;subst S;simpa only [length_singleton,length_cons,length_nil,List.replicate,JaD,map_cons,map_nil,Option.join_some];refine ⟨l2,_,rfl, .inl (SqL.of b9),rfl,JdZ _,?_⟩;rw [JdP];rw [take_succ,List.getElem?_eq_getElem lm, <- hn,filter_append];by_cases cn:n∈o.2
    ·rw [decide_eq_true cn];nofun;simp [cn]
    ·rw [decide_eq_false cn];nofun;simp [cn]
   ·rintro ys H' ⟨rfl,rfl⟩;rw [take_of_length_le (by rw [length_map]; exact Nat.le_refl _)];rename_i h0 r2 m6 H' n6 a3 p6;nofun;nofun;refine ⟨l2,rfl, .inl ⟨⟨_,SqL.of (a3 _ _ b9)⟩,JbO.list (xs:=o.2.map V.str) (fun i ys H'=>H'=n6/\ys=((o.2.take i).filter (fun n=>decide (n∉d.2))).map V.str) ⟨rfl,rfl⟩ (fun i ys H' hi z=>⟨by rw [z.1]; exact SqL.of (a3 _ _ b9),by rw [z.2,length_map]; exact Nat.le_trans (length_filter_le _ _) (by rw [length_take]; have:=o5; ac_nf)⟩) ?_ ?_⟩⟩
    ·rintro m y ys H' S ⟨rfl,rfl⟩;have lm:=(List.getElem?_eq_some_iff.mp S).1;rw [length_map] at lm;rw [List.getElem?_map,List.getElem?_eq_getElem lm] at S;obtain ⟨n,hn⟩:∃ n,n=o.2[m]:=⟨_,rfl⟩;rw [<- hn] at S;have S:y=.str n:=(Option.some.inj S).symm;subst S;simpa only [length_singleton,length_cons,length_nil,List.replicate,JaD,map_cons,map_nil,Option.join_some];refine ⟨l1,_,rfl, .inl (SqL.of (a3 _ _ b2)),rfl,JdZ _,?_⟩;rw [JdP];rw [take_succ,List.getElem?_eq_getElem lm, <- hn,filter_append];by_cases cn:n∈d.2
     ·rw [decide_eq_true cn];nofun;simp [cn]
     ·rw [decide_eq_false cn];nofun;simp [cn]
    ·rintro ys H' ⟨rfl,rfl⟩;rw [take_of_length_le (by rw [length_map]; exact Nat.le_refl _)];rename_i v n7 l6 H' q9 c3 n1;nofun;refine .inl ⟨h0,v,_,_,rfl,rfl,c3 _ _ p6,n1,by
      simp only [length_map];have U:=length_filter_le (fun n=>decide (n∉o.2)) d.2;have W:=length_filter_le (fun n=>decide (n∉d.2)) o.2;ac_nf,?_⟩
     rename_i nl Y s4 q9 p3 l0 o7;nofun;nofun;have b3:=I.trans (g1.trans (a3.trans (c3.trans l0)));have c5:=b3 _ _ d6;refine ⟨.inl ⟨rfl,_,SqL.of c5⟩,?_⟩;nofun;refine ⟨len2,?_⟩;rename_i np r9 s7 p3 h8 b8 p2;nofun;refine ⟨dl,dx,_,rfl,rfl,b8 _ _ c5,by ac_nf,?_⟩;generalize f6:upd h8 dl _=a0;nofun;have q5:=putE f6;have d2:SameT h8 a0:=SameT.put f6 (b8 _ _ c5) rfl;have a8:∀ b u,b≠dl->h8 b=some u->a0 b=some u:=fun b u hb h=>by rw [<- f6,Jag hb]; exact h
     have O:=b3.trans b8;have d9:SameT H3 a0:=N.t.trans (d3.trans (O.t.trans d2));have a2:SameT c7 a0:=d3.trans (O.t.trans d2);have W320:Same2 gl dl H3 a0:=fun b u U W h=>a8 _ _ W (O _ _ (X _ _ U (N _ _ h)));have m4:nl≠gl:=fun z=>by rw [z] at Y; rw [c3 _ _ (a3 _ _ (g1 _ _ (I _ _ k0)))] at Y; cases Y
     have k4:nl≠dl:=fun z=>by rw [z] at Y; rw [c3 _ _ (a3 _ _ (g1 _ _ (I _ _ d6)))] at Y; cases Y
     nofun;have sy:=JlL (hM.nd d J) (hM.nd o ht);obtain ⟨Z,hZ⟩:∃ Z,Z=d.2.filter (fun n=>decide (n∉o.2))++o.2.filter (fun n=>decide (n∉d.2)):=⟨_,rfl⟩;rw [<- hZ] at sy;have i4:FB 212 69 (addF m (sgn false B)):=FB.add (n:=211) (m:=69) mb fB.neg ⋯ ⋯ ⋯;have h5:FB 212 69 (addF m (sgn true A)):=FB.add (n:=211) (m:=69) mb fA ⋯ ⋯ ⋯;have g7:nameS (nmK 103 st i)=true:=JdR ⋯ f7 ∅;have r4:d.1.f∈(xs.map (·.1)).map (·.f):=mem_map.mpr ⟨d.1,mem_map.mpr ⟨d,J,rfl⟩,rfl⟩;have l8:o.1.f∈(xs.map (·.1)).map (·.f):=mem_map.mpr ⟨o.1,mem_map.mpr ⟨o,ht,rfl⟩,rfl⟩;obtain ⟨G,M⟩:∃ G:GD,G=⟨nmK 103 st i,d.1.f,o.1.f,addF m (sgn false B),addF m (sgn true A)⟩:=⟨_,rfl⟩;have o6:TOk G.td:=by
      rw [M];exact ⟨g7,hG.fname f7 ∅ (mem_map.mpr ⟨d,J,rfl⟩),hG.fname f7 ∅ (mem_map.mpr ⟨o,ht,rfl⟩),Ne.symm p1,fun u R=>by cases R; exact (i4.mono (C:=600) (D:=600) ⋯ ⋯).ok ⋯ ⋯,fun u R=>by cases R; exact (h5.mono (C:=600) (D:=600) ⋯ ⋯).ok ⋯ ⋯,hi_lo mb fA fB m8⟩
     have k9:=p5 G (by rw [M]) (by rw [M]);have g5:roomF (spOf (xs.map (·.1))) G=if lessF B A then B else A:=by
      unfold roomF;rw [k9,M];have U:addF (addF m (sgn true A)) (negF m)=A:=Jj9 mb fA;have W:addF m (negF (addF m (sgn false B)))=B:=Jka mb fB;show (if lessF (addF (addF m (sgn true A)) (negF m)) (addF m (negF (addF m (sgn false B)))) then addF (addF m (sgn true A)) (negF m) else addF m (negF (addF m (sgn false B))))=_;rw [U,W];exact Jjw fA fB
     have m9:GOQ ls xs (G,Z):=by
      refine ⟨o6,?_,⟨sy.1,fun x hx y S U W n=>?_⟩,?_,?_,?_,?_,?_,fun n hn=>?_⟩
      ·rw [M]; exact hG.joined (mem_map.mpr ⟨d,J,rfl⟩) (mem_map.mpr ⟨o,ht,rfl⟩) l4.symm
      ·have U:x.1.f=d.1.f:=by rw [M] at U; exact U
       have W:y.1.f=o.1.f:=by rw [M] at W; exact W
       have ex:=JdI hG hx J U;have ey:=JdI hG S ht W;rw [ex,ey];exact sy.2 n
      ·show FB 101 3 (roomF _ G);rw [g5];split
       ·exact fB
       ·exact fA
      ·show 0<=vl (roomF _ G);rw [g5];split
       ·exact nB
       ·exact nA
      ·rw [M];exact ⟨⟨i4.b1,i4.s2.mono ⋯⟩,h5.b1,h5.s2.mono ⋯⟩
      ·rw [M]; exact r4
      ·rw [M]; exact l8
      ·have : n∈Z:=hn;rw [hZ] at this;rcases mem_append.mp this with h | h
       ·exact hM.sub d J n (mem_filter.mp h).1
       ·exact hM.sub o ht n (mem_filter.mp h).1
     refine r6 _ _ ⟨_,_,_,_,_,_,_,_,_,_,_,_,_,_,_,_,gx++[.ref gt],dx++[.ref np],es++[(G,Z)],rfl,fun b w h=>a8 _ _ (Jai h a6) (O _ _ (X _ _ (Jai h a7) (N _ _ (S3 _ _ h)))),a8 _ _ i5 (O _ _ k0),?_,q5,?_,?_,?_,by simp [f8]⟩
     ·have j3:All2 (fun (e:GD × List Str) x=>TV K a0 e.1.td x) es gx:=hX.mono fun a x (z:TV K H3 a.1.td x)=>TV.sameT d9 z;refine j3.append (.one ?_);rw [M];exact ⟨gt, .ref lp, .ref hp,rfl,SqT.of (a2 _ _ rfl p0),FrV.of (a2 _ _ rfl (a9 _ _ (b6 _ _ l7))),FrV.of (a2 _ _ rfl (a9 _ _ q4))⟩
     ·have k5:All2 (RWV K gl dl (spOf (xs.map (·.1))) a0) es dx:=hD.mono fun a x z=>RWV.keep d9 W320 z;refine k5.append (.one ⟨np,rv,nl,rfl,SqT.of (d2 _ _ rfl p2),?_,m4,k4,?_⟩)
      ·show FrV K a0 rv (roomF _ G).1 (roomF _ G).2;rw [g5];exact ((FrV.same (a3.trans (c3.trans (l0.trans b8))) q2)).sameT d2
      ·rw [a8 _ _ k4 (b8 _ _ o7),hZ,map_append]
     ·intro e he;rcases mem_append.mp he with h' | h'
      ·exact g8 e h'
      ·rw [mem_singleton.mp h'];exact m9
     ·intro j' e m3;rcases Jbo m3 with h' | ⟨rfl,rfl⟩
      ·exact i1 j' e h'
      ·rw [f8,M]
 ·rintro σ H3 ⟨v5,v6,v7,v8,v9,f0,f3,g0,i0,g2,h4,i2,f4,g3,g4,f9,gx,dx,es,rfl,S3,eg,hX,el,hD,g8,i1,f8⟩;nofun;refine ⟨len2,?_⟩;rename_i q t4 u0 H3 H4 S4 e4;nofun;have m1:All2 (fun (e:GD × List Str) x=>TV K H4 e.1.td x) es gx:=hX.mono fun a x (z:TV K H3 a.1.td x)=>TV.sameT S4.t z;have o8:All2 (RWV K gl dl (spOf (xs.map (·.1))) H4) es dx:=hD.mono fun a x z=>RWV.same S4 z;exact k q gl dl gx dx es H4 (S3.trans S4) e4 (S4 _ _ eg) m1 (S4 _ _ el) o8 g8 i1 ∅
abbrev BaX:Stmt:=top 58
theorem Jf0:Jan ["_law_found"] ["_law_found"] (Jae BaX):=by bv_decide
def JcI  : Sp:=fun vs H Q E=>∃ (n:Int),vs=[.int n]/\Q (.bl true) H
theorem JfS (F:FunD K "_law_whole" "_law_whole" BaX dV f fd) (T:Txt K mg Ad)  : FnOk P w K mg base (CX1 P w) 1 f fd ["_law_found"] (JcI):=by
 refine F.okn Jf0 (by subst_eqs) (fun c A a s H b Q E d h=>?_)
 obtain ⟨n,rfl,h⟩:=h;refine ⟨_,(Jah (Jaq (Jb3 (Jap Jau rfl T.Baf JaC (Jaa (pv 0) (Jaa (JbE (v:=.ty "int") rfl T.BdQ JgP rfl) Jad))) (JcU (Jg6 (Jap Jau rfl T.Baf JaC (Jaa (pv 0) (Jaa (JbE (v:=.ty "bool") rfl T.BdX JhK rfl) Jad)))))))),?_⟩;show tRet _ _ [some (.int n)] H;nofun;exact h
abbrev BaQ:Stmt:=top 59
theorem JbK:Jan ["_law_told","_law_parts_here","_law_by_name","_law_k","_law_slack"] ["_law_told","_law_parts_here"] (Jae BaQ):=by bv_decide
def Jcv (K:W.Frag):Sp:=fun vs H Q E=>∃ (tl pl:Addr) (zs px:List V) (rs:List ShD) (ks:List PD),vs=[.ref tl, .ref pl]/\SqL K H tl zs/\All2 (ShV K H) rs zs/\SqL K H pl px/\All2 (PDV K H) ks px/\rs.map (·.nm)=ks.map (·.nm)/\(ks.map (·.nm)).Nodup/\(∀ r∈rs,FB 800 600 r.sl)/\ks.length<=12/\∀ (d:Addr) (kv:List (Key × V)) (H':Hp),Same H H'->H' d=some (.dK kv)->BG (·.nm) (fun r v=>FLV K H' r.sl v) rs kv->Q (.ref d) H'
theorem Jfb (F:FunD K "_law_slacks" "_law_slacks" BaQ dV f fd) (T:Txt K mg Ad) (BbA:Cal P w K mg base 1 "_law_whole" ["_law_found"] [] (JcI)) (Bam:Cal P w K mg base 1 "_law_low" ["_law_top","_law_bottom"] [] (JbN)):FnOk P w K mg base (CX1 P w) 2 f fd ["_law_told","_law_parts_here"] (Jcv K):=by
 refine F.okn JbK (by subst_eqs) (fun a7 A a4 s H vs Q E l h=>?_)
 obtain ⟨tl,U,zs,px,m,D,rfl,h⟩:=h;have x:=l.units;refine ⟨_,(Jab (ps_if (PW.pt (pw_or (Jbe (Ja2 (Jap Jau rfl T.Baf JaC (Jaa (pv 0) (Jaa (JbE (v:=.ty "list") rfl T.BdB JeV rfl) Jad))))) (JbJ (Jax (Jce x) (Jap JaP rfl T.Bbe Jbd (Jaa (pv 0) Jad)) (Jap JaP rfl T.Bbe Jbd (Jaa (pv 1) Jad)) (Jaz _)))))
   (Jah (Jaq JcC))
   JaA)
   (Jab (Jaj (i:=2) JbK.nd rfl (Or.inl rfl) JbA)
   (Jab (Ja1 PassesOwn.never rfl (Jdj rfl T.Bcz (Jaa (Jap JaP rfl T.Bbe Jbd (Jaa (pv 1) Jad)) Jad)) (Jar (i:=3) JbK.nd rfl (Or.inl rfl))
   (Jab (ps_if (PW.pt (pw_or (Jbe (Ja2 (Jap Jau rfl T.Baf JaC (Jaa (pe_ix ix_U (pv 0) (pv 3) (fun _ _=>rfl)) (Jaa (JbE (v:=.ty "tuple") rfl T.Bco JcM rfl) Jad))))) (pw_or (Jax (Jce x) (Jap JaP rfl T.Bbe Jbd (Jaa (pe_ix ix_U (pv 0) (pv 3) (fun _ _=>rfl)) Jad)) Jac (Jaz _)) (JbJ (Jax (Jce x) (pe_ix ix_U (pe_ix ix_U (pv 0) (pv 3) (fun _ _=>rfl)) Jac (fun _ _=>rfl)) (pe_ix ix_U (pe_ix ix_U (pv 1) (pv 3) (fun _ _=>rfl)) Jac (fun _ _=>rfl)) (Jaz _))))))
   (Jah (Jaq JcC))
   JaA)
   (Jab (Jaj (i:=4) JbK.nd rfl (Or.inl rfl) (pe_ix ix_U (pe_ix ix_U (pv 0) (pv 3) (fun _ _=>rfl)) Jac (fun _ _=>rfl)))
   (Jab (ps_if (PW.pt (pw_or (Jbe (Ja2 (Jap Jau rfl T.Baf JaC (Jaa (pv 4) (Jaa (JbE (v:=.ty "tuple") rfl T.Bco JcM rfl) Jad))))) (pw_or (Jax (Jce x) (Jap JaP rfl T.Bbe Jbd (Jaa (pv 4) Jad)) Jac (Jaz _)) (pw_or (Jbe (Ja2 (BbA.ev l ⋯ rfl passF (Jaa (pe_ix ix_U (pv 4) Jac (fun _ _=>rfl)) Jad) (he:=by exact Jaf rfl)))) (JbJ (Jbe (Ja2 (BbA.ev l ⋯ rfl passF (Jaa (pe_ix ix_U (pv 4) Jac (fun _ _=>rfl)) Jad) (he:=by exact Jaf rfl)))))))))
   (Jah (Jaq JcC))
   JaA)
   (Jab (ps_if (PW.pt (pw_or (Jax Jdf (pe_ix ix_U (pv 4) Jac (fun _ _=>rfl)) Jac (Jaz _)) (pw_or (Jax (Jce x) (pv 4) (Bam.ev l ⋯ rfl passF (Jaa (pe_ix ix_U (pv 4) Jac (fun _ _=>rfl)) (Jaa (pe_ix ix_U (pv 4) Jac (fun _ _=>rfl)) Jad)) (he:=by exact Jaf rfl)) (Jaz _)) (JbJ (Jbe (Ja2 (Jap Jau rfl T.Baf JaC (Jaa (pe_ix ix_U (pe_ix ix_U (pv 0) (pv 3) (fun _ _=>rfl)) Jac (fun _ _=>rfl)) (Jaa (JbE (v:=.ty "tuple") rfl T.Bco JcM rfl) Jad)))))))))
   (Jah (Jaq JcC))
   JaA)
   (Jah (JbR (hu1 x) (pv 2) (pe_ix ix_U (pe_ix ix_U (pv 0) (pv 3) (fun _ _=>rfl)) Jac (fun _ _=>rfl)) (pv 4) rfl)))))))
   (Jah (Jaq (pv 2)))))),?_⟩
 clear x;obtain ⟨S,hZ,X,hK,o,a3,a0,a8,k⟩:=h;have sz:(1000:Nat)<=sizeLine:=by decide
 have lZ:=hZ.length;have lK:=hK.length;have a9:m.length=D.length:=by simpa using congrArg List.length o
 show tSeq _ _ _ [some (.ref tl),some (.ref U),none,none,none] H;nofun;refine ⟨"list", .inl ⟨rfl,_,S⟩,?_⟩;rw [show (!isiB "list" "list")=false from rfl,if_neg ⋯];refine ⟨_, .inl S,?_⟩;refine ⟨_, .inl X,?_⟩;nofun;rw [show (!decide ((zs.length:Int)=(px.length:Int)))=false by rw [decide_eq_true ∅]; rfl,if_neg ⋯]
 (try ((with_reducible refine Nxt.go (by assumption) ?_); nofun))
 rename_i C I a6 H H1 S1 e1;nofun;nofun;refine ⟨_, .inl (X.same S1),?_⟩;nofun;refine ⟨_,rfl,by ac_nf,by ac_nf,?_⟩;refine ForR.byN (fun i σ Z=>∃ (W O:Option V) (L:List (Key × V)),σ=[some (.ref tl),some (.ref U),some (.ref C),W,O]/\Same H Z/\Z C=some (.dK L)/\BG (·.nm) (fun r v=>FLV K Z r.sl v) (m.take i) L) ⟨none,none,[],rfl,S1,e1,⟨rfl,rfl⟩⟩ ?_ ?_
 ·rintro i σ H2 hi ⟨W,O,L,rfl,n,j,J⟩ N0 a2;have ir:i<m.length:=by ac_nf
  have l:=List.getElem?_eq_getElem ir;have hp:=List.getElem?_eq_getElem (by ac_nf:i<D.length);obtain ⟨z,B,pr,vs,tt,rfl,a5,N,a1⟩:=hZ.get l;obtain ⟨y,hy,a_,vz,vm,rfl,hb,_,hm⟩:=hK.get hp;have en:m[i].nm=D[i].nm:=by
   have:=congrArg (·[i]?) o;simp only [List.getElem?_map,l,hp] at this;exact Option.some.inj this
  have fb:=a0 _ (List.getElem_mem ir);have nw:m[i].nm∉(m.take i).map (·.nm):=by
   have Y:(m.map (·.nm)).Nodup:=o ▸ a3;rw [List.map_take];exact JgN Y (by rw [List.getElem?_map,l]; rfl)
  have ls:=Jjb fb.lo;generalize m[i]=r at *;generalize D[i]=p at *;have lk:=J.length;rw [length_take] at lk;have e:=S.same n;have d:=a5.same n;have b:=N.same n;rw [Int.zero_add];nofun;refine ixL (i:=i) e B ?_;nofun;refine ⟨"tuple", .inr ⟨rfl,_,d⟩,?_⟩;rw [show (!isiB "tuple" "tuple")=false from rfl,if_neg ⋯];nofun;refine ixL (i:=i) e B ?_;refine ⟨_, .inr d,?_⟩;nofun;rw [if_neg (by simp)];nofun;refine ixL (i:=i) e B ?_;refine ixT (i:=0) d rfl ?_;refine ixL (i:=i) (X.same n) hy ?_;refine ixT (i:=0) (hb.same n) rfl ?_;nofun;rw [if_neg (by simp [en])];nofun;nofun;refine ixL (i:=i) e B ?_;refine ixT (i:=1) d rfl ?_;nofun;refine ⟨"tuple",b.ty,?_⟩;rw [show (!isiB "tuple" "tuple")=false from rfl,if_neg ⋯];nofun;refine lenF b ?_;nofun;try rw [if_neg (by simp)]
  refine ixF0 b ?_;refine ⟨_,rfl,?_⟩;nofun;try rw [if_neg ⋯]
  refine ixF1 b ?_;refine ⟨_,rfl,?_⟩;nofun;try rw [if_neg ⋯]
  nofun;refine ixF1 b ?_;nofun;have b1:=fb.b1;rw [if_neg (by simpa using (by ac_nf:¬ r.sl.2<1))];nofun;refine ixF0 b (ixF1 b ?_);refine ⟨_,_,rfl,b1,fb.s2.mono ⋯,fun q H3 g M=>?_⟩;have lt:Mth.top r.sl.1 r.sl.2=r.sl.1:=congrArg Prod.fst ls;have lb:Mth.bot r.sl.1 r.sl.2=r.sl.2:=congrArg Prod.snd ls;have M:H3 q=some (.tup [.int r.sl.1, .int r.sl.2]):=by rw [M,lt,lb]
  refine neF (b.same g) (FrV.of M) ?_;simpa only [decide_true,Bool.and_self];try rw [if_neg ⋯]
  refine ixL (i:=i) (e.same g) B ?_;refine ixT (i:=2) (d.same g) rfl ?_;nofun;refine ⟨"tuple", .inr ⟨rfl,_,(a1.same n).same g⟩,?_⟩;rw [show (!isiB "tuple" "tuple")=false from rfl,if_neg ⋯];nofun;refine ixL (i:=i) (e.same g) B ?_;refine ixT (i:=0) (d.same g) rfl ?_;refine ⟨C,_,rfl,DPut.k (k:=Sum.inr r.nm) (g _ _ j) ∅,?_⟩;generalize R:upd H3 C _=H4;nofun;have e4:=putE R;have T4:SameT H3 H4:=SameT.put R (g _ _ j) rfl;have G:=g.t.trans T4;refine a2 _ _ ⟨_,_,_,rfl,fun c u h=>by rw [<- R,Jag (Jai h I)]; exact g _ _ (n _ _ h),e4,?_⟩;rw [take_succ,l];exact (J.mono (P':=fun (r:ShD) (v:V)=>FLV K H4 r.sl v) fun _ _ z=>FLV.sameT G z).new (a:=r) nw (FrV.sameT G b)
 ·rintro σ H2 ⟨W,O,L,rfl,n,j,J⟩;rw [take_of_length_le ∅] at J;nofun;exact k C L H2 n j J
abbrev Ba7:Stmt:=top 60
theorem Jba:Jan ["_law_parts_here","_law_rows","_law_by_name","_law_part","_law_slack","_law_room","_law_names","_law_total","_law_name_here"] ["_law_parts_here","_law_rows","_law_by_name"] (Jae Ba7):=by bv_decide
def Jc3 (K:W.Frag):Sp:=fun vs H Q E=>∃ (pl rl bn c1 c2:Addr) (px rx:List V) (kv:List (Key × V)) (rs:List ShD) (ks:List PD) (es:List (GD × List Str)) (pf:Str->Fr2),vs=[.ref pl, .ref rl, .ref bn]/\SqL K H pl px/\All2 (PDV K H) ks px/\SqL K H rl rx/\All2 (RWV K c1 c2 pf H) es rx/\H bn=some (.dK kv)/\BG (·.nm) (fun r v=>FLV K H r.sl v) rs kv/\ShK ks es pf rs/\(ks.map (·.nm)).Nodup/\(∀ p∈ks,FB 100 6 p.mo)/\(∀ e∈es,FB 101 3 (roomF pf e.1)/\(∀ n∈e.2,n∈ks.map (·.nm))/\e.2.length<=12)/\es.length<=7/\∀ H',Same H H'->Q (.bl true) H'
theorem Jgt (F:FunD K "_law_kept" "_law_kept" Ba7 dV f fd) (T:Txt K mg Ad) (Bap:Cal P w K mg base 2 "_law_plus" ["_law_one","_law_other","_law_sign"] [] (JbX K)):FnOk P w K mg base (CX1 P w) 3 f fd ["_law_parts_here","_law_rows","_law_by_name"] (Jc3 K):=by
 refine F.okn Jba (by subst_eqs) (fun d0 A c5 s H vs Q E hr h=>?_)
 obtain ⟨pl,S,I,c1,c2,px,rx,kv,L,ks,es,pf,rfl,h⟩:=h;have hu:=hr.units;refine ⟨_,(Jab (Ja1 PassesOwn.never rfl (pi_U (pv 0)) (Jar (i:=3) Jba.nd rfl (Or.inr rfl))
   (Jab (Jaj (i:=4) Jba.nd rfl (Or.inl rfl) (Ja0 (hu1 hu) (pv 2) (pe_ix ix_U (pv 3) Jac (fun _ _=>rfl)) (fun _ _=>rfl)))
   (Jab (ps_if (PW.pt (pw_or (Jax Jdf (pe_ix ix_U (pv 4) Jac (fun _ _=>rfl)) Jac (Jaz _)) (JbJ (Jax Jdf (pe_op JaB (pe_ix ix_U (pe_ix ix_U (pv 3) Jac (fun _ _=>rfl)) Jac (fun _ _=>rfl)) (pe_ix ix_U (pv 4) Jac (fun _ _=>rfl))) (pe_op JaB (pe_ix ix_U (pv 4) Jac (fun _ _=>rfl)) (pe_ix ix_U (pe_ix ix_U (pv 3) Jac (fun _ _=>rfl)) Jac (fun _ _=>rfl))) (Jaz _)))))
   (Jah (Jaq pe_bl))
   JaA)
   (Jah (ps_if (PW.pt (JjS (Jax (JbP hu) (Jap JaP rfl T.Bbe Jbd (Jaa (Jdi (own:=["_law_room","_law_names"]) (cs:=[(3,"_law_part")]) rfl (pi_U (pv 1)) (fun _ _ _ _=>(Jit (K:=K) (n:=2) rfl rfl (Jbh (Jar (i:=0) (show [("_law_room" : Str),("_law_names" : Str),("_law_part" : Str)].Nodup by decide) rfl (Or.inl rfl) (hf:=Or.inr rfl)) (Jbh (Jar (i:=1) (show [("_law_room" : Str),("_law_names" : Str),("_law_part" : Str)].Nodup by decide) rfl (Or.inl rfl) (hf:=Or.inr rfl)) Jdz)))) (fun _ _ _ _=>(Jax (JjP (K:=K) rfl) (pe_ix (ix_UK (K:=K) rfl) (pv 2) Jac (fun _ _=>rfl)) (pv 1) (by with_unfolding_all rfl))) (fun _ _ _ _=>Jac) (JdF rfl) ⋯ rfl ⋯ (hcs1 rfl rfl rfl)) Jad)) Jac (Jaz _)) (JiA (Jax (Jce hu) (pv 4) (pe_ix ix_U (pv 3) Jac (fun _ _=>rfl)) (Jaz _)))))
   (Jah (Jaq pe_bl))
   JaA)))))
   (Jab (Ja1 PassesOwn.never rfl (pi_U (pv 1)) (JfV rfl (Jbh (Jar (i:=5) Jba.nd rfl (Or.inl rfl)) (Jbh (Jar (i:=6) Jba.nd rfl (Or.inl rfl)) Jdz)))
   (Jab (Jaj (i:=7) Jba.nd rfl (Or.inl rfl) (JaJ (Jaa Jac (Jaa Jac Jad))))
   (Jab (Ja1 PassesOwn.never rfl (pi_U (pv 6)) (Jar (i:=8) Jba.nd rfl (Or.inl rfl))
   (Jah (Jaj (i:=7) Jba.nd rfl (Or.inl rfl) (Bap.ev hr ⋯ rfl passF (Jaa (pv 7) (Jaa (Ja0 (hu1 hu) (pv 2) (pv 8) (fun _ _=>rfl)) (Jaa Jac Jad))) (he:=by exact Jaf rfl)))))
   (Jah (ps_if (Jax Jdf (pe_op JaB (pe_ix ix_U (pv 5) Jac (fun _ _=>rfl)) (pe_ix ix_U (pv 7) Jac (fun _ _=>rfl))) (pe_op JaB (pe_ix ix_U (pv 7) Jac (fun _ _=>rfl)) (pe_ix ix_U (pv 5) Jac (fun _ _=>rfl))) (Jaz _))
   (Jah (Jaq pe_bl))
   JaA)))))
   (Jah (Jaq pe_bl)))),?_⟩
 clear hu;obtain ⟨hP,hK,hR,hE,a0,hB,o,a7,a9,b2,l7,k⟩:=h;have sz:(1000:Nat)<=sizeLine:=by decide
 have lE:=hE.length;have lK:=hK.length;show tSeq _ _ _ [some (.ref pl),some (.ref S),some (.ref I),none,none,none,none,none,none] H;nofun;refine ⟨pl,rfl,ForA.byLN (xs:=px) hP (fun i σ r=>i<=px.length/\∃ (v3 v4:Option V),σ=[some (.ref pl),some (.ref S),some (.ref I),v3,v4,none,none,none,none]/\Same H r) ⟨Nat.zero_le _,none,none,rfl,Same.refl _⟩ (fun i σ r q=>by obtain ⟨_,_,_,_,q⟩:=q; exact hP.same q) ?_ ?_⟩
 ·rintro i y σ Z hy ⟨hi,v3,v4,rfl,b⟩ N0 G;have li:=(List.getElem?_eq_some_iff.mp hy).1;obtain ⟨p,hp,a_,vz,vm,rfl,N,_,hm⟩:=hK.at_ hy;have a6:=List.mem_of_getElem? hp;have d1:L.length=ks.length:=by simpa using congrArg List.length o.nm
  have hr:=List.getElem?_eq_getElem (by ac_nf:i<L.length);have bd:=o.bd i p _ hp hr;have en:L[i].nm=p.nm:=by
   have:=congrArg (·[i]?) o.nm;simp only [List.getElem?_map,hr,hp] at this;exact Option.some.inj this
  obtain ⟨C,v,x,B,hv,c4⟩:=hB.some (z:=p.nm) (by rw [o.nm]; exact mem_map.mpr ⟨p,a6,rfl⟩);have er:C=L[i]:=by
   have c3:(L.map (·.nm)).Nodup:=o.nm ▸ a7;exact JiJ c3 x (List.getElem_mem _) (by show C.nm=L[i].nm; rw [en]; exact B)
  rw [<- er] at bd;have fb:=o.fb _ x;have mb:=a9 p a6;have fv:FrV K Z v C.sl.1 C.sl.2:=FrV.same b c4;have fm:FrV K Z vm p.mo.1 p.mo.2:=FrV.same b hm;have g2:DGet Z I (.str p.nm) (some v):=by rw [<- hv]; exact DGet.k (k:=Sum.inr p.nm) (b _ _ a0)
  have l2:=Jc5 (a:=p.mo) (c:=C.sl) mb.b1 fb.b1;unfold lessF at l2;rw [decide_eq_true_iff] at l2;have n0:=(vl_nn fb.b1).mp bd.1;nofun;refine ixT (i:=0) (N.same b) rfl ?_;refine ⟨I,v,rfl,g2,?_⟩;nofun;refine ixF0 fv ?_;nofun;rw [if_neg (by simpa using (by ac_nf:¬ C.sl.1<0))];nofun;refine ixT (i:=4) (N.same b) rfl ?_;refine ixF0 fm (ixF1 fv ?_);nofun;refine ⟨mulOk mb.s1 fb.s2,ixF0 fv ?_⟩;refine ixT (i:=4) (N.same b) rfl ?_;refine ixF1 fm ?_;nofun;refine ⟨mulOk fb.s1 mb.s2,?_⟩;rw [if_neg (by rw [decide_eq_true_iff]; exact fun z=>absurd (l2.mp z) (Rat.not_lt.mpr bd.2.1))];nofun;nofun;refine ⟨S,rfl, .inl ⟨⟨rx,hR.same b⟩,JbO.list (xs:=rx) (fun j ys r=>r=Z/\ys.length<=j/\(ys.length=0->∀ e∈es.take j,p.nm∉e.2)) ⟨rfl,Nat.le_refl _,fun _ e he=>by simp at he⟩ (fun j ys r hj z=>⟨by rw [z.1]; exact hR.same b,by have:=z.2.1; ac_nf⟩) ?_ ?_⟩⟩
  ·rintro j y ys H3 b4 ⟨W,a8,D⟩;subst W;obtain ⟨e,b7,b_,w,l,rfl,b3,hw,_,_,hl⟩:=hE.at_ b4;have b9:es.take (j+1)=es.take j++[e]:=by rw [take_succ,b7]; rfl
   simpa only [length_singleton,length_cons,length_nil,List.replicate,JaD,map_cons,map_nil,Option.join_some];refine ⟨b_,_,rfl,b3.same b,rfl,?_⟩;nofun;refine ixT (i:=0) (N.same b) rfl ?_;refine ⟨l,_,rfl, .inl (SqL.of (b _ _ hl)),rfl,JdZ _,?_⟩;rw [JdP];by_cases cn:p.nm∈e.2
   ·rw [decide_eq_true cn];nofun;exact ⟨by simp; ac_nf,fun z=>by simp at z⟩
   ·rw [decide_eq_false cn];nofun;refine ⟨by ac_nf,fun z e' a2=>?_⟩;rw [b9] at a2;rcases mem_append.mp a2 with h | h
    ·exact D z e' h
    ·rw [mem_singleton.mp h]; exact cn
  ·rintro ys H3 ⟨W,a8,D⟩;subst W;rw [take_of_length_le ∅] at D;rename_i cl c7 c9 H3 H4 J e4;nofun;refine ⟨_, .inl (SqL.of e4),?_⟩;nofun;by_cases c0:ys.length=0
   ·rw [decide_eq_true ∅];nofun;refine ixT (i:=4) ((N.same b).same J) rfl ?_;have b8:=bd.2.2 (D c0);refine neF (fv.same J) (fm.same J) ?_;rw [b8];simpa only [decide_true,Bool.and_self];try rw [if_neg ⋯]
    exact G _ _ ⟨li,_,_,rfl,b.trans J⟩
   ·rw [decide_eq_false ∅];nofun;exact G _ _ ⟨li,_,_,rfl,b.trans J⟩
 ·rintro σ Z ⟨hi,v3,v4,rfl,b⟩;nofun;refine ⟨S,rfl,ForA.byLN (xs:=rx) (hR.same b) (fun i σ r=>i<=rx.length/\∃ (v5 v6 v7 M:Option V),σ=[some (.ref pl),some (.ref S),some (.ref I),v3,v4,v5,v6,v7,M]/\Same Z r) ⟨Nat.zero_le _,none,none,none,none,rfl,Same.refl _⟩ (fun i σ r q=>by obtain ⟨_,_,_,_,_,_,q⟩:=q; exact (hR.same b).same q) ?_ ?_⟩
  ·rintro i y σ H3 hy ⟨hi,v5,v6,v7,M,rfl,S3⟩ N0 G;have li:=(List.getElem?_eq_some_iff.mp hy).1;obtain ⟨e,b5,b_,w,l,rfl,N,hw,_,_,hl⟩:=hE.at_ hy;have he:=List.mem_of_getElem? b5;obtain ⟨rb,a3,l8⟩:=b2 e he;have a1:=b.trans S3;nofun;refine ⟨b_,_,rfl,N.same a1,rfl,?_⟩;nofun;refine ⟨len2,?_⟩;rename_i t0 c6 c8 H3 H4 J e4;nofun;nofun;have O:=a1.trans J;have a5:=S3.trans J;refine ⟨l,rfl,ForA.byLN (xs:=e.2.map V.str) (SqL.of (O _ _ hl)) (fun j σ r=>j<=e.2.length/\∃ (M:Option V) (t:V) (u:Fr2),σ=[some (.ref pl),some (.ref S),some (.ref I),v3,v4,some w,some (.ref l),some t,M]/\Same H4 r/\FrV K r t u.1 u.2/\Lo u/\vl u=sm (rvl L) (e.2.take j)) ⟨Nat.zero_le _,M, .ref t0,(0,1),rfl,Same.refl _,FrV.of e4,⟨Int.le_refl 1,by unfold Mth.g; simp⟩,by rw [take_zero]; exact Jfu⟩ (fun j σ r q=>by obtain ⟨_,_,_,_,_,q,_⟩:=q; exact SqL.of (q _ _ (O _ _ hl))) ?_ ?_⟩
   ·rintro j y' σ H5 d ⟨hj,M,t,u,rfl,S5,ft,fu,R⟩ N1 b6;have lj:=(List.getElem?_eq_some_iff.mp d).1;rw [length_map] at lj;rw [List.getElem?_map,List.getElem?_eq_getElem lj] at d;obtain ⟨n,hn⟩:∃ n,n=e.2[j]:=⟨_,rfl⟩;rw [<- hn] at d;have d:y'=.str n:=(Option.some.inj d).symm;subst d;have b0:n∈ks.map (·.nm):=a3 n (by rw [hn]; exact List.getElem_mem lj);have a4:=b.trans (a5.trans S5);obtain ⟨C,v,x,B,hv,fv⟩:=hB.some (z:=n) (by rw [o.nm]; exact b0);have B:C.nm=n:=B;have xb:=o.fb _ x;have X:=o.par e he j u fu R;nofun;refine ⟨I,_,rfl,by rw [<- hv]; exact DGet.k (k:=Sum.inr n) (a4 _ _ a0),?_⟩;refine ⟨t,v,_,u,C.sl,true,rfl,rfl,ft,FrV.same a4 fv,X.w.mono ⋯ ⋯,xb.w.mono ⋯ ⋯,fun p H6 S6 e6=>?_⟩;nofun;refine b6 _ _ ⟨lj,_, .ref p,addF u C.sl,rfl,S5.trans S6,FrV.of e6,JfJ (Jb2 X.b1 xb.b1),?_⟩;rw [JiY X.b1 xb.b1,R,take_succ,List.getElem?_eq_getElem lj, <- hn];show _=sm _ (_++[n]);rw [JiM, <- B,JiC (o.nm ▸ a7) x]
   ·rintro σ H5 ⟨hj,M,t,u,rfl,S5,ft,fu,R⟩;rw [length_map] at R;have X:=o.par e he _ u fu R;rw [take_of_length_le (Nat.le_refl _)] at R;have U:FrV K H5 w (roomF pf e.1).1 (roomF pf e.1).2:=FrV.same (O.trans S5) hw;have ls:=Jc5 (a:=roomF pf e.1) (c:=u) rb.b1 X.b1;unfold lessF at ls;rw [decide_eq_true_iff] at ls;have Y:=o.fit e he;rw [<- R] at Y;obtain ⟨m,hm⟩:∃ m,m=roomF pf e.1:=⟨_,rfl⟩;rw [<- hm] at U ls rb Y;nofun;refine ixF0 U (ixF1 ft ?_);nofun;refine ⟨mulOk rb.s1 X.s2,ixF0 ft (ixF1 U ?_)⟩;nofun;refine ⟨mulOk X.s1 rb.s2,?_⟩;rw [if_neg (by rw [decide_eq_true_iff]; exact fun z=>absurd (ls.mp z) (Rat.not_lt.mpr Y))];nofun;nofun;exact G _ _ ⟨li,_,_,_,_,rfl,a5.trans S5⟩
  ·rintro σ H3 ⟨hi,v5,v6,v7,M,rfl,S3⟩;nofun;exact k H3 (b.trans S3)
abbrev Bc8:Stmt:=top 61
theorem JcF:Jan ["_law_script","_law_style","_law_parts_here","_law_spots","_law_gaps_here","_law_rows","_law_thing","_law_told","_law_by_name","_law_kept_here"] ["_law_script"] (Jae Bc8):=by bv_decide
def Bdn (K:W.Frag):Sp:=fun vs H Q E=>∃ (a:Addr) (ns:List Int),vs=[.ref a]/\SqL K H a (ns.map V.int)/\ns.length<=63/\∀ H',Q (.bl true) H'
theorem Jlr (F:FunD K "law" "law" Bc8 dV f fd) (T:Txt K mg Ad) (Bae:Cal P w K mg base 1 "_law_cell" ["_law_script","_law_k"] [] (Jbz K)) (Bb8:Cal P w K mg base 3 "_law_parts" ["_law_script","_law_style"] [] (JcH K)) (BbX:Cal P w K mg base 2 "_law_listed" ["_law_script","_law_parts_here"] [] (Jct K)) (Bcw:Cal P w K mg base 3 "_law_gaps" ["_law_script","_law_spots","_law_style"] [] (Jc2 K)) (Bdt:KCal P w K mg base 9 "Thing" Ad.Thing ["self","parts","gaps"] (Jby K Ad)) (Bc9:Cal P w K mg base 9 "share" ["thing"] [] (Jfq K Ad)) (BbY:Cal P w K mg base 2 "_law_slacks" ["_law_told","_law_parts_here"] [] (Jcv K)) (Bcx:Cal P w K mg base 3 "_law_kept" ["_law_parts_here","_law_rows","_law_by_name"] [] (Jc3 K)) (BaG:MCal P w K mg base 2 "parts" (Ja8 Ad) ["self"] (JaZ K Ad)) (Bcn:MCal P w K mg base 2 "gaps" (Ja8 Ad) ["self"] (Jbs K Ad)):FnOk P w K mg base (CX1 P w) 11 f fd ["_law_script"] (Bdn K):=by
 refine F.okn JcF (by subst_eqs) (fun f7 A e7 s H vs Q E o h=>?_)
 obtain ⟨a,ns,rfl,h⟩:=h;have hu:=o.units;refine ⟨_,(Jab (Jaj (i:=1) JcF.nd rfl (Or.inl rfl) (pe_op JaG (Bae.ev o ⋯ rfl passF (Jaa (pv 0) (Jaa Jac Jad)) (he:=by exact Jaf rfl)) Jac))
   (Jab (JjR (Bb8.ev o ⋯ rfl passF (Jaa (pv 0) (Jaa (pv 1) Jad)) (he:=by exact Jaf rfl)) (JfV rfl (Jbh (Jar (i:=2) JcF.nd rfl (Or.inl rfl)) (Jbh (Jar (i:=3) JcF.nd rfl (Or.inl rfl)) Jdz))))
   (Jab (Jaj (i:=2) JcF.nd rfl (Or.inl rfl) (BbX.ev o ⋯ rfl passF (Jaa (pv 0) (Jaa (pv 2) Jad)) (he:=by exact Jaf rfl)))
   (Jab (JjR (Bcw.ev o ⋯ rfl passF (Jaa (pv 0) (Jaa (pv 3) (Jaa (pv 1) Jad))) (he:=by exact Jaf rfl)) (JfV rfl (Jbh (Jar (i:=4) JcF.nd rfl (Or.inl rfl)) (Jbh (Jar (i:=5) JcF.nd rfl (Or.inl rfl)) Jdz))))
   (Jab (Jaj (i:=6) JcF.nd rfl (Or.inl rfl) (Bdt.ev o ⋯ rfl passF (Jaa (pv 2) (Jaa (pv 4) Jad))))
   (Jab (Jaj (i:=7) JcF.nd rfl (Or.inl rfl) (Bc9.ev o ⋯ rfl passF (Jaa (pv 6) Jad) (he:=by exact Jaf rfl)))
   (Jab (Jaj (i:=8) JcF.nd rfl (Or.inl rfl) (BbY.ev o ⋯ rfl passF (Jaa (pv 7) (Jaa (pv 2) Jad)) (he:=by exact Jaf rfl)))
   (Jab (ps_if (PW.pt (pw_or (Jax Jeg (pv 8) JcC (Jaz _)) (JbJ (Jbe (Ja2 (Bcx.ev o ⋯ rfl passF (Jaa (pv 2) (Jaa (pv 5) (Jaa (pv 8) Jad))) (he:=by exact Jaf rfl)))))))
   (Jah (Jaq pe_bl))
   JaA)
   (Jab (Jaj (i:=9) JcF.nd rfl (Or.inl rfl) (Jcf JeF rfl T.BdB JeV (Jaa (pv 7) Jad)))
   (Jab (Ja9 (pe_bm PySem.F.plainAttrs_list PySem.F.slot_list_append PySem.F.type_list_append Ja7 (pv 7) (Jaa Jac Jad) (hs:=by exact Jaf rfl)))
   (Jab (Ja9 (JjQ PySem.F.plainAttrs_list PySem.F.slot_list_reverse PySem.F.type_list_reverse Jhr (pv 7)))
   (Jah (Jaq (Jb3 (Jbf (JbP hu) (Bc9.ev o ⋯ rfl passF (Jaa (pv 6) Jad) (he:=by exact Jaf rfl)) (pv 9) (Jaz _)) (Jb3 (Jbf (JbP hu) (BaG.m0 o ⋯ passF (pv 6)) (pv 2) (Jaz _)) (JcU (Jbf (JbP hu) (Bcn.m0 o ⋯ passF (pv 6)) (pv 4) (Jaz _)))))))))))))))))),?_⟩
 clear hu;obtain ⟨hS,hl,k⟩:=h;have sl:(1000:Nat)<=sizeLine:=by decide
 show tSeq _ _ _ [some (.ref a),none,none,none,none,none,none,none,none,none] H;nofun;refine ⟨a,ns,3,rfl,hS,hl,by decide,by decide,fun c0=>?_⟩;nofun;repeat (refine And.intro (by first | exact JaV ⋯ | exact JaX ⋯ | exact JaW ⋯ | exact JaH ⋯ | exact Int.one_ne_zero | decide) ?_)
 have q0:=Mth.fm (x:=c0) (y:=4) ⋯;obtain ⟨st,e3⟩:=Int.eq_ofNat_of_zero_le q0.1;rw [e3] at q0 ⊢;nofun;refine ⟨a,ns,st,rfl,hS,hl,by ac_nf,fun q pl sd px kv ls xs H1 S1 eq ep hP ed hB U hM hT h1 h7 b7 a0 d6=>?_⟩;nofun;refine ⟨q,_,rfl,SqT.of eq,rfl,?_⟩;nofun;refine ⟨a,pl,ns,px,ls,rfl,hS.same S1,hl,SqL.of ep,hP,by ac_nf,fun kl N j H2 S2 ek hK c=>?_⟩;nofun;refine ⟨a,sd,pl,sd,ns,st,kv,ls,xs,rfl,(hS.same S1).same S2,hl,by ac_nf,S2 _ _ ed,hB.mono (P':=SNV K pl sd H2) (fun _ _ z=>SNV.same S2 z),U,hM,hT,h7,b7,d6,fun q2 gl dl gx dx m H3 S3 b8 eg hX el hD d a2 f6=>?_⟩;nofun;refine ⟨q2,_,rfl,SqT.of b8,rfl,?_⟩;nofun;intro x Z hx e0 f4;have b0:All2 (PDV K H3) j N:=hK.mono fun p v z=>z.sameT S3.t;have f8:j.length=ls.length:=c.length_eq;have lK:=hK.length;have lX:=hX.length;have R:∀ p∈j,POk p:=fun p l=>U.ok p (c.mem_iff.mp l);have C:(j.map (·.nm)).Nodup:=(List.Perm.nodup_iff (c.map (·.nm))).mpr (JfN U.nm);have d5:((m.map (·.1)).map (·.nm)).Nodup:=by
  rw [map_map];exact JfN (f:=fun (e:GD × List Str)=>e.1.nm) a2
 have a9:All2 (fun (g:GD) v=>TV K H3 g.td v) (m.map (·.1)) gx:=hX.map fun e _ v z=>z;have Sm:Same H3 (upd (upd H3 Z (.own x)) x (.ins Ad.Thing Z [])):=fun b u q=>by rw [Jag (Jai q hx),Jag (Jai q e0)]; exact q
 refine ⟨x,Z,kl,gl,N,gx,j.map Sum.inl,(m.map (·.1)).map Sum.inl,H3,rfl,Jak,hx,Sm,SqL.of (S3 _ _ ek),b0.map fun p l x z=>⟨z,R p l⟩,SqL.of eg,a9.map fun g hg x z=>⟨z,by obtain ⟨e,he,rfl⟩:=mem_map.mp hg; exact (d e he).tok⟩,by rw [length_map]; ac_nf,by rw [length_map,length_map]; ac_nf,?_⟩;rw [Jei U.tr j [] (by rw [nil_append]; exact C) (fun p l=>c.mem_iff.mp (by simpa using l)),nil_append];dsimp only;rw [Jh2 (m.map (·.1)) [] (by rw [nil_append]; exact d5) (fun g hg=>by obtain ⟨e,he,rfl⟩:=mem_map.mp hg; exact (d e he).con.sub fun p l=>c.mem_iff.mpr l),nil_append];dsimp only;intro H4 S4 tk;refine ⟨rfl,?_⟩;nofun;have W:SHC j m (spOf (xs.map (·.1))):=⟨by ac_nf,by ac_nf,by ac_nf,C,fun e he u hu h=>by
   obtain ⟨e',d9,rfl⟩:=mem_map.mp hu;exact congrArg (·.1) (Jjd (f:=fun (e:GD × List Str)=>e.1.nm) a2 d9 he h),R,fun p l=>(by have h:=hM.pb p (c.mem_iff.mp l); exact ⟨⟨h.1.b1,h.1.s2.mono ⋯⟩,h.2.mono ⋯ ⋯⟩),fun p l=>a0 p (c.mem_iff.mp l),fun e he=>(d e he).tok,fun e he=>(d e he).gb,fun e he=>(d e he).rb.mono ⋯ ⋯,fun f=>U.plb ∅ f,fun p l=>U.pls p (c.mem_iff.mp l),fun e he w hw hn=>JjC U hM (d e he).nm (d e he).f1 (d e he).f2 ((Jgz hw).sub fun p l=>c.mem_iff.mp l) hn⟩
 have X:∀ e∈m,e.2.length<=12:=fun e he=>by
  have:=sub_len e.2 (ls.map (·.nm)) (d e he).nm.1 fun n hn=>(d e he).sub n hn;rw [length_map] at this;ac_nf
 have a7:∀ e∈m, ∀ n∈e.2,n∈j.map (·.nm):=fun e he n hn=>by
  obtain ⟨p,l,h⟩:=mem_map.mp ((d e he).sub n hn);exact mem_map.mpr ⟨p,c.mem_iff.mpr l,h⟩
 have b3:∀ e∈m,FB 101 3 (roomF (spOf (xs.map (·.1))) e.1):=fun e he=>(d e he).rb;have r0:∀ e∈m,0<=vl (roomF (spOf (xs.map (·.1))) e.1):=fun e he=>(d e he).r0;have a5:∀ p∈j,FB 100 6 p.mo:=fun p l=>(hM.pb p (c.mem_iff.mp l)).2;obtain ⟨xd,d1,d2,d3,k1,k2,k3,a8,_⟩:=id tk;have e1:=S3.trans S4;have O:=e1 _ _ ek;have f3:=S4 _ _ el;have e4:=S4 _ _ eg;have I:All2 (PDV K H4) j N:=b0.mono fun p v z=>z.sameT S4.t;have c7:All2 (RWV K gl dl (spOf (xs.map (·.1))) H4) m dx:=hD.mono fun e v z=>RWV.same S4 z;have d8:All2 (fun (g:GD) v=>TV K H4 g.td v) (m.map (·.1)) gx:=a9.mono fun g v z=>z.sameT S4.t;clear d hD;generalize spOf (xs.map (·.1))=pf at *;refine ⟨x,j,m,pf,rfl,tk,W,r0,fun M zs rs H5 S5 a1 e5 hZ hR=>?_⟩;have hk:=hR.k W a5;have lZ:=hZ.length;have g0:rs.length=j.length:=by simpa using congrArg List.length hk.nm
 nofun;refine ⟨M,kl,zs,N,rs,j,rfl,SqL.of e5,hZ,SqL.of (S5 _ _ O),I.mono (fun p v z=>z.sameT S5.t),hk.nm,C,hk.fb,by ac_nf,fun bn b4 H6 S6 c2 e6=>?_⟩;nofun;have L:=S5.trans S6;refine ⟨kl,dl,bn,gl,dl,N,dx,b4,rs,j,m,pf,rfl,SqL.of (L _ _ O),I.mono (fun p v z=>z.sameT L.t),SqL.of (L _ _ f3),c7.mono (fun e v z=>RWV.same L z),c2,e6,hk,C,a5,fun e he=>⟨b3 e he,a7 e he,X e he⟩,by ac_nf,fun H7 S7=>?_⟩;nofun;have Y:=S6.trans S7;refine ⟨M,zs,rfl, .inl (SqL.of (Y _ _ e5)),?_⟩;rename_i hd D f5 H7 H8 S8 e8;nofun;nofun;have V:=Y.trans S8;have S:=V _ _ e5;refine ⟨.inl ⟨rfl,_,SqL.of S⟩,?_⟩;nofun;refine ⟨M,zs,_,rfl,rfl,S,by ac_nf,?_⟩;generalize u9:upd H8 M _=H9;nofun;have e9:=putE u9;have T9:SameT H8 H9:=SameT.put u9 S rfl;have o9:∀ b u,b≠M->H8 b=some u->H9 b=some u:=fun b u hb h=>by rw [<- u9,Jag hb]; exact h
 nofun;refine ⟨.inl ⟨rfl,_,SqL.of e9⟩,?_⟩;refine ⟨M,_,rfl,rfl,e9,?_⟩;generalize b2:upd H9 M _=HA;nofun;have b9:SameT H9 HA:=SameT.put b2 e9 rfl;have a6:∀ b u,b≠M->H8 b=some u->HA b=some u:=fun b u hb h=>by rw [<- b2,Jag hb]; exact o9 b u hb h
 have b6:=T9.trans b9;have d4:=S5.trans V;have a4:Same H4 HA:=fun b u h=>a6 b u (Jai h a1) (d4 _ _ h);have c5:hd≠M:=fun z=>by rw [z] at D; rw [Y _ _ e5] at D; cases D
 have eA:=a6 _ _ c5 e8;have d7:All2 (ShV K HA) rs zs:=hZ.mono fun r v z=>z.sameT (V.t.trans b6);nofun;refine ⟨x,j,m,pf,rfl,tk.same a4,W,r0,fun c4 f0 G HB SB _ eB b5 c1=>?_⟩;have eR:G=rs:=c1.uniq C (fun p l=>(R p l).w) hR;subst eR;nofun;have J:=a4.trans SB;have f9:All2 (PDV K HB) j N:=I.mono fun p v z=>z.sameT J.t;refine ⟨.lst (G.map shD), .lst (G.map shD),?_,?_,?_,rfl,?_⟩
 ·simp only [Rep];exact ⟨c4,f0,rfl,SqL.of eB,b5.repL fun _ _ z=>z.rep⟩
 ·simp only [Rep];exact ⟨hd,zs,rfl,SqL.of (SB _ _ eA),(d7.mono (P':=ShV K HB) fun _ _ z=>z.sameT SB.t).repL fun _ _ z=>z.rep⟩
 ·have:=JdN (n:=10) (f:=shD) (fun a=>by unfold shD; cases a.sp <;> simp [frD,depD,depL]) G;simp only [depD];ac_nf
 ·rw [JcQ];nofun;refine ⟨x,_,xd,_,rfl,J _ _ a8,rfl,rfl,x,j,m.map (·.1),rfl,tk.same J,by ac_nf,fun l1 y1 H9 S9 _ e9 hY=>?_⟩;nofun;have B:=J.trans S9;have c8:All2 (PDV K H9) j N:=I.mono fun p v z=>z.sameT B.t;refine ⟨.lst (j.map pdD), .lst (j.map pdD),?_,?_,?_,rfl,?_⟩
  ·simp only [Rep];exact ⟨l1,y1,rfl,SqL.of e9,hY.repL fun _ _ z=>z.rep⟩
  ·simp only [Rep];exact ⟨kl,N,rfl,SqL.of (B _ _ O),c8.repL fun _ _ z=>z.rep⟩
  ·have:=JdN (n:=10) (f:=pdD) (fun a=>by simp [pdD,frD,depD,depL]) j;simp only [depD];ac_nf
  ·rw [JcQ];nofun;refine ⟨x,_,xd,_,rfl,B _ _ a8,rfl,rfl,x,j,m.map (·.1),rfl,tk.same B,by rw [length_map]; ac_nf,fun l2 y2 d0 c3 _ c6 e2=>?_⟩;nofun;have a3:=B.trans c3;have c9:All2 (fun (g:GD) v=>TV K d0 g.td v) (m.map (·.1)) gx:=d8.mono fun g v z=>z.sameT a3.t;refine ⟨.lst ((m.map (·.1)).map fun g=>tdD g.td), .lst ((m.map (·.1)).map fun g=>tdD g.td),?_,?_,?_,rfl,?_⟩
   ·simp only [Rep];exact ⟨l2,y2,rfl,SqL.of c6,e2.repL fun _ _ z=>z.rep⟩
   ·simp only [Rep];exact ⟨gl,gx,rfl,SqL.of (a3 _ _ e4),c9.repL fun _ _ z=>z.rep⟩
   ·have:=JdN (n:=10) (f:=fun g:GD=>tdD g.td) (fun g=>by simp [tdD,GD.td,bD,frD,depD,depL]) (m.map (·.1));simp only [depD];ac_nf
   ·rw [JcQ];nofun;exact k _
end
theorem lenE1 {α} {P:List α->Prop} (h:∀ a,P [a]):∀ us:List α,us.length=1->P us|[a],_=>h a
theorem lenE2 {α} {P:List α->Prop} (h:∀ a b,P [a,b]):∀ us:List α,us.length=2->P us|[a,b],_=>h a b
theorem lenE3 {α} {P:List α->Prop} (h:∀ a b c,P [a,b,c]):∀ us:List α,us.length=3->P us|[a,b,c],_=>h a b c
theorem lenE4 {α} {P:List α->Prop} (h:∀ a b c d,P [a,b,c,d]):∀ us:List α,us.length=4->P us|[a,b,c,d],_=>h a b c d
local macro_rules|`(∅)=>`(⟨$(Lean.mkIdent `NoNumber),$(Lean.mkIdent `Twice),$(Lean.mkIdent `NoName),$(Lean.mkIdent `NoPart),$(Lean.mkIdent `NoGap),$(Lean.mkIdent `InRing),$(Lean.mkIdent `Apart),$(Lean.mkIdent `Part),$(Lean.mkIdent `Gap),$(Lean.mkIdent `Joints),$(Lean.mkIdent `Thing),$(Lean.mkIdent `Scale),$(Lean.mkIdent `Lid),(.str "abcdefghijklmnopqrstuvwxyz" $(Lean.mkIdent `Baa)),(.int 8 $(Lean.mkIdent `Bab)),$(Lean.mkIdent `ZERO)⟩)
local macro_rules|`($f:ident∘$n:str)=>`(W.nsIn $(Lean.mkIdent `K) mainGlobals $n=some (some (.ref $f)))|`($i:num∘$n:str∘$t:ident)=>`($i∘$n∘$n∘$t)|`($i:num∘$n:str∘$q:str∘$t:ident)=>do let v:=fun c=>Lean.mkIdent (.mkSimple s!"{c}{i.getNat}");`($(Lean.mkIdent `K).lookup $(v "f")=some ⟨$(v "D"),$(v "A"),.func (W.fnOf $n $q (Jam $t) (Jal $t) (Jae $t) .none $(v "E") $(v "G") $(v "M") $(v "B") $(v "U") $(v "V")),$(v "C")⟩)
local macro_rules|`($c:ident∣$n:str)=>`(W.codeIn $(Lean.mkIdent `K) $c $n=true)
local macro_rules|`(-$f)=>`(W.keepIn $(Lean.mkIdent `K) (.ref $f)=true)
local macro_rules|`($f:ident/$n:str)=>`(W.findIn $(Lean.mkIdent `K) (.ref $f) $n=some none)|`($f:ident/$n:str/$g:ident)=>`(W.findIn $(Lean.mkIdent `K) (.ref $f) $n=some (some (.ref $g)))
local macro_rules|`(tactic|bv_omega)=>`(tactic|first|exact fun _ _ _ _ _ _=>lenE1 fun _=>rfl|exact fun _ _ _ _ _ _=>lenE2 fun _ _=>rfl|exact fun _ _ _ _ _ _=>lenE3 fun _ _ _=>rfl|exact fun _ _ _ _ _ _=>lenE4 fun _ _ _ _=>rfl)
theorem all_mk {l:W.OpenLaw} {w:World} {K:W.Frag} {h:Heap} {mg:Str->Option Value} {fa:Addr} {NoNumber Twice NoName NoPart NoGap InRing Apart Part Gap Joints Thing Scale Lid:Addr} (X:K.In h) (G:h.Ns mainGlobals mg) (hfa:mg "law"=some (.ref fa)) {f1 f2 f3 f4 f5 f6 f7 f8 f9 f10 f11 f12 f13 f14 f15 f16 f17 f18 f19 f20 f21 f22 f23 f24 f25 f26 f27 f28 f29 f30 f31 f32 f33 f34 f35 f36 f37 f38 f39 f40 f41 f42 f43 f44 f45 f46 f47 f48 f49 f50 f51 f52 f53 f54 f55 f56 f57 f58:Addr} {A1 B1 A2 B2 A3 B3 A4 B4 A5 B5 A6 B6 A7 B7 A8 B8 A9 B9 A10 B10 A11 B11 A12 B12 A13 B13 A14 B14 A15 B15 A16 B16 A17 B17 A18 B18 A19 B19 A20 B20 A21 B21 A22 B22 A23 B23 A24 B24 A25 B25 A26 B26 A27 B27 A28 B28 A29 B29 A30 B30 A31 B31 A32 B32 A33 B33 A34 B34 A35 B35 A36 B36 A37 B37 A38 B38 A39 B39 A40 B40 A41 B41 A42 B42 A43 B43 A44 B44 A45 B45 A46 B46 A47 B47 A48 B48 A49 B49 A50 B50 A51 B51 A52 B52 A53 B53 A54 B54 A55 B55 A56 B56 A57 B57 A58 B58:Option Addr} {C1 C2 C3 C4 C5 C6 C7 C8 C9 C10 C11 C12 C13 C14 C15 C16 C17 C18 C19 C20 C21 C22 C23 C24 C25 C26 C27 C28 C29 C30 C31 C32 C33 C34 C35 C36 C37 C38 C39 C40 C41 C42 C43 C44 C45 C46 C47 C48 C49 C50 C51 C52 C53 C54 C55 C56 C57 C58:Array (Option Value)} {D1 E1 G1 M1 U1 V1 D2 E2 G2 M2 U2 V2 D3 E3 G3 M3 U3 V3 D4 E4 G4 M4 U4 V4 D5 E5 G5 M5 U5 V5 D6 E6 G6 M6 U6 V6 D7 E7 G7 M7 U7 V7 D8 E8 G8 M8 U8 V8 D9 E9 G9 M9 U9 V9 D10 E10 G10 M10 U10 V10 D11 E11 G11 M11 U11 V11 D12 E12 G12 M12 U12 V12 D13 E13 G13 M13 U13 V13 D14 E14 G14 M14 U14 V14 D15 E15 G15 M15 U15 V15 D16 E16 G16 M16 U16 V16 D17 E17 G17 M17 U17 V17 D18 E18 G18 M18 U18 V18 D19 E19 G19 M19 U19 V19 D20 E20 G20 M20 U20 V20 D21 E21 G21 M21 U21 V21 D22 E22 G22 M22 U22 V22 D23 E23 G23 M23 U23 V23 D24 E24 G24 M24 U24 V24 D25 E25 G25 M25 U25 V25 D26 E26 G26 M26 U26 V26 D27 E27 G27 M27 U27 V27 D28 E28 G28 M28 U28 V28 D29 E29 G29 M29 U29 V29 D30 E30 G30 M30 U30 V30 D31 E31 G31 M31 U31 V31 D32 E32 G32 M32 U32 V32 D33 E33 G33 M33 U33 V33 D34 E34 G34 M34 U34 V34 D35 E35 G35 M35 U35 V35 D36 E36 G36 M36 U36 V36 D37 E37 G37 M37 U37 V37 D38 E38 G38 M38 U38 V38 D39 E39 G39 M39 U39 V39 D40 E40 G40 M40 U40 V40 D41 E41 G41 M41 U41 V41 D42 E42 G42 M42 U42 V42 D43 E43 G43 M43 U43 V43 D44 E44 G44 M44 U44 V44 D45 E45 G45 M45 U45 V45 D46 E46 G46 M46 U46 V46 D47 E47 G47 M47 U47 V47 D48 E48 G48 M48 U48 V48 D49 E49 G49 M49 U49 V49 D50 E50 G50 M50 U50 V50 D51 E51 G51 M51 U51 V51 D52 E52 G52 M52 U52 V52 D53 E53 G53 M53 U53 V53 D54 E54 G54 M54 U54 V54 D55 E55 G55 M55 U55 V55 D56 E56 G56 M56 U56 V56 D57 E57 G57 M57 U57 V57 D58 E58 G58 M58 U58 V58:Value}
  {Baa:Tok}
  {Bab:Tok}
  {ZERO:Addr} {Bd1:Option Addr} {Bd2:Nat} {Bd3:Array (Option Value)} {BdU BdV:Tok}
  (g_NoNumber:NoNumber∘"NoNumber")
  (Bdu:Twice∘"Twice")
  (Bda:NoName∘"NoName")
  (Bdb:NoPart∘"NoPart")
  (Bdv:NoGap∘"NoGap")
  (Bdc:InRing∘"InRing")
  (Bdw:Apart∘"Apart")
  (BdD:Part∘"Part")
  (BdW:Gap∘"Gap")
  (Bcy:Joints∘"Joints")
  (Bdd:Thing∘"Thing")
  (Bde:Scale∘"Scale")
  (g_Lid:Lid∘"Lid")
  (a1:f1∘"common_divisor") (l1:1∘"common_divisor"∘Bai) (c1:U1∣"common_divisor") (k1:-f1)
  (a2:f2∘"plus") (l2:2∘"plus"∘BcZ) (c2:U2∣"plus") (k2:-f2)
  (a3:f3∘"minus") (l3:3∘"minus"∘Bcq) (c3:U3∣"minus") (k3:-f3)
  (a4:f4∘"times") (l4:4∘"times"∘Bcr) (c4:U4∣"times") (k4:-f4)
  (a5:f5∘"over") (l5:5∘"over"∘Bc1) (c5:U5∣"over") (k5:-f5)
  (a6:f6∘"under") (l6:6∘"under"∘Bcs) (c6:U6∣"under") (k6:-f6)
  (a7:f7∘"is_name") (l7:7∘"is_name"∘Bbt) (c7:U7∣"is_name") (k7:-f7)
  (a8:f8∘"is_whole") (l8:8∘"is_whole"∘BaZ) (c8:U8∣"is_whole") (k8:-f8)
  (a9:f9∘"is_fraction") (l9:9∘"is_fraction"∘Baz) (c9:U9∣"is_fraction") (k9:-f9)
  (a10:f10∘"is_bound") (l10:10∘"is_bound"∘Ba0) (c10:U10∣"is_bound") (k10:-f10)
  (a11:f11∘"are_faces") (l11:11∘"are_faces"∘BaS) (c11:U11∣"are_faces") (k11:-f11)
  (a12:f12∘"are_bounds") (l12:12∘"are_bounds"∘BaH) (c12:U12∣"are_bounds") (k12:-f12)
  (a13:f13∘"is_tie") (l13:13∘"is_tie"∘Bb4) (c13:U13∣"is_tie") (k13:-f13)
  (a14:Part/"__init__"/f14) (l14:14∘"__init__"∘"Part.__init__"∘Ban) (c14:U14∣"Part.__init__") (k14:-f14)
  (a15:Part/"plain"/f15) (l15:15∘"plain"∘"Part.plain"∘BaI) (c15:U15∣"Part.plain") (k15:-f15)
  (a16:Gap/"__init__"/f16) (l16:16∘"__init__"∘"Gap.__init__"∘Bar) (c16:U16∣"Gap.__init__") (k16:-f16)
  (a17:Gap/"plain"/f17) (l17:17∘"plain"∘"Gap.plain"∘BaU) (c17:U17∣"Gap.plain") (k17:-f17)
  (a18:f18∘"is_part") (l18:18∘"is_part"∘Bbu) (c18:U18∣"is_part") (k18:-f18)
  (a19:f19∘"is_gap") (l19:19∘"is_gap"∘Bb5) (c19:U19∣"is_gap") (k19:-f19)
  (a20:f20∘"part_of") (l20:20∘"part_of"∘Bbv) (c20:U20∣"part_of") (k20:-f20)
  (a21:f21∘"gap_of") (l21:21∘"gap_of"∘Bb6) (c21:U21∣"gap_of") (k21:-f21)
  (a22:Joints/"__init__"/f22) (l22:22∘"__init__"∘"Joints.__init__"∘Bag) (c22:U22∣"Joints.__init__") (k22:-f22)
  (a23:Joints/"link"/f23) (l23:23∘"link"∘"Joints.link"∘BaA) (c23:U23∣"Joints.link") (k23:-f23)
  (a24:Joints/"way_between"/f24) (l24:24∘"way_between"∘"Joints.way_between"∘Bad) (c24:U24∣"Joints.way_between") (k24:-f24)
  (a25:Thing/"__init__"/f25) (l25:25∘"__init__"∘"Thing.__init__"∘Baj) (c25:U25∣"Thing.__init__") (k25:-f25)
  (a26:Thing/"parts"/f26) (l26:26∘"parts"∘"Thing.parts"∘BaB) (c26:U26∣"Thing.parts") (k26:-f26)
  (a27:Thing/"gaps"/f27) (l27:27∘"gaps"∘"Thing.gaps"∘BaJ) (c27:U27∣"Thing.gaps") (k27:-f27)
  (a28:Thing/"way"/f28) (l28:28∘"way"∘"Thing.way"∘BaV) (c28:U28∣"Thing.way") (k28:-f28)
  (a29:Thing/"middle"/f29) (l29:29∘"middle"∘"Thing.middle"∘Bas) (c29:U29∣"Thing.middle") (k29:-f29)
  (a30:Thing/"room"/f30) (l30:30∘"room"∘"Thing.room"∘BaK) (c30:U30∣"Thing.room") (k30:-f30)
  (a31:Scale/"__init__"/f31) (l31:31∘"__init__"∘"Scale.__init__"∘Bak) (c31:U31∣"Scale.__init__") (k31:-f31)
  (a32:Scale/"lifted"/f32) (l32:32∘"lifted"∘"Scale.lifted"∘Bat) (c32:U32∣"Scale.lifted") (k32:-f32)
  (a33:Scale/"lowered"/f33) (l33:33∘"lowered"∘"Scale.lowered"∘Bao) (c33:U33∣"Scale.lowered") (k33:-f33)
  (a34:f34∘"scale_of") (l34:34∘"scale_of"∘Ba1) (c34:U34∣"scale_of") (k34:-f34)
  (a35:f35∘"part_names") (l35:35∘"part_names"∘BaL) (c35:U35∣"part_names") (k35:-f35)
  (a36:Lid/"__init__"/f36) (l36:36∘"__init__"∘"Lid.__init__"∘Bau) (c36:U36∣"Lid.__init__") (k36:-f36)
  (a37:Lid/"full_level"/f37) (l37:37∘"full_level"∘"Lid.full_level"∘Bal) (c37:U37∣"Lid.full_level") (k37:-f37)
  (a38:Lid/"settle"/f38) (l38:38∘"settle"∘"Lid.settle"∘BaM) (c38:U38∣"Lid.settle") (k38:-f38)
  (a39:Lid/"has_stopped"/f39) (l39:39∘"has_stopped"∘"Lid.has_stopped"∘Bah) (c39:U39∣"Lid.has_stopped") (k39:-f39)
  (a40:f40∘"lids_of") (l40:40∘"lids_of"∘Bbw) (c40:U40∣"lids_of") (k40:-f40)
  (a41:f41∘"most_levels") (l41:41∘"most_levels"∘BaC) (c41:U41∣"most_levels") (k41:-f41)
  (a42:f42∘"coming_stops") (l42:42∘"coming_stops"∘Bav) (c42:U42∣"coming_stops") (k42:-f42)
  (a43:f43∘"first_level") (l43:43∘"first_level"∘BaD) (c43:U43∣"first_level") (k43:-f43)
  (a44:f44∘"stopped_at") (l44:44∘"stopped_at"∘BaN) (c44:U44∣"stopped_at") (k44:-f44)
  (a45:f45∘"risen_levels") (l45:45∘"risen_levels"∘Baw) (c45:U45∣"risen_levels") (k45:-f45)
  (a46:f46∘"gap_stop") (l46:46∘"gap_stop"∘Ba2) (c46:U46∣"gap_stop") (k46:-f46)
  (a47:f47∘"share") (l47:47∘"share"∘Bct) (c47:U47∣"share") (k47:-f47)
  (a48:f48∘"_law_cell") (l48:48∘"_law_cell"∘Ba3) (c48:U48∣"_law_cell") (k48:-f48)
  (a49:f49∘"_law_low") (l49:49∘"_law_low"∘Bbx) (c49:U49∣"_law_low") (k49:-f49)
  (a50:f50∘"_law_plus") (l50:50∘"_law_plus"∘Ba4) (c50:U50∣"_law_plus") (k50:-f50)
  (a51:f51∘"_law_name") (l51:51∘"_law_name"∘Ba5) (c51:U51∣"_law_name") (k51:-f51)
  (a52:f52∘"_law_parts") (l52:52∘"_law_parts"∘BaW) (c52:U52∣"_law_parts") (k52:-f52)
  (a53:f53∘"_law_listed") (l53:53∘"_law_listed"∘BaP) (c53:U53∣"_law_listed") (k53:-f53)
  (a54:f54∘"_law_gaps") (l54:54∘"_law_gaps"∘Ba6) (c54:U54∣"_law_gaps") (k54:-f54)
  (a55:f55∘"_law_whole") (l55:55∘"_law_whole"∘BaX) (c55:U55∣"_law_whole") (k55:-f55)
  (a56:f56∘"_law_slacks") (l56:56∘"_law_slacks"∘BaQ) (c56:U56∣"_law_slacks") (k56:-f56)
  (a57:f57∘"_law_kept") (l57:57∘"_law_kept"∘Ba7) (c57:U57∣"_law_kept") (k57:-f57)
  (a58:f58∘"law") (l58:58∘"law"∘Bc8) (c58:U58∣"law") (k58:-f58)
  (z_abs:W.nsIn K mainGlobals "abs"=some none)
  (z_isinstance:W.nsIn K mainGlobals "isinstance"=some none)
  (z_len:W.nsIn K mainGlobals "len"=some none)
  (z_int:W.nsIn K mainGlobals "int"=some none)
  (z_bool:W.nsIn K mainGlobals "bool"=some none)
  (z_tuple:W.nsIn K mainGlobals "tuple"=some none)
  (z_str:W.nsIn K mainGlobals "str"=some none)
  (z_range:W.nsIn K mainGlobals "range"=some none)
  (z_list:W.nsIn K mainGlobals "list"=some none)
  (z_min:W.nsIn K mainGlobals "min"=some none)
  (z_sorted:W.nsIn K mainGlobals "sorted"=some none)
  (z_all:W.nsIn K mainGlobals "all"=some none)
  (z_sum:W.nsIn K mainGlobals "sum"=some none)
  (z_dict:W.nsIn K mainGlobals "dict"=some none)
  (Ba9:W.nsIn K mainGlobals "SMALL_LETTERS"=some (some (.str "abcdefghijklmnopqrstuvwxyz" Baa)))
  (Bbj:W.nsIn K mainGlobals "LONGEST_NAME"=some (some (.int 8 Bab)))
  (BdK:ZERO∘"ZERO")
  (h_ZERO:K.lookup ZERO=some ⟨.type "tuple",Bd1, .seq #[.int 0 BdU, .int 1 BdV] Bd2,Bd3⟩)
  (x_NoNumber:W.excIn K NoNumber [.type "ValueError", .type "Exception", .type "BaseException", .type "object"] "ValueError.__new__"=true)
  (Bcp:W.excIn K Twice [.type "ValueError", .type "Exception", .type "BaseException", .type "object"] "ValueError.__new__"=true)
  (Bb9:W.excIn K NoName [.type "ValueError", .type "Exception", .type "BaseException", .type "object"] "ValueError.__new__"=true)
  (Bca:W.excIn K NoPart [.type "ValueError", .type "Exception", .type "BaseException", .type "object"] "ValueError.__new__"=true)
  (BcC:W.excIn K NoGap [.type "ValueError", .type "Exception", .type "BaseException", .type "object"] "ValueError.__new__"=true)
  (Bcb:W.excIn K InRing [.type "ValueError", .type "Exception", .type "BaseException", .type "object"] "ValueError.__new__"=true)
  (BcD:W.excIn K Apart [.type "ValueError", .type "Exception", .type "BaseException", .type "object"] "ValueError.__new__"=true)
  (Bdx:W.makesIn K Part=true)
  (Bdy:Part/"__init__"/f14)
  (Bdz:W.isFn K (.ref f14)=true)
  (BdA:-Part)
  (BdL:W.makesIn K Gap=true)
  (BdM:Gap/"__init__"/f16)
  (BdN:W.isFn K (.ref f16)=true)
  (BdO:-Gap)
  (BcS:W.makesIn K Joints=true)
  (BcT:Joints/"__init__"/f22)
  (BcU:W.isFn K (.ref f22)=true)
  (BcV:-Joints)
  (Bdf:W.makesIn K Thing=true)
  (Bdg:Thing/"__init__"/f25)
  (Bdh:W.isFn K (.ref f25)=true)
  (Bdi:-Thing)
  (Bdj:W.makesIn K Scale=true)
  (Bdk:Scale/"__init__"/f31)
  (Bdl:W.isFn K (.ref f31)=true)
  (Bdm:-Scale)
  (mk_Lid:W.makesIn K Lid=true)
  (mi_Lid:Lid/"__init__"/f36)
  (mf_Lid:W.isFn K (.ref f36)=true)
  (mp_Lid:-Lid)
  (BbB:Part/"plain"/f15)
  (BbC:W.isFn K (.ref f15)=true)
  (BbZ:Gap/"plain"/f17)
  (Bb0:W.isFn K (.ref f17)=true)
  (Bbk:Joints/"link"/f23)
  (Bbl:W.isFn K (.ref f23)=true)
  (Bax:Joints/"way_between"/f24)
  (Bay:W.isFn K (.ref f24)=true)
  (Bbm:Thing/"parts"/f26)
  (Bbn:W.isFn K (.ref f26)=true)
  (BbD:Thing/"gaps"/f27)
  (BbE:W.isFn K (.ref f27)=true)
  (Bb1:Thing/"way"/f28)
  (Bb2:W.isFn K (.ref f28)=true)
  (Bba:Thing/"middle"/f29)
  (Bbb:W.isFn K (.ref f29)=true)
  (BbF:Thing/"room"/f30)
  (BbG:W.isFn K (.ref f30)=true)
  (Bbc:Scale/"lifted"/f32)
  (Bbd:W.isFn K (.ref f32)=true)
  (me_lowered_Scale:Scale/"lowered"/f33)
  (mm_lowered_Scale:W.isFn K (.ref f33)=true)
  (me_full_level_Lid:Lid/"full_level"/f37)
  (mm_full_level_Lid:W.isFn K (.ref f37)=true)
  (me_settle_Lid:Lid/"settle"/f38)
  (mm_settle_Lid:W.isFn K (.ref f38)=true)
  (me_has_stopped_Lid:Lid/"has_stopped"/f39)
  (mm_has_stopped_Lid:W.isFn K (.ref f39)=true)
  (Bcc:W.plainGet K Part Str.empty=true)
  (Bcd:W.hasDictIn K Part=true)
  (Bce:W.plainOver K Part=true)
  (Bcf:W.findIn K (.ref Part) "__setattr__"=some (some (.builtin "object.__setattr__")))
  (Bcg:Part/"name")
  (Bch:Part/"start")
  (Bci:Part/"end")
  (Bcj:Part/"size")
  (Bck:Part/"most")
  (Bcl:Part/"weight")
  (BcE:W.plainGet K Gap Str.empty=true)
  (BcF:W.hasDictIn K Gap=true)
  (BcG:W.plainOver K Gap=true)
  (BcH:W.findIn K (.ref Gap) "__setattr__"=some (some (.builtin "object.__setattr__")))
  (BcI:Gap/"name")
  (BcJ:Gap/"one")
  (BcK:Gap/"other")
  (BcL:Gap/"low")
  (BcM:Gap/"high")
  (Bbo:W.plainGet K Joints Str.empty=true)
  (Bbp:W.hasDictIn K Joints=true)
  (Bbq:W.plainOver K Joints=true)
  (Bbr:W.findIn K (.ref Joints) "__setattr__"=some (some (.builtin "object.__setattr__")))
  (Bbs:Joints/"leads")
  (BbH:W.plainGet K Thing Str.empty=true)
  (BbI:W.hasDictIn K Thing=true)
  (BbJ:W.plainOver K Thing=true)
  (BbK:W.findIn K (.ref Thing) "__setattr__"=some (some (.builtin "object.__setattr__")))
  (BbL:Thing/"parts_by_name")
  (BbM:Thing/"gaps_by_name")
  (BbN:Thing/"ways")
  (BbO:W.plainGet K Scale Str.empty=true)
  (BbP:W.hasDictIn K Scale=true)
  (BbQ:W.plainOver K Scale=true)
  (BbR:W.findIn K (.ref Scale) "__setattr__"=some (some (.builtin "object.__setattr__")))
  (BbS:Scale/"bottom")
  (BbT:Scale/"factors")
  (cl1_Lid:W.plainGet K Lid Str.empty=true)
  (cl2_Lid:W.hasDictIn K Lid=true)
  (cl3_Lid:W.plainOver K Lid=true)
  (cl4_Lid:W.findIn K (.ref Lid) "__setattr__"=some (some (.builtin "object.__setattr__")))
  (na1_Lid:Lid/"name")
  (na2_Lid:Lid/"rest")
  (na3_Lid:Lid/"weights")
  (na4_Lid:Lid/"load")
  (na5_Lid:Lid/"last_level")
  : ∃ fd:FuncData,(∀ (s:Shared) (v:Value),BindsTo s fd ⟨[v],[]⟩ [("_law_script",v)])/\∀ base:Heap,K.In base->base.Ns mainGlobals mg->FnOk l.prog w K mg base (CX1 l.prog w) 11 fa fd ["_law_script"] (Bdn K):=by
 have e:=hfa.symm.trans (W.mg_of X G a58);cases e;have T:Txt K mg ∅:=⟨W.mg_none_of X G z_abs,W.mg_none_of X G z_isinstance,W.mg_none_of X G z_len,W.mg_none_of X G z_int,W.mg_none_of X G z_bool,W.mg_none_of X G z_tuple,W.mg_none_of X G z_str,W.mg_none_of X G z_range,W.mg_none_of X G z_list,W.mg_none_of X G z_min,W.mg_none_of X G z_sorted,W.mg_none_of X G z_all,W.mg_none_of X G z_sum,W.mg_none_of X G z_dict,W.mg_of X G g_NoNumber,W.mg_of X G Bdu,W.mg_of X G Bda,W.mg_of X G Bdb,W.mg_of X G Bdv,W.mg_of X G Bdc,W.mg_of X G Bdw,W.mg_of X G BdD,W.mg_of X G BdW,W.mg_of X G Bcy,W.mg_of X G Bdd,W.mg_of X G Bde,W.mg_of X G g_Lid,W.mg_of X G Ba9,⟨_,rfl⟩,W.mg_of X G Bbj,⟨_,rfl⟩,W.mg_of X G BdK,rfl,fun H=>.inr ⟨_,_,_,h_ZERO,rfl,rfl,by show 2<=sizeLine; decide, .cons ⟨_,rfl⟩ (.cons ⟨_,rfl⟩ (.nil))⟩,x_NoNumber,Bcp,Bb9,Bca,BcC,Bcb,BcD,Bcc,Bcd,Bce,Bcf,Bcg,Bch,Bci,Bcj,Bck,Bcl,BcE,BcF,BcG,BcH,BcI,BcJ,BcK,BcL,BcM,Bbo,Bbp,Bbq,Bbr,Bbs,BbH,BbI,BbJ,BbK,BbL,BbM,BbN,BbO,BbP,BbQ,BbR,BbS,BbT,cl1_Lid,cl2_Lid,cl3_Lid,cl4_Lid,na1_Lid,na2_Lid,na3_Lid,na4_Lid,na5_Lid,(fun C hC=>by cases hC; exact ⟨⟨Bcc,Bcd,Bce,Bcf⟩,Bcg,Bch,Bci,Bcj,Bck,Bcl⟩),(fun C hC=>by cases hC; exact ⟨⟨BcE,BcF,BcG,BcH⟩,BcI,BcJ,BcK,BcL,BcM⟩),(fun C hC=>by cases hC; exact ⟨⟨Bbo,Bbp,Bbq,Bbr⟩,Bbs⟩),(fun C hC=>by cases hC; exact ⟨⟨BbH,BbI,BbJ,BbK⟩,BbL,BbM,BbN⟩),(fun C hC=>by cases hC; exact ⟨⟨BbO,BbP,BbQ,BbR⟩,BbS,BbT⟩),(fun C hC=>by cases hC; exact ⟨⟨cl1_Lid,cl2_Lid,cl3_Lid,cl4_Lid⟩,na1_Lid,na2_Lid,na3_Lid,na4_Lid,na5_Lid⟩)⟩;have F1:=Jao l1 c1 k1;have F2:=Jao l2 c2 k2;have F3:=Jao l3 c3 k3;have F4:=Jao l4 c4 k4;have F5:=Jao l5 c5 k5;have F6:=Jao l6 c6 k6;have F7:=Jao l7 c7 k7;have F8:=Jao l8 c8 k8;have F9:=Jao l9 c9 k9;have F10:=Jao l10 c10 k10;have F11:=Jao l11 c11 k11;have F12:=Jao l12 c12 k12;have F13:=Jao l13 c13 k13;have F14:=Jao l14 c14 k14;have F15:=Jao l15 c15 k15;have F16:=Jao l16 c16 k16;have F17:=Jao l17 c17 k17;have F18:=Jao l18 c18 k18;have F19:=Jao l19 c19 k19;have F20:=Jao l20 c20 k20;have F21:=Jao l21 c21 k21;have F22:=Jao l22 c22 k22;have F23:=Jao l23 c23 k23;have F24:=Jao l24 c24 k24;have F25:=Jao l25 c25 k25;have F26:=Jao l26 c26 k26;have F27:=Jao l27 c27 k27;have F28:=Jao l28 c28 k28;have F29:=Jao l29 c29 k29;have F30:=Jao l30 c30 k30;have F31:=Jao l31 c31 k31;have F32:=Jao l32 c32 k32;have F33:=Jao l33 c33 k33;have F34:=Jao l34 c34 k34;have F35:=Jao l35 c35 k35;have F36:=Jao l36 c36 k36;have F37:=Jao l37 c37 k37;have F38:=Jao l38 c38 k38;have F39:=Jao l39 c39 k39;have F40:=Jao l40 c40 k40;have F41:=Jao l41 c41 k41;have F42:=Jao l42 c42 k42;have F43:=Jao l43 c43 k43;have F44:=Jao l44 c44 k44;have F45:=Jao l45 c45 k45;have F46:=Jao l46 c46 k46;have F47:=Jao l47 c47 k47;have F48:=Jao l48 c48 k48;have F49:=Jao l49 c49 k49;have F50:=Jao l50 c50 k50;have F51:=Jao l51 c51 k51;have F52:=Jao l52 c52 k52;have F53:=Jao l53 c53 k53;have F54:=Jao l54 c54 k54;have F55:=Jao l55 c55 k55;have F56:=Jao l56 c56 k56;have F57:=Jao l57 c57 k57;have F58:=Jao l58 c58 k58;refine ⟨W.fnOf "law" "law" (Jam Bc8) (Jal Bc8) (Jae Bc8) .none E58 G58 M58 B58 U58 V58,fun s v=>.of_eq rfl,fun base _ _=>?_⟩;have cC:∀ {k:Nat} {x:Str} {ps:List Str} {sp:Sp} {f:Addr} {fd:FuncData},FnOk l.prog w K mg base (CX1 l.prog w) k f fd ps sp->W.nsIn K mainGlobals x=some (some (.ref f))->W.keepIn K (.ref f)=true->Binds K fd ps []->Cal l.prog w K mg base k x ps [] sp:=fun h a c b=>⟨_,_,[],h,W.mg_of X G a,c,b, .nil⟩;have cK:∀ {k:Nat} {x:Str} {ps:List Str} {sp:Sp} {f C:Addr} {fd:FuncData},FnOk l.prog w K mg base (CX1 l.prog w) k f fd ps sp->W.nsIn K mainGlobals x=some (some (.ref C))->Mk K C f->Binds K fd ps []->KCal l.prog w K mg base k x C ps sp:=fun h a c b=>⟨_,_,h,W.mg_of X G a,c,b⟩;have cM:∀ {k:Nat} {m:Str} {Cs:Addr->Prop} {ps:List Str} {sp:Sp} {f:Addr} {fd:FuncData},FnOk l.prog w K mg base (CX1 l.prog w) k f fd ps sp->(∀ C,Cs C->Cls K C/\Meth K C m f)->W.keepIn K (.ref f)=true->Binds K fd ps []->MCal l.prog w K mg base k m Cs ps sp:=fun h a c b=>⟨_,_,h,a,c,b⟩;have Bac:=cC (Jdy F1 T) a1 k1 (F1.binds (by bv_omega));have Bc0:=cC (JkC F2 T Bac) a2 k2 (F2.binds (by bv_omega));have Bbg:=cC (Jjf F3 T Bc0) a3 k3 (F3.binds (by bv_omega));have Bbf:=cC (Jjh F4 T Bac) a4 k4 (F4.binds (by bv_omega));have Bc2:=cC (JkB F5 T Bbf) a5 k5 (F5.binds (by bv_omega));have BaF:=cC (Jji F6 T) a6 k6 (F6.binds (by bv_omega));have BaE:=cC (Jhs F7 T) a7 k7 (F7.binds (by bv_omega));have BaR:=cC (Jgq F8 T) a8 k8 (F8.binds (by bv_omega));have Baq:=cC (Jez F9 T BaR Bac) a9 k9 (F9.binds (by bv_omega));have Bb3:=cC (Jgp F10 T Baq) a10 k10 (F10.binds (by bv_omega));have BaT:=cC (JfQ F11 T BaE) a11 k11 (F11.binds (by bv_omega));have BbU:=cC (Je9 F12 T Bb3 BaF) a12 k12 (F12.binds (by bv_omega));have Bc3:=cC (Jij F13 T BaE BaT BbU) a13 k13 (F13.binds (by bv_omega));have BdH:=cK (JdK F14 T) BdD ⟨Bdx,Bdy,Bdz,BdA⟩ (F14.binds (by bv_omega));have Bdr:=cM (m:="plain") (Cs:=IsPart ∅) (Je6 F15 T) (fun C hC=>⟨(T.BcY C hC).cls,(by cases hC; exact ⟨BbB,BbC,k15⟩)⟩) k15 (F15.binds (by bv_omega));have Bd0:=cK (Jea F16 T) BdW ⟨BdL,BdM,BdN,BdO⟩ (F16.binds (by bv_omega));have BcQ:=cM (m:="plain") (Cs:=IsGap ∅) (JfO F17 T) (fun C hC=>⟨(T.BdG C hC).cls,(by cases hC; exact ⟨BbZ,Bb0,k17⟩)⟩) k17 (F17.binds (by bv_omega));have BcO:=cC (Jht F18 T BaE BaT Baq BaR BaF) a18 k18 (F18.binds (by bv_omega));have Bc4:=cC (Jii F19 T Bc3) a19 k19 (F19.binds (by bv_omega));have BcP:=cC (Jhw F20 T BcO BdH) a20 k20 (F20.binds (by bv_omega));have Bc6:=cC (Jih F21 T Bc4 Bd0) a21 k21 (F21.binds (by bv_omega));have Bc5:=cK (Jdd F22 T) Bcy ⟨BcS,BcT,BcU,BcV⟩ (F22.binds (by bv_omega));have BdI:=cM (m:="link") (Cs:=Jc6 ∅) (Jew F23 T) (fun C hC=>⟨(T.Bcm C hC).cls,(by cases hC; exact ⟨Bbk,Bbl,k23⟩)⟩) k23 (F23.binds (by bv_omega));have BaY:=cM (m:="way_between") (Cs:=Jc6 ∅) (JcE F24 T) (fun C hC=>⟨(T.Bcm C hC).cls,(by cases hC; exact ⟨Bax,Bay,k24⟩)⟩) k24 (F24.binds (by bv_omega));have Bdt:=cK (Jdx F25 T Bc5 BcP Bc6 BaY BdI) Bdd ⟨Bdf,Bdg,Bdh,Bdi⟩ (F25.binds (by bv_omega));have BaG:=cM (m:="parts") (Cs:=Ja8 ∅) (Jex F26 T Bdr) (fun C hC=>⟨(T.Ba8 C hC).cls,(by cases hC; exact ⟨Bbm,Bbn,k26⟩)⟩) k26 (F26.binds (by bv_omega));have Bcn:=cM (m:="gaps") (Cs:=Ja8 ∅) (Je7 F27 T BcQ) (fun C hC=>⟨(T.Ba8 C hC).cls,(by cases hC; exact ⟨BbD,BbE,k27⟩)⟩) k27 (F27.binds (by bv_omega));have BdE:=cM (m:="way") (Cs:=Ja8 ∅) (JfP F28 T) (fun C hC=>⟨(T.Ba8 C hC).cls,(by cases hC; exact ⟨Bb1,Bb2,k28⟩)⟩) k28 (F28.binds (by bv_omega));have Bc7:=cM (m:="middle") (Cs:=Ja8 ∅) (Jed F29 T BdE Bc0 Bbg) (fun C hC=>⟨(T.Ba8 C hC).cls,(by cases hC; exact ⟨Bba,Bbb,k29⟩)⟩) k29 (F29.binds (by bv_omega));have BdJ:=cM (m:="room") (Cs:=Ja8 ∅) (Je8 F30 T Bc7 Bbg BaF) (fun C hC=>⟨(T.Ba8 C hC).cls,(by cases hC; exact ⟨BbF,BbG,k30⟩)⟩) k30 (F30.binds (by bv_omega));have Bds:=cK (Jdw F31 T Bac) Bde ⟨Bdj,Bdk,Bdl,Bdm⟩ (F31.binds (by bv_omega));have Bb7:=cM (m:="lifted") (Cs:=Jdq ∅) (Jec F32 T Bac) (fun C hC=>⟨(T.BcN C hC).cls,(by cases hC; exact ⟨Bbc,Bbd,k32⟩)⟩) k32 (F32.binds (by bv_omega));have m_lowered:=cM (m:="lowered") (Cs:=Jdq ∅) (JdL F33 T Bac) (fun C hC=>⟨(T.BcN C hC).cls,(by cases hC; exact ⟨me_lowered_Scale,mm_lowered_Scale,k33⟩)⟩) k33 (F33.binds (by bv_omega));have Bcu:=cC (Jgw F34 T BaG Bcn Bds) a34 k34 (F34.binds (by bv_omega));have BbV:=cC (Jfc F35 T BdE) a35 k35 (F35.binds (by bv_omega));have k_Lid:=cK (Jeb F36 T) g_Lid ⟨mk_Lid,mi_Lid,mf_Lid,mp_Lid⟩ (F36.binds (by bv_omega));have m_full_level:=cM (m:="full_level") (Cs:=IsLid ∅) (Jdv F37 T Bc2) (fun C hC=>⟨(T.c_Lid C hC).cls,(by cases hC; exact ⟨me_full_level_Lid,mm_full_level_Lid,k37⟩)⟩) k37 (F37.binds (by bv_omega));have m_settle:=cM (m:="settle") (Cs:=IsLid ∅) (Je5 F38 T Bbg Bbf) (fun C hC=>⟨(T.c_Lid C hC).cls,(by cases hC; exact ⟨me_settle_Lid,mm_settle_Lid,k38⟩)⟩) k38 (F38.binds (by bv_omega));have m_has_stopped:=cM (m:="has_stopped") (Cs:=IsLid ∅) (Jde F39 T) (fun C hC=>⟨(T.c_Lid C hC).cls,(by cases hC; exact ⟨me_has_stopped_Lid,mm_has_stopped_Lid,k39⟩)⟩) k39 (F39.binds (by bv_omega));have BcR:=cC (Jhv F40 T BaG Bcn BdJ BaF BbV k_Lid Bb7) a40 k40 (F40.binds (by bv_omega));have Bbz:=cC (JeA F41 T BaG Bb7 Bc2) a41 k41 (F41.binds (by bv_omega));have Bbh:=cC (Jee F42 T m_full_level) a42 k42 (F42.binds (by bv_omega));have Bby:=cC (Jey F43 T BaF) a43 k43 (F43.binds (by bv_omega));have BbW:=cC (Jfd F44 T) a44 k44 (F44.binds (by bv_omega));have Bbi:=cC (Jef F45 T Bbh Bby BbW m_settle) a45 k45 (F45.binds (by bv_omega));have Bcv:=cC (Jgo F46 T m_has_stopped) a46 k46 (F46.binds (by bv_omega));have Bc9:=cC (Jjg F47 T Bcu BcR Bbz Bbi BaG m_lowered Bbf Bcv) a47 k47 (F47.binds (by bv_omega));have Bae:=cC (Jgr F48 T) a48 k48 (F48.binds (by bv_omega));have Bam:=cC (Jhu F49 T) a49 k49 (F49.binds (by bv_omega));have Bap:=cC (Jgv F50 T Bam) a50 k50 (F50.binds (by bv_omega));have BaO:=cC (Jgu F51 T) a51 k51 (F51.binds (by bv_omega));have Bb8:=cC (JfR F52 T Bae BaO Bam Bap) a52 k52 (F52.binds (by bv_omega));have BbX:=cC (Jfa F53 T Bae) a53 k53 (F53.binds (by bv_omega));have Bcw:=cC (Jgs F54 T Bae BaO Bam Bap) a54 k54 (F54.binds (by bv_omega));have BbA:=cC (JfS F55 T) a55 k55 (F55.binds (by bv_omega));have BbY:=cC (Jfb F56 T BbA Bam) a56 k56 (F56.binds (by bv_omega));have Bcx:=cC (Jgt F57 T Bap) a57 k57 (F57.binds (by bv_omega));exact Jlr F58 T Bae Bb8 BbX Bcw Bdt Bc9 BbY Bcx BaG Bcn
theorem walk {l:PySem.W.OpenLaw} {q:Program} {loose:List Str} {XP:(Str->Option Value)->Heap->Prop} {YP:World->Heap->Prop} {d:DefRec} {K:Params->PySem.W.Frag} (hn:l.most=some 63) (hdf:d.params.defaults=[])
  (hY:∀ (w:World) (h:Heap),YP w h->(K w.params).In h)
  (F:∀ (w:World) (mg:Str->Option Value) (fa:Addr) (h:Heap),(K w.params).In h->h.Ns mainGlobals mg->mg d.name=some (.ref fa) ->
   ∃ fd:FuncData,(∀ (s:Shared) (u:Value),BindsTo s fd ⟨[u],[]⟩ [("_law_script",u)])/\∀ base:Heap,(K w.params).In base->base.Ns mainGlobals mg->FnOk l.prog w (K w.params) mg base (CX1 l.prog w) 11 fa fd ["_law_script"] (Bdn (K w.params))) :
  PySem.W.WalkO q loose XP YP l.row.toRowW d [] (fun f vs=>PySem.call f vs) :=
 L2.JiZ (n:=63) (k:=11) (x:="_law_script") (CX:=fun w=>CX1 l.prog w) (sp:=fun w=>Bdn (K w.params)) hn (by decide) hdf ⟨rfl,by decide,by decide⟩ hY F (fun _ _ a ns hl _ hS=>⟨a,ns,rfl,hS,hl,fun _=>rfl⟩) fun _ _ _ _ _ z=>by
  obtain ⟨_,_,_,_,_,_,_,_,_,_,_,z⟩:=z;exact z
end Prg
open PySem PySem.W PyProof.Rows
local macro_rules|`(command|universe $xs*)=>do return Lean.mkNullNode (<-xs.mapM fun x=>`(command|def $(Lean.mkIdent (.str `PySem.W.Fast s!"tw{(x.getId.toString.drop 1)}")):ident:Nat:=0))
universe u10006056921982379217 u10035593636878438942 u1004880644943993125 u10052128172623541305 u10075372200036262786 u10121794852244001525 u10139680006099090799 u10145138106797595091 u10171733083468277724 u10214035051650850214 u10214555430844133813 u10224206028320238089 u10225730429375944376 u10257154812281162469 u10269833967681438626 u10278531968785970050 u10280563573667035343 u10407188138655888025 u10430180289356002130 u10503425679702062447 u10522978647508868741 u10608266524558363369 u10712633469956681162 u10838714597110972120 u108546322624348715 u10904149506759466039 u1094937378301687001 u10965882613414015349 u10967247179631972336 u11037750953659239550 u11038337866466204050 u1107307850983746261 u11082484728807923135 u11112473701790117309 u11120934897980702511 u11151471297221191924 u11161440898567868310 u11167579994045419907 u11173489504646030808 u11220093473959475885 u11236610877526521425 u1124083049680578542 u11274991324376519976 u11280792619274569192 u11294263350813980702 u1133842663591641677 u1139168211226892477 u11442168017480735584 u11479207766307667551 u11568630499284700467 u1157762395253155482 u11587901291522433150 u11645645599696679500 u11694947303386784 u11712648531459136556 u11832677825078990757 u11835343254300806242 u1185166962199686473 u11853058984014256249 u11887093745823998456 u11922096458625729803 u1195429818439329905 u11987206822145553683 u12017277612153894888 u12039506187979539847 u12050814089494556825 u12053982071084916097 u12061198000077183186 u12066032637822880408 u12122918034346700213 u12134061450559942637 u12139250925818491191 u12199837067725241535 u1222740588040460162 u12249321920289787080 u12282961015547301788 u123630608806587346 u12374957406211333494 u12412386800385163063 u12418558135699460017 u12441037241013233582 u12492870207276921418 u12509312905353656503 u12509918122658118615 u12525200040837847752 u12578522814637901236 u12635731588849807344 u1264773082669002404 u12659901194456505403 u12683380608086209009 u12734329824550683914 u12734569701642412256 u12748792313427807451 u12752666484565716037 u12811402582417294503 u12833648412062459204 u12852655081152269014 u12873501791058725736 u12929057050327432323 u12950915607878226142 u12981537805875155299 u12983867150425042645 u13033417323492732826 u13037380603584684805 u13044693159697725733 u13072925362581113096 u13099183219998234789 u13114246581698679758 u13151140582488920420 u13196461088894050000 u13200406082198884 u1322621052910407646 u13233350983037084745 u13250710808595984068 u13293711132382391590 u1329676949137127059 u13330023955371769285 u13389418787640297836 u13401757748085965857 u13472325639493021971 u13488056394090793579 u13499841902035284689 u13511382881527050515 u13597327047362025936 u13602322072850779499 u13630467500563884594 u13630606243738863473 u13679199698627168599 u1372497008762849306 u13726672784712499475 u13772221929961143312 u13781697643043427442 u13837408890139416242 u13875720222564077878 u13876352355794700103 u13887801559713083482 u13902024452017602816 u13932197129282041133 u13959446413631202175 u13973753926726758814 u14066874052702893456 u14092063653214531788 u14104272153968718384 u14108654420039671734 u14127846821334589599 u1415073182383309081 u14156991681581134384 u14165233669663207926 u14185173274757126691 u14216778431289695789 u1424613101397725230 u14301704405414879186 u14331890706572434674 u14357962802182232426 u14384163728253395063 u14411598797793464314 u14418077645974170697 u14423220855342639138 u14447436120269631412 u1445192447442337895 u14532531044132047326 u14594259918142300818 u14596277865841096272 u1464783087423721907 u14648447480054027551 u14766431579262339798 u14799891096474196938 u14826876063327195098 u14839859350009580855 u14894980695600664759 u14915138058704648015 u14953449593526928426 u14954998252153370229 u14970681038378959802 u14979555068342052800 u14998430112730517507 u15000883837493295930 u15009530664949965912 u15009971722515731966 u1505408339811898680 u15068951393350005031 u15090059848692619230 u15138978329528520484 u15158727787927578235 u15193466352903378139 u15253980459649228311 u15281983212350912932 u15306002267150156277 u15324064949028595405 u15340347138218994279 u15350210128392433270 u15366232243906563805 u15384884399965894580 u15415592210444986628 u15431855643989431438 u1545262932532789548 u15495849875458139653 u15581877675496557618 u1563213821878244989 u1563364064208552198 u15652011420189031882 u15663395136894816277 u1571812195185445046 u15722815863413750170 u15737359369770907354 u15752365993827967793 u15800583906607199083 u15808901228359771985 u15885072635419905187 u15908187873921352223 u15951735374872896720 u15976777696402512315 u15977877498802592264 u16000019399636397863 u16006719172746357921 u16094948485499593241 u16118887009941965564 u16133399509166083493 u16154835748928807285 u16163426765626959221 u16174203481858705252 u16224087884379972276 u16229505820529578679 u16275679328811756758 u16426469651993556545 u16439324405564251607 u16451923937378123345 u16457790180619770488 u16520563226391477416 u16527538927862601827 u16549539831185245065 u16622365190401636381 u16689508602300216859 u167046123317541312 u16713291507172110488 u16771575916064418351 u16844376360235012829 u16892783934183738589 u16917913135652117845 u16945636954472480055 u17020734178881993860 u17052995489322246968 u17081402809512518824 u17112432951647987483 u1711766474153650538 u1714743947434335081 u17234071002969182935 u17256627143244732786 u17265243923410063649 u1739232570458481832 u17402661278453856160 u17412569476651170243 u17424162663546592816 u17466846488330057810 u17585074773244595791 u17592065141390254977 u17605616477526588350 u17667487468884595149 u17695954366906617606 u17701905828634411077 u17713879337589600215 u17713959797066794249 u17740128541389128617 u17846485050261093433 u17871856437149586964 u1791613805069467134 u1791652672790345807 u17917675017020236877 u1792437538156359418 u17960385783066728339 u17991864149236803075 u1800791048140647530 u18010077193941891976 u18040638378649314839 u18080234398375307006 u18086055850149052718 u18108907970825303856 u18129510583564934584 u18154804095077419806 u18207554234263711632 u18232204167343709579 u18233141541022845466 u18250721631178734289 u18267231886691633116 u1832180798417260517 u18328336433853238715 u18387011832395388796 u18428945132220205794 u1854550457096026517 u1863870037992442699 u1923940936032774512 u1929691266849343036 u1987932825763376287 u2005244927500982830 u2020706708513100040 u2072805580858046421 u2093590113182658027 u2162620872441910937 u2191905413625602120 u2207132476620723120 u2240689193141229363 u224115258099052230 u2312816746793933527 u2337884968957440068 u2364386705334417390 u2385202969580765286 u2418997910994893271 u242106429006115021 u2436908956136339615 u2538203099075833895 u2628507828372850368 u2636181624776472158 u2660781408345990987 u2673934752648117115 u2687604571170699250 u2710281829788217263 u2744646593132057296 u275440251262727108 u278536113471472708 u2793673362797831854 u2873705521765110586 u2892852768679702535 u2905640667405214404 u2919404818484874793 u2938771390320691868 u2953375758233996497 u2963293201952770534 u2967025660532984845 u2991497869352158302 u3025422699129666275 u3030512097721419141 u3071210762168122382 u314520761902095011 u3146977765748737724 u3149272854246558216 u321897992869129055 u3228496818979134979 u3278393532318703462 u3299042047269045011 u3303388080080137673 u3314953792220195871 u3330573049564153622 u3398280678124731711 u3418297927912049395 u3485051557768758699 u3516353853381936580 u3526569726119926268 u3554775577692800492 u3585079123706992593 u360116141754470991 u3609011800966868161 u3646364857789211760 u3741394901535816411 u3754498544582452177 u3907870182918945715 u3944728640683214620 u4001395635346577313 u4043769814741350497 u4068949765932592825 u4086023880759206084 u4112430059177196115 u4173773992322061879 u4177438830043593833 u4205919652770142431 u4212117458399470584 u4245934293692362408 u4247236897173073337 u4298954166939746908 u4309230884397079568 u4324338297120213952 u436058214139074251 u4414055964462837049 u4427937293333565407 u4448917819491052282 u4473851259281057695 u4486721485880400477 u4496391697671583689 u4540872522645486576 u4549713096961023195 u4561475876746906853 u4573571521331697575 u4583152180771462274 u4623703003605313309 u4642052377020028467 u4645256280759426618 u4668400366617517504 u4707036105748764785 u4713103720737814790 u4770156645078352975 u4778984083155650670 u4788494861840398096 u487691089174504013 u4957129984077721066 u4960408672291710059 u5011342578816006936 u5060997481220104352 u5075062297159079061 u5090834694817037487 u5094362836573006116 u51361441004451575 u5180900919160743374 u5196425178480405678 u5202295957790732688 u5230355423658249777 u5231271672930839547 u5249665452107521120 u5262067071417063446 u527020548275931429 u5293438595850827634 u5298245967850350211 u5305819980183571284 u530661685577548881 u5308351918144814088 u5317255608469554707 u5343116762098953052 u5428580767059879689 u5439363767499708958 u5442578691412490104 u5494482455565812685 u5554568167057578126 u5556416961366834489 u5589431108843570078 u5613239363551663646 u5659730351593096149 u5668507251184010498 u5710234730493550819 u5713370644152461689 u5742408532667638232 u5847723938368084630 u5855163047081264554 u5873277690123367544 u591781506751002957 u5919874238513508526 u5930866174185969319 u5948370736755349902 u5969651203861814373 u5999879002315748799 u6006718088926835801 u6009114635862792975 u6043190533952880008 u6059527888286961685 u6059605681126152952 u6088228644578897680 u6103072287369781366 u6103998788317752529 u6135811622328955285 u6136175151865418975 u6158678447888142905 u617294769594554011 u6237169572768586156 u6237724414423391508 u6293730578070245945 u6395940530403519548 u6443479231165011946 u6449882527248153559 u6535098757737673339 u6557769998156084062 u6658717059031173030 u6709396381309865443 u6739021278098740640 u6756168991229027362 u6763740679982568219 u6782909955412555526 u6791667868159928452 u6803995172834900462 u6831812960686010937 u6833575122150092911 u6861082649985475567 u6864997594536756919 u688236915263392649 u6890255129556130147 u6902457988931947398 u6917708435502822600 u6918133505088101067 u6939990304476440617 u695180135863216908 u696546096816233096 u6965589818585040800 u6976828220835841094 u6977203658951175749 u6988359569469009436 u7000408514699903577 u7020046997281128978 u7023459046193861433 u7024190200664527008 u7055305122114612584 u707345474906717232 u7080336763066741544 u712132927778582826 u7136057613840391805 u7149013081254048530 u718782275265979012 u721301837871370473 u7244693303843382055 u7292537415466506933 u7318016869359316498 u7325865026983008781 u7365356228479319836 u7388337406149485671 u7412838684139758309 u7418541393430007026 u7418812582470986211 u7455515092898565514 u7455599942144428822 u7458079705880651728 u7486468462648212023 u7529799807341048098 u7548961088355718101 u7559201786993764852 u7627688040654890566 u7650885333029189223 u7774278354966062512 u7858810259800603312 u7955238992855396438 u7999768190469004355 u8012350368488082121 u807401305170858704 u8114332765564213368 u8187164756498222456 u8216809909854548253 u8236422979969548484 u8239482401868823837 u8286026301523309425 u8298647729507270005 u8315954223872363385 u8358811484241228801 u8390007826243534718 u8421227038171270548 u8429644838266658884 u8479980563112939828 u8546936247251447265 u8643204952773042862 u8653802006313385806 u8676260727838346821 u869566290807035270 u87282637149688130 u8730637947529788893 u880759517193437929 u8815568974957755052 u8858577724000398269 u8862248818559283894 u88760879809859063 u8928397798644841095 u9064633293276831168 u9069909717374441015 u9084266264556709254 u9085173056348431200 u9102474643505390732 u9155208870938063462 u9166171554807607953 u9184971224768267801 u9202748190944270947 u9203186434104215404 u9209241151481608542 u9210539840348326597 u9224054681187763372 u9227440330346321964 u9239335603609677706 u9244215267538090949 u9253010805034043861 u9262030784905648198 u9311048333252313776 u9344007010899915059 u9349534209857746813 u9399975445834356736 u9430683513620875780 u9433083885239942290 u94519149494430395 u950783825862669650 u9581245976174950057 u9602347615358366540 u9608534932078622963 u9648270099670024934 u96945528116614330 u9720577294762593381 u9721415826910544665 u9750624933562021639 u9764406687673956369 u9777208552684970973 u9777592410953905860 u979200266832968101 u9868070955857910725 u9868662552463935134 u9871104088475344705 u9920403420381336093 u9928190268869261976 u995048145216287333 u9982134218991430452 u9991992621986948366
set_option maxRecDepth 100000 in
set_option maxHeartbeats 0 in
theorem PySem.Challenge.cw_slackchain_k54_shares_keep_every_gap_holds : PySem.Challenge.rw_slackchain_k54_shares_keep_every_gap.Holds := by
 w_on; o_law; k_head; (case hw=>w_witness2)
 k_fill
 refine Prg.walk (l:=PySem.Challenge.rw_slackchain_k54_shares_keep_every_gap) rfl rfl (fun w h Y=>PySem.W.kIn_of Y) ?F;case F=>
  intro w mg fa h KX G hmg;refine' Prg.all_mk KX G hmg ?g_NoNumber ?Bdu ?Bda ?Bdb ?Bdv ?Bdc ?Bdw ?BdD ?BdW ?Bcy ?Bdd ?Bde ?g_Lid ?a1 ?l1 ?c1 ?k1 ?a2 ?l2 ?c2 ?k2 ?a3 ?l3 ?c3 ?k3 ?a4 ?l4 ?c4 ?k4 ?a5 ?l5 ?c5 ?k5 ?a6 ?l6 ?c6 ?k6 ?a7 ?l7 ?c7 ?k7 ?a8 ?l8 ?c8 ?k8 ?a9 ?l9 ?c9 ?k9 ?a10 ?l10 ?c10 ?k10 ?a11 ?l11 ?c11 ?k11 ?a12 ?l12 ?c12 ?k12 ?a13 ?l13 ?c13 ?k13 ?a14 ?l14 ?c14 ?k14 ?a15 ?l15 ?c15 ?k15 ?a16 ?l16 ?c16 ?k16 ?a17 ?l17 ?c17 ?k17 ?a18 ?l18 ?c18 ?k18 ?a19 ?l19 ?c19 ?k19 ?a20 ?l20 ?c20 ?k20 ?a21 ?l21 ?c21 ?k21 ?a22 ?l22 ?c22 ?k22 ?a23 ?l23 ?c23 ?k23 ?a24 ?l24 ?c24 ?k24 ?a25 ?l25 ?c25 ?k25 ?a26 ?l26 ?c26 ?k26 ?a27 ?l27 ?c27 ?k27 ?a28 ?l28 ?c28 ?k28 ?a29 ?l29 ?c29 ?k29 ?a30 ?l30 ?c30 ?k30 ?a31 ?l31 ?c31 ?k31 ?a32 ?l32 ?c32 ?k32 ?a33 ?l33 ?c33 ?k33 ?a34 ?l34 ?c34 ?k34 ?a35 ?l35 ?c35 ?k35 ?a36 ?l36 ?c36 ?k36 ?a37 ?l37 ?c37 ?k37 ?a38 ?l38 ?c38 ?k38 ?a39 ?l39 ?c39 ?k39 ?a40 ?l40 ?c40 ?k40 ?a41 ?l41 ?c41 ?k41 ?a42 ?l42 ?c42 ?k42 ?a43 ?l43 ?c43 ?k43 ?a44 ?l44 ?c44 ?k44 ?a45 ?l45 ?c45 ?k45 ?a46 ?l46 ?c46 ?k46 ?a47 ?l47 ?c47 ?k47 ?a48 ?l48 ?c48 ?k48 ?a49 ?l49 ?c49 ?k49 ?a50 ?l50 ?c50 ?k50 ?a51 ?l51 ?c51 ?k51 ?a52 ?l52 ?c52 ?k52 ?a53 ?l53 ?c53 ?k53 ?a54 ?l54 ?c54 ?k54 ?a55 ?l55 ?c55 ?k55 ?a56 ?l56 ?c56 ?k56 ?a57 ?l57 ?c57 ?k57 ?a58 ?l58 ?c58 ?k58 ?z_abs ?z_isinstance ?z_len ?z_int ?z_bool ?z_tuple ?z_str ?z_range ?z_list ?z_min ?z_sorted ?z_all ?z_sum ?z_dict ?Ba9 ?Bbj ?BdK ?h_ZERO ?x_NoNumber ?Bcp ?Bb9 ?Bca ?BcC ?Bcb ?BcD ?Bdx ?Bdy ?Bdz ?BdA ?BdL ?BdM ?BdN ?BdO ?BcS ?BcT ?BcU ?BcV ?Bdf ?Bdg ?Bdh ?Bdi ?Bdj ?Bdk ?Bdl ?Bdm ?mk_Lid ?mi_Lid ?mf_Lid ?mp_Lid ?BbB ?BbC ?BbZ ?Bb0 ?Bbk ?Bbl ?Bax ?Bay ?Bbm ?Bbn ?BbD ?BbE ?Bb1 ?Bb2 ?Bba ?Bbb ?BbF ?BbG ?Bbc ?Bbd ?me_lowered_Scale ?mm_lowered_Scale ?me_full_level_Lid ?mm_full_level_Lid ?me_settle_Lid ?mm_settle_Lid ?me_has_stopped_Lid ?mm_has_stopped_Lid ?Bcc ?Bcd ?Bce ?Bcf ?Bcg ?Bch ?Bci ?Bcj ?Bck ?Bcl ?BcE ?BcF ?BcG ?BcH ?BcI ?BcJ ?BcK ?BcL ?BcM ?Bbo ?Bbp ?Bbq ?Bbr ?Bbs ?BbH ?BbI ?BbJ ?BbK ?BbL ?BbM ?BbN ?BbO ?BbP ?BbQ ?BbR ?BbS ?BbT ?cl1_Lid ?cl2_Lid ?cl3_Lid ?cl4_Lid ?na1_Lid ?na2_Lid ?na3_Lid ?na4_Lid ?na5_Lid;case g_NoNumber|Bdu|Bda|Bdb|Bdv|Bdc|Bdw|BdD|BdW|Bcy|Bdd|Bde|g_Lid|a1|l1|c1|k1|a2|l2|c2|k2|a3|l3|c3|k3|a4|l4|c4|k4|a5|l5|c5|k5|a6|l6|c6|k6|a7|l7|c7|k7|a8|l8|c8|k8|a9|l9|c9|k9|a10|l10|c10|k10|a11|l11|c11|k11|a12|l12|c12|k12|a13|l13|c13|k13|a14|l14|c14|k14|a15|l15|c15|k15|a16|l16|c16|k16|a17|l17|c17|k17|a18|l18|c18|k18|a19|l19|c19|k19|a20|l20|c20|k20|a21|l21|c21|k21|a22|l22|c22|k22|a23|l23|c23|k23|a24|l24|c24|k24|a25|l25|c25|k25|a26|l26|c26|k26|a27|l27|c27|k27|a28|l28|c28|k28|a29|l29|c29|k29|a30|l30|c30|k30|a31|l31|c31|k31|a32|l32|c32|k32|a33|l33|c33|k33|a34|l34|c34|k34|a35|l35|c35|k35|a36|l36|c36|k36|a37|l37|c37|k37|a38|l38|c38|k38|a39|l39|c39|k39|a40|l40|c40|k40|a41|l41|c41|k41|a42|l42|c42|k42|a43|l43|c43|k43|a44|l44|c44|k44|a45|l45|c45|k45|a46|l46|c46|k46|a47|l47|c47|k47|a48|l48|c48|k48|a49|l49|c49|k49|a50|l50|c50|k50|a51|l51|c51|k51|a52|l52|c52|k52|a53|l53|c53|k53|a54|l54|c54|k54|a55|l55|c55|k55|a56|l56|c56|k56|a57|l57|c57|k57|a58|l58|c58|k58|z_abs|z_isinstance|z_len|z_int|z_bool|z_tuple|z_str|z_range|z_list|z_min|z_sorted|z_all|z_sum|z_dict|Ba9|Bbj|BdK|h_ZERO=>k_is
  (case x_NoNumber=>k_exc)
  (case Bcp=>k_exc)
  (case Bb9=>k_exc)
  (case Bca=>k_exc)
  (case BcC=>k_exc)
  (case Bcb=>k_exc)
  (case BcD=>k_exc)
  case Bdx|Bdy|Bdz|BdA|BdL|BdM|BdN|BdO|BcS|BcT|BcU|BcV|Bdf|Bdg|Bdh|Bdi|Bdj|Bdk|Bdl|Bdm|mk_Lid|mi_Lid|mf_Lid|mp_Lid|BbB|BbC|BbZ|Bb0|Bbk|Bbl|Bax|Bay|Bbm|Bbn|BbD|BbE|Bb1|Bb2|Bba|Bbb|BbF|BbG|Bbc|Bbd|me_lowered_Scale|mm_lowered_Scale|me_full_level_Lid|mm_full_level_Lid|me_settle_Lid|mm_settle_Lid|me_has_stopped_Lid|mm_has_stopped_Lid|Bcc|Bcd|Bce|Bcf|Bcg|Bch|Bci|Bcj|Bck|Bcl|BcE|BcF|BcG|BcH|BcI|BcJ|BcK|BcL|BcM|Bbo|Bbp|Bbq|Bbr|Bbs|BbH|BbI|BbJ|BbK|BbL|BbM|BbN|BbO|BbP|BbQ|BbR|BbS|BbT|cl1_Lid|cl2_Lid|cl3_Lid|cl4_Lid|na1_Lid|na2_Lid|na3_Lid|na4_Lid|na5_Lid=>k_is
