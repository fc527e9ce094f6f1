import PyProof.Rows.All
import Wide.All
import OpenK.AllK
import Wide.FinOn
import Lean
import PyProof.EqAt
import PyProof.EqKinds
import PyProof.TupleCall
import PyProof.ZipIter
import PyProof.Rows.SetFrom
import PyProof.Rows.SortStr
import KE.KDictList
import PyProof.AttrMissHeap
import KE.KDictOf
import KE.KDictLaws
import KE.KRevIter
import PyProof.CollectIter
import PyProof.FactsAll.range_2
import PyProof.FactsAll.range_iterator_1
import PyProof.WalksEnum
import PyProof.EnumMake
import PyProof.Rows.Range3
import PySem.Challenge.RW_slackchain_k55_what_stops_each_part
set_option Elab.async false
set_option linter.all false
set_option maxRecDepth 100000
open List (mem_filter mem_cons_self mem_cons_of_mem mem_cons mem_append mem_append_right length_cons map_cons length_map append_nil nodup_cons length_take length_append size_toArray any_cons length_singleton map_nil cons_append length_nil not_mem_nil mem_singleton mem_map take_zero take_succ take_of_length_le map_append mem_flatMap nodup_append nil_append filter_append map_map length_filter_le)
local macro_rules|`(tactic|ac_nf)=>`(tactic|first|lia|omega)
local macro_rules|`(⋯)=>`(by decide)
local macro_rules|`(∅)=>`(by ac_nf)
local macro_rules|`(tactic|subst_eqs)=>`(tactic|(intro _ _ _ _ h;(repeat obtain ⟨_,h⟩:=h);subst_vars;rfl))
namespace L2
open PySem PySem.Spec PyProof.Rows
abbrev Key:=Sum Bool Str
def isBoolOf:Bool->Value->Bool
 | b, .bool c=>b == c
 | _,_=>false
theorem Jev {b:Bool} {v:Value} (h:isBoolOf b v=true):v=.bool b:=by
 cases v <;> simp_all [isBoolOf]
def keyIs:Key->Value->Bool
 | .inl k,v=>isBoolOf k v
 | .inr x,v=>Value.isStrOf x v
def keyH (w:World):Key->Int
 | .inl k=>hashInt (if k then 1 else 0)
 | .inr x=>hashStr w x
theorem JaN:∀ {k:Key} {v:Value},keyIs k v=true->(∃ i,k=Sum.inl i/\v=Value.bool i)\/(∃ x t,k=Sum.inr x/\v=Value.str x t)
 | .inl i,v,h=>.inl ⟨i,rfl,Jev h⟩
 | .inr x,v,h=>by
  obtain ⟨t,e⟩:=Value.isStrOf_shape (x:=x) (v:=v) h;exact .inr ⟨x,t,rfl,e⟩
theorem Jhk (i:Bool):keyIs (.inl i) (.bool i)=true:=by simp [keyIs,isBoolOf]
theorem Jh3 (x:Str) (t:Tok):keyIs (.inr x) (.str x t)=true:=by simp [keyIs,Value.isStrOf]
theorem Jlf (a b:Bool):decide ((Sum.inl a:Key)=Sum.inl b)=(a == b):=by cases a <;> cases b <;> rfl
theorem Jli (a b:Str):decide ((Sum.inr a:Key)=Sum.inr b)=decide (a=b):=by
 by_cases e:a=b
 ·subst e;simp
 ·have h:¬ (Sum.inr a:Key)=Sum.inr b:=fun q=>e (Sum.inr.inj q);rw [decide_eq_false h,decide_eq_false e]
theorem Jlg (a:Bool) (b:Str):decide ((Sum.inl a:Key)=Sum.inr b)=false:=decide_eq_false (fun q=>nomatch q)
theorem Jlh (a:Str) (b:Bool):decide ((Sum.inr a:Key)=Sum.inl b)=false:=decide_eq_false (fun q=>nomatch q)
theorem Jgz {prog:Program} {w:World} {A:Around} {E:Value->Shared->Prop} {s:Shared} {b:Bool} {Q:Int->Shared->Prop} (h:Q (hashInt (if b then 1 else 0)) { s with toks:=s.toks+1 }) :
  wpAny (model prog w) A (pyHash (.bool b)) Q E s:=by
 have c:=rawHash_range (if b then 1 else 0);have a:s.TypeIs (.bool b) "bool":=rfl;unfold pyHash;have d:[Value.bool b].any Value.onHeap=false:=rfl;refine wpAny_bind ?_;rw [cRoomFor,if_neg (by rw [d];exact Bool.false_ne_true)];refine wpAny_pure ?_;refine wpAny_bind (wpAny_specialOf a F.slot_bool_hash.lookup ?_);show wpAny _ _ (if (some (Value.builtin "int.__hash__") == some Value.none)=true then _ else _) Q E s;rw [if_neg (by rw [beq_builtin_none];exact Bool.false_ne_true)];refine wpAny_bind (wpAny_specialOf a F.slot_bool_hash.lookup ?_);show wpAny _ _ (callSpecialIfBoundUnlessNone? (.bool b) "__hash__" _ >>= _) Q E s;refine wpAny_bind (wpAny_callSpecialIfBoundUnlessNone?_slot a F.slot_bool_hash
  (wpAny_call_entry F.slot_bool_hash a entry_int_hash
   (show wpAny _ _ (do ret (<- mkInt (rawHash (if b then 1 else 0)))) _ _ s from wpAny_ret_mkInt ?_) (args_int_hash _)))
 show wpAny _ _ (if (decide (-(2:Int) ^ 63<=rawHash (if b then 1 else 0))&&decide (rawHash (if b then 1 else 0)<2 ^ 63))=true then _ else _) Q E _;rw [if_pos (by rw [decide_eq_true c.1,decide_eq_true c.2];rfl)];exact wpAny_pure h
def Jaw (prog:Program) (w:World):PySem.KeyKind prog w Key where
 is:=keyIs
 hash:=keyH w
 inj:=fun v a b ha hb=>by
  rcases JaN ha with ⟨i,rfl,rfl⟩ | ⟨x,t,rfl,rfl⟩
  ·rcases JaN hb with ⟨j,rfl,e⟩ | ⟨y,u,rfl,e⟩
   ·injection e with e1;rw [e1]
   ·exact nomatch e
  ·rcases JaN hb with ⟨j,rfl,e⟩ | ⟨y,u,rfl,e⟩
   ·exact nomatch e
   ·injection e with e1 _;rw [e1]
 byValue:=fun k v h=>by
  rcases JaN h with ⟨i,rfl,rfl⟩ | ⟨x,t,rfl,rfl⟩ <;> rfl
 pyHash:=fun hv h=>by
  rcases JaN hv with ⟨i,rfl,rfl⟩ | ⟨x,t,rfl,rfl⟩
  ·exact Jgz h
  ·exact wpAny_pyHash_str h
 eqBool:=fun hu hv h=>by
  rcases JaN hu with ⟨i,rfl,rfl⟩ | ⟨x,t,rfl,rfl⟩
  ·rcases JaN hv with ⟨j,rfl,rfl⟩ | ⟨y,u,rfl,rfl⟩
   ·rw [Jlf] at h;exact SeqAt.EqAt.bool_bool i j _ _ _ _ h
   ·rw [Jlg] at h;exact SeqAt.EqAt.bool_str i y u _ _ _ _ h
  ·rcases JaN hv with ⟨j,rfl,rfl⟩ | ⟨y,u,rfl,rfl⟩
   ·rw [Jlh] at h;exact SeqAt.EqAt.str_bool x t j _ _ _ _ h
   ·rw [Jli] at h;exact wpAny_eqBool_str h
 «strs»:=fun k x t v h=>by
  rcases JaN h with ⟨i,rfl,e⟩ | ⟨y,u,rfl,e⟩
  ·exact nomatch e
  ·injection e with e1 _
   subst e1;cases v <;> rfl
theorem JfK (prog:Program) (w:World) (i:Bool):(Jaw prog w).is (.inl i) (.bool i)=true:=Jhk i
theorem Jgl (prog:Program) (w:World) (x:Str) (t:Tok):(Jaw prog w).is (.inr x) (.str x t)=true:=Jh3 x t
inductive V where
 | non | bl (b:Bool) | int (i:Int) | str (x:Str) | byt (b:Array UInt8) | flt (b:UInt64) | ref (a:Addr) | ty (n:String)
 deriving DecidableEq
def RelV:V->Value->Prop
 | .non,u=>u=Value.none
 | .bl b,u=>u=Value.bool b
 | .int i,u=>∃ t,u=Value.int i t
 | .str x,u=>∃ t,u=Value.str x t
 | .byt b,u=>∃ t,u=Value.bytes b t
 | .flt b,u=>∃ t,u=Value.float b t
 | .ref a,u=>u=Value.ref a
 | .ty n,u=>u=Value.type n
abbrev Vals:List V->List Value->Prop:=Paired RelV
theorem Vals.length {xs:List V} {us:List Value} (r:Vals xs us):xs.length=us.length:=Paired.length r
theorem Vals.get:∀ {xs:List V} {us:List Value} {i:Nat} {x:V},Vals xs us->xs[i]?=some x->∃ u,us[i]?=some u/\RelV x u
 | _,_,_,_, .nil,e=>by simp at e
 | _,_,0,_, .cons r _,e=>by simp at e;subst e;exact ⟨_,rfl,r⟩
 | _,_,i+1,x, .cons _ t,e=>by
  obtain ⟨u,h1,h2⟩:=Vals.get (i:=i) (x:=x) t (by simpa using e);exact ⟨u,by simpa using h1,h2⟩
theorem Vals.append:∀ {xs ys:List V} {us ws:List Value},Vals xs us->Vals ys ws->Vals (xs++ys) (us++ws)
 | _,_,_,_, .nil,s=>s
 | _,_,_,_, .cons r t,s=>.cons r (Vals.append t s)
theorem Vals.take:∀ {xs:List V} {us:List Value} (n:Nat),Vals xs us->Vals (xs.take n) (us.take n)
 | _,_,0,_=>.nil
 | _,_,_+1, .nil=>.nil
 | _,_,n+1, .cons r t=>.cons r (Vals.take n t)
theorem Vals.drop:∀ {xs:List V} {us:List Value} (n:Nat),Vals xs us->Vals (xs.drop n) (us.drop n)
 | _,_,0,r=>r
 | _,_,_+1, .nil=>.nil
 | _,_,n+1, .cons _ t=>Vals.drop n t
def RelO:Option V->Option Value->Prop
 | some v,some u=>RelV v u
 | none,none=>True
 | _,_=>False
def KV {κ : Type}:List (κ × V)->List (κ × Value)->Prop:=Paired fun (p : κ × V) (q : κ × Value)=>p.1=q.1/\RelV p.2 q.2
def kV:Key->V
 | .inl i=>.bl i
 | .inr x=>.str x
inductive HO where
 | lst (xs:List V)
 | tup (xs:List V)
 | dK (kvs:List (Key × V)) | dT (kvs:List (List Key × V))
 | set (S:Int->Bool) (n:Nat)
 | ins (C dx:Addr) (fs:List (Str × V))
 | own (x:Addr)
 | xd (fs:List (Str × V))
 | met (f x:Addr)
 | rng (lo hi:Int)
 | frz (o:Obj) (u:HO)
 | tbl (ps:Array Value)
 | ext (φ : Heap->Prop)
abbrev Hp:=Addr->Option HO
def upd (H:Hp) (a:Addr) (o:HO):Hp:=fun b=>if b=a then some o else H b
theorem Jak {H:Hp} {a:Addr} {o:HO}:upd H a o a=some o:=by unfold upd;rw [if_pos rfl]
theorem Jag {H:Hp} {a b:Addr} {o:HO} (h:b≠a):upd H a o b=H b:=by unfold upd;rw [if_neg h]
theorem ne_of {H:Hp} {a b:Addr} {o u:HO} (h:H a=some o) (h':H b=some u) (d:o≠u):a≠b:=by
 intro e;subst e;rw [h] at h';exact d (Option.some.inj h')
theorem Jah {H:Hp} {a b:Addr} {o:HO} (h:H a=some o) (h':H b=none):a≠b:=by
 intro e;subst e;rw [h] at h';cases h'
section
variable (P:Program) (w:World)
def ObjOk (H:Hp) (h:Heap) (a:Addr):HO->Prop
 | .lst xs=>xs.length<=sizeLine/\∃ (its:List Value) (n:Nat),Vals xs its/\h.get? a=some { cls:=.type "list",data:=.seq its.toArray n }
 | .tup xs=>xs.length<=sizeLine/\∃ its:List Value,Vals xs its/\IsTup h a its.toArray
 | .dK kvs=>kvs.length<=sizeLine/\(a == sysModules)=false/\∃ vs,KV kvs vs/\h.DictOf (Jaw P w) a vs
 | .dT kvs=>kvs.length<=sizeLine/\(a == sysModules)=false/\∃ xs:List (List Key × Addr × Value),
   Paired (fun (p:List Key × V) (q:List Key × Addr × Value)=>p.1=q.1/\H q.2.1=some (.tup (p.1.map kV))/\RelV p.2 q.2.2) kvs xs /\
   ∃ o es ep,h.get? a=some o/\o.ExactDict/\o.data=.dict es ep/\es.toList=xs.map (entryOfKey (tupleKind (Jaw P w)))/\(xs.map (·.1)).Nodup
 | .set S n=>h.SetOf (intKind P w) a S n
 | .ins C dx fs=>H dx=some (.own a)/\fs.length<=1000/\dx≠a/\h.get? a=some (W.instObj C dx) /\
   ∃ mA,h.Ns1 dx mA/\(∀ f,RelO (fs.lookup f) (mA f))/\PySem.Within mA (fs.map (·.1))
 | .own _=>∃ o,h.get? a=some o
 | .xd fs=>∃ mA,h.Ns1 a mA/\∀ f,RelO (fs.lookup f) (mA f)
 | .rng lo hi=>∃ t u v,h.get? a=some { cls:=.type "range",data:=.fields #[.int lo t, .int hi u, .int 1 v] }
 | .frz o u=>h.get? a=some o/\ObjOk H h a u
 | .tbl ps=>h.get? a=some { cls:=.none,data:=.fields ps }
 | .met f x=>h.get? a=some (W.methodObj (.ref f) (.ref x))
 | .ext φ=>φ h/\(∃ o,h.get? a=some o)/\∀ h1 h2:Heap,φ h1->(∀ o,h1.get? a=some o->h2.get? a=some o)->φ h2
def HOk (H:Hp) (h:Heap):Prop:=∀ a o,H a=some o->ObjOk P w H h a o
end
section
variable {P:Program} {w:World} {H H':Hp} {h h':Heap} {a:Addr} {o:HO}
theorem ObjOk.lt (x:ObjOk P w H h a o):a<h.objs.size:=by
 cases o with
 | lst xs=>obtain ⟨_,_,_,_,e⟩:=x;exact Heap.lt_size e
 | tup xs=>obtain ⟨_,_,_,p⟩:=x;exact p.lt
 | dK kvs=>obtain ⟨_,_,_,_,o,_,_,e,_⟩:=x;exact Heap.lt_size e
 | dT kvs=>obtain ⟨_,_,_,_,o,_,_,e,_⟩:=x;exact Heap.lt_size e
 | set S n=>obtain ⟨o,_,_,_,e,_⟩:=x;exact Heap.lt_size e
 | ins C dx fs=>obtain ⟨_,_,_,e,_⟩:=x;exact Heap.lt_size e
 | own y=>obtain ⟨_,e⟩:=x;exact Heap.lt_size e
 | xd fs=>obtain ⟨_,⟨_,_,_,e,_⟩,_⟩:=x;exact Heap.lt_size e
 | rng lo hi=>obtain ⟨_,_,_,e⟩:=x;exact Heap.lt_size e
 | frz ob u=>obtain ⟨e,_⟩:=x;exact Heap.lt_size e
 | tbl ps=>exact Heap.lt_size (show h.get? a=some _ from x)
 | met f y=>exact Heap.lt_size (show h.get? a=some _ from x)
 | ext φ=>obtain ⟨_,⟨_,e⟩,_⟩:=x;exact Heap.lt_size e
theorem Paired.mapP {α β : Type} {F G : α->β->Prop}:∀ {l₁ : List α} {l₂ : List β},Paired F l₁ l₂->(∀ a b,F a b->G a b)->Paired G l₁ l₂
 | _,_, .nil,_=>.nil
 | _,_, .cons r t,f=>.cons (f _ _ r) (Paired.mapP t f)
theorem ObjOk.stay (x:ObjOk P w H h a o) (k:∀ b u,(b=a\/H b=some (.own a))->h.get? b=some u->h'.get? b=some u)
  (ho:∀ b,H b=some (.own a)->H' b=some (.own a)) (ht:∀ b xs,H b=some (.tup xs)->H' b=some (.tup xs)):ObjOk P w H' h' a o:=by
 induction o with
 | lst xs=>obtain ⟨z,l,n,r,e⟩:=x;exact ⟨z,l,n,r,k _ _ (.inl rfl) e⟩
 | tup xs=>obtain ⟨z,l,r,g,e,c⟩:=x;exact ⟨z,l,r,g,k _ _ (.inl rfl) e,c⟩
 | dK kvs=>obtain ⟨z,y,E,r,g,j,i,e,c⟩:=x;exact ⟨z,y,E,r,g,j,i,k _ _ (.inl rfl) e,c⟩
 | dT kvs=>
  obtain ⟨z,y,xs,r,g,j,i,e,c⟩:=x;exact ⟨z,y,xs,Paired.mapP r fun p q z=>⟨z.1,ht _ _ z.2.1,z.2.2⟩,g,j,i,k _ _ (.inl rfl) e,c⟩
 | set S n=>obtain ⟨g,j,i,t,e,c⟩:=x;exact ⟨g,j,i,t,k _ _ (.inl rfl) e,c⟩
 | ins C dx fs=>
  obtain ⟨d,z,D,e,m,⟨s,j,i,B,c⟩,r⟩:=x;exact ⟨ho _ d,z,D,k _ _ (.inl rfl) e,m,⟨s,j,i,k _ _ (.inr d) B,c⟩,r⟩
 | own y=>obtain ⟨g,e⟩:=x;exact ⟨g,k _ _ (.inl rfl) e⟩
 | xd fs=>obtain ⟨m,⟨s,j,i,e,c⟩,r⟩:=x;exact ⟨m,⟨s,j,i,k _ _ (.inl rfl) e,c⟩,r⟩
 | rng lo hi=>obtain ⟨t,u,v,e⟩:=x;exact ⟨t,u,v,k _ _ (.inl rfl) e⟩
 | frz g u ih=>obtain ⟨e,q⟩:=x;exact ⟨k _ _ (.inl rfl) e,ih q⟩
 | tbl ps=>
  have e:h.get? a=some { cls:=.none,data:=.fields ps }:=x;show h'.get? a=some { cls:=.none,data:=.fields ps };exact k a _ (.inl rfl) e
 | met f y=>
  have e:h.get? a=some (W.methodObj (.ref f) (.ref y)):=x;show h'.get? a=some (W.methodObj (.ref f) (.ref y));exact k a _ (.inl rfl) e
 | ext φ=>obtain ⟨p,⟨o,e⟩,A⟩:=x;exact ⟨A _ _ p fun o q=>k _ _ (.inl rfl) q,⟨o,k _ _ (.inl rfl) e⟩,A⟩
theorem HOk.lt (x:HOk P w H h) (e:H a=some o):a<h.objs.size:=(x a o e).lt
theorem HOk.fresh (x:HOk P w H h) (e:h.objs.size<=a):H a=none:=by
 cases q:H a with
 | none=>rfl
 | some u=>exact absurd (Nat.lt_of_lt_of_le (x.lt q) e) (Nat.lt_irrefl _)
theorem HOk.kept (x:HOk P w H h) (k:∀ b u,h.get? b=some u->h'.get? b=some u):HOk P w H h':=fun a o e=>
 (x a o e).stay (fun b u _ q=>k b u q) (fun _ q=>q) fun _ _ q=>q
theorem HOk.laid (x:HOk P w H h) (k:∀ b u,h.get? b=some u->h'.get? b=some u) (hp:h.objs.size<=a) (new:ObjOk P w (upd H a o) h' a o):HOk P w (upd H a o) h':=fun b u e=>by
 have d:=x.fresh hp;by_cases f:b=a
 ·subst f;rw [Jak] at e;cases e;exact new
 ·rw [Jag f] at e;exact (x b u e).stay (fun c v _ q=>k c v q) (fun c q=>by rw [Jag (Jah q d)];exact q) fun c g q=>by rw [Jag (Jah q d)];exact q
end
def Rd (H:Hp) (a:Addr) (u:HO):Prop:=H a=some u\/∃ o,H a=some (.frz o u)
theorem Rd.ok {P:Program} {w:World} {H:Hp} {h:Heap} {a:Addr} {u:HO} (r:Rd H a u) (x:HOk P w H h):ObjOk P w H h a u:=by
 rcases r with r | ⟨o,r⟩
 ·exact x a u r
 ·obtain ⟨_,q⟩:=x a _ r;exact q
def Mut:Option HO->Prop
 | some (.lst _)=>True
 | some (.dK _)=>True
 | some (.dT _)=>True
 | some (.set _ _)=>True
 | some (.ins _ _ _)=>True
 | some (.ext _)=>True
 | _=>False
section
variable {P:Program} {w:World} {H:Hp} {h h':Heap} {x e:Addr} {o':HO}
theorem HOk.write (ok:HOk P w H h) (mu:Mut (H x)) (he:e=x\/H e=some (.own x)) (k:∀ b u,b≠e->h.get? b=some u->h'.get? b=some u) (heo:∃ u,h'.get? e=some u)
  (new:ObjOk P w (upd H x o') h' x o'):HOk P w (upd H x o') h':=fun b u q=>by
 have d:∀ c y,H c=some (.own y)->c≠x:=fun c y r z=>by subst z;rw [r] at mu;exact mu
 have f:∀ c j,H c=some (.tup j)->c≠x:=fun c j r z=>by subst z;rw [r] at mu;exact mu
 by_cases i:b=x
 ·subst i;rw [Jak] at q;cases q;exact new
 ·rw [Jag i] at q;by_cases a:b=e
  ·have l:H b=some (.own x):=by
    rcases he with z | z
    ·exact absurd (a.trans z) i
    ·rw [a];exact z
   rw [q] at l;cases l;obtain ⟨v,m⟩:=heo;exact ⟨v,by rw [a];exact m⟩
  ·refine (ok b u q).stay (fun c v g r=>k c v ?_ r) (fun c r=>by rw [Jag (d c b r)];exact r) fun c j r=>by rw [Jag (f c j r)];exact r
   rcases g with rfl | g
   ·exact a
   ·rintro rfl;rcases he with z | z
    ·exact d c b g z
    ·rw [g] at z;cases z;exact i rfl
end
structure Un (fs ex:List Addr) (H H':Hp) (h h':Heap):Prop where
 keep:∀ b o,h.get? b=some o->H b=none->b∉fs->b∉ex->h'.get? b=some o
 slot:∀ b o,h.get? b=some o->H b=none->b∈fs->b∉ex->∃ sl,h'.get? b=some { o with slots:=sl }
 free:∀ b o,h.get? b=some o->H b=none->b∉ex->H' b=none
 there:∀ b o,h.get? b=some o->b∉ex->∃ o',h'.get? b=some o'
 tups:∀ b xs,H b=some (.tup xs)->H' b=some (.tup xs)
 frzs:∀ b o u,H b=some (.frz o u)->H' b=some (.frz o u)
 tbls:∀ b ps,H b=some (.tbl ps)->∃ more,H' b=some (.tbl (ps++more))
section
variable {fs fs' ex ex':List Addr} {H H1 H2:Hp} {h h1 h2 h':Heap} {a x e:Addr} {o:HO}
theorem Un.any (u:Un fs ex H H1 h h1) {b:Addr} {ob:Obj} (q:h.get? b=some ob) (n:H b=none) (hx:b∉ex):∃ sl,h1.get? b=some { ob with slots:=sl }:=by
 by_cases a:b∈fs
 ·exact u.slot b ob q n a hx
 ·exact ⟨ob.slots,u.keep b ob q n a hx⟩
theorem Un.trans (a:Un fs ex H H1 h h1) (b:Un fs ex H1 H2 h1 h2):Un fs ex H H2 h h2 where
 keep:=fun c e q n g d=>b.keep c e (a.keep c e q n g d) (a.free c e q n d) g d
 slot:=fun c e q n g d=>by
  obtain ⟨r,f⟩:=a.slot c e q n g d;obtain ⟨j,l⟩:=b.slot c _ f (a.free c e q n d) g d;exact ⟨j,l⟩
 free:=fun c e q n d=>by
  obtain ⟨k,f⟩:=a.there c e q d;exact b.free c k f (a.free c e q n d) d
 there:=fun c e q d=>by
  obtain ⟨k,f⟩:=a.there c e q d;exact b.there c k f d
 tups:=fun c i q=>b.tups c i (a.tups c i q)
 frzs:=fun c e i q=>b.frzs c e i (a.frzs c e i q)
 tbls:=fun c p q=>by
  obtain ⟨o,f⟩:=a.tbls c p q;obtain ⟨m,l⟩:=b.tbls c _ f;exact ⟨o++m,by rw [l,Array.append_assoc]⟩
theorem Un.kept (k:∀ b u,h.get? b=some u->h'.get? b=some u):Un fs ex H H h h' :=
 ⟨fun b a q _ _ _=>k b a q,fun b a q _ _ _=>⟨a.slots,k b a q⟩,fun _ _ _ n _=>n,fun b a q _=>⟨a,k b a q⟩,fun _ _ q=>q,fun _ _ _ q=>q,fun _ c q=>⟨#[],by rw [q];simp⟩⟩
theorem Un.refl:Un fs ex H H h h:=Un.kept fun _ _ q=>q
theorem Un.laid (k:∀ b u,h.get? b=some u->h'.get? b=some u) (hp:h.objs.size<=a) (hn:H a=none):Un fs ex H (upd H a o) h h' where
 keep:=fun b u q _ _ _=>k b u q
 slot:=fun b u q _ _ _=>⟨u.slots,k b u q⟩
 free:=fun b u q n _=>by rw [Jag (Nat.ne_of_lt (Nat.lt_of_lt_of_le (Heap.lt_size q) hp))];exact n
 there:=fun b u q _=>⟨u,k b u q⟩
 tups:=fun b c q=>by rw [Jag (Jah q hn)];exact q
 frzs:=fun b u c q=>by rw [Jag (Jah q hn)];exact q
 tbls:=fun b d q=>⟨#[],by rw [Jag (Jah q hn),q];simp⟩
theorem Un.write (mu:Mut (H x)) (he:e=x\/H e=some (.own x)) (k:∀ b u,b≠e->h.get? b=some u->h'.get? b=some u) (heo:∃ u,h'.get? e=some u):Un fs ex H (upd H x o) h h':=by
 have f:∀ b,H b=none->b≠x:=fun b n z=>by subst z;rw [n] at mu;exact mu
 have d:∀ b,H b=none->b≠e:=fun b n z=>by
  subst z;rcases he with r | r
  ·exact f b n r
  ·rw [n] at r;cases r
 have c:∀ b u,H b=some u->¬ Mut (some u)->b≠x:=fun b u q g z=>by subst z;rw [q] at mu;exact g mu
 refine ⟨fun b u q n _ _=>k b u (d b n) q,fun b u q n _ _=>⟨u.slots,k b u (d b n) q⟩,fun b u q n _=>by rw [Jag (f b n)];exact n,fun b u q _=>?_,
  fun b i q=>by rw [Jag (c b _ q fun z=>z)];exact q,fun b u i q=>by rw [Jag (c b _ q fun z=>z)];exact q,fun b j q=>⟨#[],by rw [Jag (c b _ q fun z=>z),q];simp⟩⟩
 by_cases a:b=e
 ·subst a;exact heo
 ·exact ⟨u,k b u a q⟩
end
def trk (h:Heap) (H:Hp):List Addr:=(List.range h.objs.size).filter fun a=>(H a).isSome
def hidT (h:Heap) (H:Hp):Heap:=W.hideAll h (trk h H)
theorem Jh1 (h:Heap) (H:Hp):(hidT h H).objs.size=h.objs.size:=W.hideAll_size _ _
theorem Ji5 {h:Heap} {H:Hp} {b:Addr} {o:Obj} (e:h.get? b=some o) (n:H b=none):(hidT h H).get? b=some o :=
 W.hideAll_get _ e fun a=>by
  have q:(H b).isSome=true:=(mem_filter.mp a).2;rw [n] at q;simp at q
theorem Jkv {h:Heap} {H:Hp} {b:Addr} {o:Obj} (e:(hidT h H).get? b=some o):h.get? b=some o/\H b=none:=by
 have a:h.get? b=some o:=W.of_hideAll (trk h H) e;refine ⟨a,?_⟩;cases q:H b with
 | none=>rfl
 | some x=>
  have c:b∈trk h H:=mem_filter.mpr ⟨List.mem_range.mpr (Heap.lt_size a),by simp [q]⟩;have z:(hidT h H).get? b=none:=W.hideAll_none (trk h H) c;rw [z] at e;cases e
def Jj1 (g h:Heap) (L:Addr):List (Addr × Obj):=(List.range h.objs.size).filterMap fun a=>if a=L\/(g.get? a).isSome=true then none else (h.get? a).map fun o=>(a,o)
def rest (g h:Heap) (L d:Addr):List (Addr × Obj):=(Jj1 g h L).filter fun p=>decide (p.1≠d)
structure Mod (K:W.Frag) (mg:Str->Option Value) (base:Heap):Prop where
 kin:K.In base
 glob:base.Ns mainGlobals mg
 blt:∃ mb,base.Ns builtinsNs mb/\∀ x:Str,x≠"__name__"->mb x=bootBuiltins x
 nolimit:base.NoLimit
structure Cx where
 prog:Program
 w:World
 K:W.Frag
 mg:Str->Option Value
 base:Heap
 A:Around
 N:List Str
 s₀ : Shared
 H₀ : Hp
 env:Env
 outer:List Env
 stack:List Env
 ex:List Addr
 fn:Str->Bool
 calm:Bool
 pn:List (Addr × Obj)
 xe:Value->Shared->Prop
def frs (l:List Env):List Addr:=l.filterMap (·.frame)
abbrev Cx.fs (X:Cx):List Addr:=frs X.outer
def Vis (sc:Scope) (x:Str):Prop:=sc.names.lookup x=some .local\/sc.names.lookup x=some .cell\/sc.names.lookup x=some .free
def Loc (sc:Scope) (x:Str):Prop:=sc.names.lookup x=some .local\/sc.names.lookup x=some .cell
def Look (env:Env) (h:Heap) (m:Str->Option Value) (x:Str) (u:Value):Prop :=
 (env.kindOf x=some .local/\m x=some u)\/((env.kindOf x=some .cell\/env.kindOf x=some .free)/\∃ c,env.cells.lookup x=some c/\h.IsCell c (some u))
structure Cx.Ok (X:Cx):Prop where
 mod:Mod X.K X.mg X.base
 kind:X.env.scope.kind=.function
 glob:X.env.globals=mainGlobals
 blt:X.env.builtins=builtinsNs
 above:X.s₀.heap.objs.size<=X.env.locals
 inj:∀ x y c,X.env.cells.lookup x=some c->X.env.cells.lookup y=some c->x=y
 has:∀ x,(X.env.kindOf x=some .cell\/X.env.kindOf x=some .free)->∃ c,X.env.cells.lookup x=some c
 cab:∀ x c,X.fn x=true->X.env.cells.lookup x=some c->X.s₀.heap.objs.size<=c
 hd:X.calm=true->X.A.handled=none
 frames:X.A.frames=some X.stack
 stk:X.stack=X.outer\/(X.stack=X.env::X.outer/\X.env.frame=some X.env.locals)
 exf:∀ b∈X.ex,b≠X.env.locals/\∀ x c,X.env.cells.lookup x=some c->c≠b
 bs:∀ b o,X.base.get? b=some o->X.s₀.heap.get? b=some o/\X.H₀ b=none
 bsz:X.base.objs.size<=X.s₀.heap.objs.size
 noex:∀ b o,X.base.get? b=some o->b∉X.ex
 exfs:∀ b∈X.ex,b∉X.fs
 funs:X.s₀.heap.FunFrames X.base X.outer
 frf:∀ b∈X.fs,X.H₀ b=none
structure Inv (X:Cx) (pins:List (Addr × Obj)) (σ : List (Option V)) (H:Hp) (s:Shared):Prop where
 ok:X.Ok
 os:s.os=X.s₀.os
 bare:AllBare s.gens
 base:Un X.fs X.ex X.H₀ H X.s₀.heap s.heap
 loc:∃ m,s.heap.Ns X.env.locals m/\∀ (i:Nat) (x:Str) (v:V),X.N[i]?=some x->σ[i]?=some (some v)->Vis X.env.scope x->∃ u,RelV v u/\Look X.env s.heap m x u
 cell:∀ x c,X.env.cells.lookup x=some c->∃ v,s.heap.IsCell c v
 free:H X.env.locals=none
 freeC:∀ x c,X.env.cells.lookup x=some c->H c=none
 pin:∀ p∈X.pn++pins,s.heap.get? p.1=some p.2/\H p.1=none/\p.1≠X.env.locals/\p.1∉X.fs/\∀ v,p.2.data≠.cell v
 hok:HOk X.prog X.w H s.heap
 len : σ.length=X.N.length
section
variable {X:Cx} {pins:List (Addr × Obj)} {σ : List (Option V)} {H H':Hp} {s:Shared} {h':Heap}
theorem Cx.Ok.nofr (ok:X.Ok) {b:Addr} {o:Obj} (e:X.base.get? b=some o):b∉X.fs:=fun a=>by
 have:=(ok.funs.mem a).1;rw [e] at this;cases this
theorem Inv.bs (I:Inv X pins σ H s):∀ b o,X.base.get? b=some o->s.heap.get? b=some o/\H b=none:=fun b o e=>
 ⟨I.base.keep b o (I.ok.bs b o e).1 (I.ok.bs b o e).2 (I.ok.nofr e) (I.ok.noex b o e),I.base.free b o (I.ok.bs b o e).1 (I.ok.bs b o e).2 (I.ok.noex b o e)⟩
theorem Inv.bk (I:Inv X pins σ H s):∀ b o,X.base.get? b=some o->s.heap.get? b=some o:=fun b o e=>(I.bs b o e).1
theorem Inv.mod (I:Inv X pins σ H s):Mod X.K X.mg X.base:=I.ok.mod
theorem Inv.kIn (I:Inv X pins σ H s):X.K.In s.heap:=I.ok.mod.kin.keeps I.bk
theorem Inv.fr (I:Inv X pins σ H s):∃ m,Fr X.base X.env.locals s.heap m :=
 let ⟨m,hn,_⟩:=I.loc
 ⟨m,hn,I.bk,Nat.le_trans I.ok.bsz I.ok.above⟩
theorem Inv.lt (I:Inv X pins σ H s):X.env.locals<s.heap.objs.size:=let ⟨_,hn,_⟩:=I.loc;hn.lt
theorem Inv.sz (I:Inv X pins σ H s):X.s₀.heap.objs.size<=s.heap.objs.size:=Nat.le_trans I.ok.above (Nat.le_of_lt I.lt)
theorem Inv.nofs (I:Inv X pins σ H s) {a:Addr} (h:s.heap.objs.size<=a):a∉X.fs:=fun c=>by
 obtain ⟨_,o,b,_⟩:=I.ok.funs.mem c;exact absurd (Nat.lt_of_lt_of_le (Heap.lt_size b) (Nat.le_trans I.sz h)) (Nat.lt_irrefl _)
theorem Inv.cne (I:Inv X pins σ H s):∀ x c,X.env.cells.lookup x=some c->c≠X.env.locals:=fun x c e z=>by
 obtain ⟨v,o,d,f⟩:=I.cell x c e;obtain ⟨m,⟨h,i,g,a,b,_⟩,_⟩:=I.loc;rw [z,a] at d;cases d;rw [b] at f;cases f
theorem Inv.funs (I:Inv X pins σ H s):s.heap.FunFrames X.base X.outer:=by
 have all:∀ (l:List Env),(∀ b∈frs l,b∈X.fs)->X.s₀.heap.FunFrames X.base l->s.heap.FunFrames X.base l:=by
  intro l;induction l with
  | nil=>intro _ _;trivial
  | cons env r ih=>
   intro f g;obtain ⟨m,⟨L,o,a,i,k,j⟩,h⟩:=g;have d:L∈X.fs:=f L (by unfold frs;rw [List.filterMap_cons,a];exact mem_cons_self);obtain ⟨n,e⟩:=I.base.slot L o k (I.ok.frf L d) d fun z=>I.ok.exfs L z d;exact ⟨m,⟨L,_,a,i,e,j⟩,ih (fun b c=>f b (by unfold frs;rw [List.filterMap_cons,a];exact mem_cons_of_mem _ c)) h⟩
 exact all X.outer (fun _ c=>c) I.ok.funs
theorem Inv.stack (I:Inv X pins σ H s):s.heap.FunFrames X.base X.stack:=by
 rcases I.ok.stk with e | ⟨e,hf⟩
 ·rw [e];exact I.funs
 ·rw [e];obtain ⟨m,a,_⟩:=I.loc;refine .cons (by rw [I.ok.kind];decide) hf a ?_ I.funs;exact Heap.get?_none_of_le (Nat.le_trans I.ok.bsz I.ok.above)
theorem Inv.stkSub (I:Inv X pins σ H s):∀ b∈frs X.stack,b∈X.env.locals::X.fs:=fun b a=>by
 rcases I.ok.stk with e | ⟨e,hf⟩
 ·rw [e] at a;exact mem_cons_of_mem _ a
 ·rw [e] at a;unfold frs at a;rw [List.filterMap_cons,hf] at a;exact a
theorem Inv.stkFree (I:Inv X pins σ H s):∀ b∈frs X.stack,H b=none:=fun b a=>by
 rcases mem_cons.mp (I.stkSub b a) with e | a
 ·rw [e];exact I.free
 ·obtain ⟨_,o,c,_⟩:=I.ok.funs.mem a;exact I.base.free b o c (I.ok.frf b a) fun z=>I.ok.exfs b z a
theorem Inv.step {g':Array GenState} {t':Nat} {d':Drawn} {ch:List Addr} (I:Inv X pins σ H s)
  (hch:∀ b∈ch,(b∈X.ex\/X.s₀.heap.objs.size<=b)/\b≠X.env.locals/\(∀ x c,X.env.cells.lookup x=some c->c≠b)/\∀ p∈X.pn++pins,p.1≠b)
  (keep:∀ b o,b≠X.env.locals->b∉X.fs->b∉ch->s.heap.get? b=some o->H b=none->h'.get? b=some o)
  (slot:∀ b o,b≠X.env.locals->b∈X.fs->b∉ch->s.heap.get? b=some o->H b=none->∃ sl,h'.get? b=some { o with slots:=sl }) (free:∀ b o,b∉ch->s.heap.get? b=some o->H b=none->H' b=none)
  (there:∀ b o,b∉ch->s.heap.get? b=some o->∃ o',h'.get? b=some o')
  (tups:∀ b xs,H b=some (.tup xs)->H' b=some (.tup xs)) (frzs:∀ b o u,H b=some (.frz o u)->H' b=some (.frz o u)) (tbls:∀ b ps,H b=some (.tbl ps)->∃ more,H' b=some (.tbl (ps++more)))
  (ns:∀ m,s.heap.Ns X.env.locals m->h'.Ns X.env.locals m) (hok:HOk X.prog X.w H' h') (hg:AllBare g') :
  Inv X pins σ H' { s with heap:=h',gens:=g',drawn:=d',toks:=t' }:=by
 have B:∀ b o,X.s₀.heap.get? b=some o->b≠X.env.locals:=fun b o e=>Nat.ne_of_lt (Nat.lt_of_lt_of_le (Heap.lt_size e) I.ok.above);have h:∀ b o,X.s₀.heap.get? b=some o->b∉X.ex->b∉ch:=fun b o e a t=>by
  rcases (hch b t).1 with z | z
  ·exact a z
  ·exact absurd (Nat.lt_of_lt_of_le (Heap.lt_size e) z) (Nat.lt_irrefl _)
 have f:∀ x c,X.env.cells.lookup x=some c->∀ v,s.heap.IsCell c v->h'.IsCell c v:=fun x c e v ⟨o,y,D⟩=>by
  have g:c∉ch:=fun z=>(hch c z).2.2.1 x c e rfl;by_cases F:c∈X.fs
  ·obtain ⟨sl,q⟩:=slot c o (I.cne x c e) F g y (I.freeC x c e);exact ⟨_,q,D⟩
  ·exact ⟨o,keep c o (I.cne x c e) F g y (I.freeC x c e),D⟩
 refine ⟨I.ok,I.os,hg,⟨fun b o e n t a=>?_,fun b o e n t a=>?_,fun b o e n a=>?_,fun b o e a=>?_,fun b xs e=>tups b xs (I.base.tups b xs e),fun b o xs e=>frzs b o xs (I.base.frzs b o xs e),fun b ps e=>?_⟩,?_,fun x c e=>?_,?_,fun x c e=>?_,fun p E=>?_,hok,I.len⟩
 ·exact keep b o (B b o e) t (h b o e a) (I.base.keep b o e n t a) (I.base.free b o e n a)
 ·obtain ⟨sl,j⟩:=I.base.slot b o e n t a;obtain ⟨C,A⟩:=slot b _ (B b o e) t (h b o e a) j (I.base.free b o e n a);exact ⟨C,A⟩
 ·obtain ⟨o',j⟩:=I.base.there b o e a;exact free b o' (h b o e a) j (I.base.free b o e n a)
 ·obtain ⟨o',j⟩:=I.base.there b o e a;exact there b o' (h b o e a) j
 ·obtain ⟨L,j⟩:=I.base.tbls b ps e;obtain ⟨K,A⟩:=tbls b _ j;exact ⟨L++K,by rw [A,Array.append_assoc]⟩
 ·obtain ⟨m,O,N⟩:=I.loc;refine ⟨m,ns m O,fun i x v j A M=>?_⟩;obtain ⟨u,r,l⟩:=N i x v j A M;refine ⟨u,r,?_⟩;rcases l with l | ⟨k,c,e,z⟩
  ·exact .inl l
  ·exact .inr ⟨k,c,e,f x c e _ z⟩
 ·obtain ⟨v,z⟩:=I.cell x c e;exact ⟨v,f x c e v z⟩
 ·obtain ⟨m,⟨o,_,_,y,_⟩,_⟩:=I.loc;exact free _ o (fun z=>(hch _ z).2.1 rfl) y I.free
 ·obtain ⟨v,o,y,D⟩:=I.cell x c e;exact free c o (fun z=>(hch c z).2.2.1 x c e rfl) y (I.freeC x c e)
 ·obtain ⟨e,n,G,J,d⟩:=I.pin p E;have g:p.1∉ch:=fun z=>(hch p.1 z).2.2.2 p E rfl;exact ⟨keep p.1 p.2 G J g e n,free p.1 p.2 g e n,G,J,d⟩
theorem Inv.un {t':Nat} (I:Inv X pins σ H s) (u:Un X.fs [] H H' s.heap h') (hok:HOk X.prog X.w H' h'):Inv X pins σ H' { s with heap:=h',toks:=t' }:=by
 obtain ⟨m,⟨o,t,q,g,r⟩,_⟩:=id I.loc;obtain ⟨l,i⟩:=u.any g I.free (by simp);exact I.step (g':=s.gens) (d':=s.drawn) (ch:=[]) (fun _ z=>nomatch z) (fun b o _ c _ e n=>u.keep b o e n c (by simp)) (fun b o _ c _ e n=>u.slot b o e n c (by simp)) (fun b o _ e n=>u.free b o e n (by simp)) (fun b o _ e=>u.there b o e (by simp)) u.tups u.frzs u.tbls (fun p j=>by
  obtain ⟨k,d,f,a,h⟩:=j;rw [g] at a;cases a;exact ⟨_,d,f,i,h⟩) hok I.bare
theorem Inv.call {g':Array GenState} {t':Nat} {d':Drawn} {ch:List Addr} (I:Inv X pins σ H s) (u:Un (frs X.stack) ch H H' s.heap h') (hok:HOk X.prog X.w H' h') (hg:AllBare g')
  (hch:∀ b∈ch,(b∈X.ex\/X.s₀.heap.objs.size<=b)/\b≠X.env.locals/\(∀ x c,X.env.cells.lookup x=some c->c≠b)/\∀ p∈X.pn++pins,p.1≠b) :
  Inv X pins σ H' { s with heap:=h',gens:=g',drawn:=d',toks:=t' }:=by
 obtain ⟨m,⟨o,A,y,i,r⟩,_⟩:=id I.loc;obtain ⟨t,f⟩:=u.any i I.free fun z=>(hch _ z).2.1 rfl;exact I.step (ch:=ch) hch (fun b o f k a e n=>u.keep b o e n (fun z=>(mem_cons.mp (I.stkSub b z)).elim f k) a) (fun b o _ _ a e n=>u.any e n a) (fun b o a e n=>u.free b o e n a) (fun b o a e=>u.there b o e a) u.tups u.frzs u.tbls (fun v l=>by
  obtain ⟨q,g,h,d,j⟩:=l;rw [i] at d;cases d;exact ⟨_,g,h,f,j⟩) hok hg
theorem Inv.turned {t':Nat} {it:Addr} (I:Inv X pins σ H s) (k:∀ b o,b≠it->s.heap.get? b=some o->h'.get? b=some o) (hn:H it=none) (hL:it≠X.env.locals)
  (h1:it∈X.ex\/X.s₀.heap.objs.size<=it) (h2:∀ x c,X.env.cells.lookup x=some c->c≠it) (h3:∀ p∈X.pn++pins,p.1≠it):Inv X pins σ H { s with heap:=h',toks:=t' }:=by
 have d:∀ b u,H b=some u->b≠it:=fun b u e z=>by rw [z,hn] at e;cases e
 refine I.step (g':=s.gens) (d':=s.drawn) (ch:=[it]) (fun b f=>?_) (fun b o _ _ a e _=>k b o (fun z=>a (by simp [z])) e) (fun b o _ _ a e _=>⟨o.slots,k b o (fun z=>a (by simp [z])) e⟩) (fun _ _ _ _ n=>n)
  (fun b o a e=>⟨o,k b o (fun z=>a (by simp [z])) e⟩) (fun _ _ e=>e) (fun _ _ _ e=>e) (fun b l e=>⟨#[],by rw [e];simp⟩) (fun m i=>?_) (fun b u e=>?_) I.bare
 ·have e:b=it:=by simpa using f
  subst e;exact ⟨h1,hL,h2,h3⟩
 ·obtain ⟨o,j,h,g,r⟩:=i;exact ⟨o,j,h,k _ o (Ne.symm hL) g,r⟩
 ·refine (I.hok b u e).stay (fun c v a q=>k c v ?_ q) (fun _ q=>q) fun _ _ q=>q;rcases a with z | z
  ·rw [z];exact d b u e
  ·exact d c _ z
theorem Inv.tok (I:Inv X pins σ H s) (t:Nat):Inv X pins σ H { s with toks:=t }:=I.un (h':=s.heap) (t':=t) Un.refl I.hok
theorem Inv.kept {t':Nat} (I:Inv X pins σ H s) (k:∀ b u,s.heap.get? b=some u->h'.get? b=some u):Inv X pins σ H { s with heap:=h',toks:=t' }:=I.un (Un.kept k) (I.hok.kept k)
theorem Inv.laid {a:Addr} {o:HO} {t':Nat} (I:Inv X pins σ H s) (k:∀ b u,s.heap.get? b=some u->h'.get? b=some u) (hp:s.heap.objs.size<=a) (new:ObjOk X.prog X.w (upd H a o) h' a o) :
  Inv X pins σ (upd H a o) { s with heap:=h',toks:=t' }:=I.un (Un.laid k hp (I.hok.fresh hp)) (I.hok.laid k hp new)
theorem Inv.write {x e:Addr} {o:HO} {t':Nat} (I:Inv X pins σ H s) (mu:Mut (H x)) (he:e=x\/H e=some (.own x)) (k:∀ b u,b≠e->s.heap.get? b=some u->h'.get? b=some u) (heo:∃ u,h'.get? e=some u)
  (new:ObjOk X.prog X.w (upd H x o) h' x o):Inv X pins σ (upd H x o) { s with heap:=h',toks:=t' }:=I.un (Un.write mu he k heo) (I.hok.write mu he k heo new)
theorem Inv.pins_of {pins':List (Addr × Obj)} (I:Inv X pins σ H s) (h:∀ p∈pins',s.heap.get? p.1=some p.2/\H p.1=none/\p.1≠X.env.locals/\p.1∉X.fs/\∀ v,p.2.data≠.cell v):Inv X pins' σ H s :=
 ⟨I.ok,I.os,I.bare,I.base,I.loc,I.cell,I.free,I.freeC,fun p a=>(mem_append.mp a).elim (fun z=>I.pin p (List.mem_append_left _ z)) (h p),I.hok,I.len⟩
theorem JgZ {N:List Str} (hN:N.Nodup) {i j:Nat} {x:Str} (a:N[i]?=some x) (b:N[j]?=some x):i=j:=by
 obtain ⟨e,c⟩:=List.getElem?_eq_some_iff.mp a;obtain ⟨f,d⟩:=List.getElem?_eq_some_iff.mp b;exact (List.getElem_inj hN).mp (c.trans d.symm)
theorem JfY {M:Model} {A:Around} {E:Value->Shared->Prop} {i:Nat} {x:Str} {v:V} {u:Value} {Q:Unit->Shared->Prop} (I:Inv X pins σ H s) (hN:X.N.Nodup) (hi:X.N[i]?=some x) (hx:Loc X.env.scope x) (r:RelV v u)
  (h:∀ s',Inv X pins (σ.set i (some v)) H s'->(∃ a,Heap.SameBut a s.heap s'.heap/\(a=X.env.locals\/X.env.cells.lookup x=some a))->Q () s') (hf:X.fn x=true\/X.env.scope.names.lookup x=some .local:=by first | exact .inl rfl | exact .inr rfl | assumption):wpAny M A (storeName X.env x u) Q E s:=by
 obtain ⟨m,hn,hl⟩:=id I.loc;have O:(X.env.scope.kind == .class||(X.env.scope.kind == .module&&X.env.locals != X.env.globals))=false:=by rw [I.ok.kind];rfl
 have hiσ : i<σ.length:=by rw [I.len];exact (List.getElem?_eq_some_iff.mp hi).1
 have D:=I.cne;have g:∀ {a:Addr} {K:Heap},(∃ o,s.heap.get? a=some o/\H a=none)->Heap.SameBut a s.heap K->HOk X.prog X.w H K:=fun {a K} ha f b ob e=>by
  obtain ⟨_,_,B⟩:=ha;refine (I.hok b ob e).stay (fun c T t q=>(f.2 c ?_).trans q) (fun _ q=>q) fun _ _ q=>q;rintro rfl;rcases t with rfl | t
  ·rw [B] at e;cases e
  ·rw [B] at t;cases t
 rcases hx with hk | hk
 ·refine wpAny_storeName_local hk hn (fun K a0 f=>?_) O;obtain ⟨oL,_,_,a1,_⟩:=id hn;refine h _ ⟨I.ok,I.os,I.bare,⟨fun b o e n F hx=>?_,fun b o e n F hx=>?_,I.base.free,fun b o e hx=>?_,I.base.tups,I.base.frzs,I.base.tbls⟩,⟨_,a0,fun j y v' l C e3=>?_⟩,fun y c e=>?_,I.free,I.freeC,fun p Y=>?_,g ⟨oL,a1,I.free⟩ f,by simpa using I.len⟩ ⟨_,f, .inl rfl⟩
  ·exact (f.2 b (Nat.ne_of_lt (Nat.lt_of_lt_of_le (Heap.lt_size e) I.ok.above))).trans (I.base.keep b o e n F hx)
  ·obtain ⟨sl,l⟩:=I.base.slot b o e n F hx;exact ⟨sl,(f.2 b (Nat.ne_of_lt (Nat.lt_of_lt_of_le (Heap.lt_size e) I.ok.above))).trans l⟩
  ·obtain ⟨Z,l⟩:=I.base.there b o e hx;exact ⟨Z,(f.2 b (Nat.ne_of_lt (Nat.lt_of_lt_of_le (Heap.lt_size e) I.ok.above))).trans l⟩
  ·by_cases G:j=i
   ·subst G;rw [hi] at l;cases l;rw [List.getElem?_set_self hiσ] at C;cases C;exact ⟨u,r, .inl ⟨hk,by simp⟩⟩
   ·rw [List.getElem?_set_ne (Ne.symm G)] at C;obtain ⟨u',r',q⟩:=hl j y v' l C e3;refine ⟨u',r',?_⟩;rcases q with ⟨k,e⟩ | ⟨k,c,e,z⟩
    ·refine .inl ⟨k,?_⟩;have : y≠x:=fun e=>G (JgZ hN l (e ▸ hi));simp [this,e]
    ·exact .inr ⟨k,c,e,z.sameBut f (D y c e)⟩
  ·obtain ⟨T,z⟩:=I.cell y c e;exact ⟨T,z.sameBut f (D y c e)⟩
  ·obtain ⟨e,n,W,nf,d⟩:=I.pin p Y;exact ⟨(f.2 p.1 W).trans e,n,W,nf,d⟩
 ·have J:X.fn x=true:=by
   rcases hf with z | z
   ·exact z
   ·rw [z] at hk;cases hk
  obtain ⟨c,t⟩:=I.ok.has x (.inl hk);obtain ⟨T,z⟩:=I.cell x c t;refine wpAny_storeName_cell I.ok.kind hk t z (fun K L f=>?_);obtain ⟨oc,P,R⟩:=id z;refine h { s with heap:=K } ⟨I.ok,I.os,I.bare,⟨fun b o e n F hx=>?_,fun b o e n F hx=>?_,I.base.free,fun b o e hx=>?_,I.base.tups,I.base.frzs,I.base.tbls⟩,⟨m,hn.sameBut f (Ne.symm (D x c t)),fun j y v' l C e3=>?_⟩,fun y U e=>?_,I.free,I.freeC,fun p Y=>?_,g ⟨oc,P,I.freeC x c t⟩ f,by simpa using I.len⟩ ⟨c,f, .inr t⟩
  ·exact (f.2 b (Nat.ne_of_lt (Nat.lt_of_lt_of_le (Heap.lt_size e) (I.ok.cab x c J t)))).trans (I.base.keep b o e n F hx)
  ·obtain ⟨sl,l⟩:=I.base.slot b o e n F hx;exact ⟨sl,(f.2 b (Nat.ne_of_lt (Nat.lt_of_lt_of_le (Heap.lt_size e) (I.ok.cab x c J t)))).trans l⟩
  ·obtain ⟨Z,l⟩:=I.base.there b o e hx;exact ⟨Z,(f.2 b (Nat.ne_of_lt (Nat.lt_of_lt_of_le (Heap.lt_size e) (I.ok.cab x c J t)))).trans l⟩
  ·by_cases G:j=i
   ·subst G;rw [hi] at l;cases l;rw [List.getElem?_set_self hiσ] at C;cases C;exact ⟨u,r, .inr ⟨.inl hk,c,t,L⟩⟩
   ·rw [List.getElem?_set_ne (Ne.symm G)] at C;obtain ⟨u',r',q⟩:=hl j y v' l C e3;refine ⟨u',r',?_⟩;rcases q with q | ⟨k,U,e,z'⟩
    ·exact .inl q
    ·refine .inr ⟨k,U,e,z'.sameBut f ?_⟩;rintro rfl;exact G (JgZ hN l (I.ok.inj _ _ _ e t ▸ hi))
  ·by_cases S:U=c
   ·subst S;exact ⟨_,L⟩
   ·obtain ⟨w2,z2⟩:=I.cell y U e;exact ⟨w2,z2.sameBut f S⟩
  ·obtain ⟨e,n,W,nf,d⟩:=I.pin p Y;refine ⟨(f.2 p.1 ?_).trans e,n,W,nf,d⟩;intro q;rw [q,P] at e;have q':oc=p.2:=Option.some.inj e;exact d T (by rw [<- q'];exact R)
theorem Jg7 {M:Model} {A:Around} {E:Value->Shared->Prop} {i:Nat} {x:Str} {v:V} {u:Value} {Q:Unit->Shared->Prop} (I:Inv X pins σ H s) (hN:X.N.Nodup) (hi:X.N[i]?=some x) (hx:Loc X.env.scope x) (r:RelV v u)
  (h:∀ s',Inv X pins (σ.set i (some v)) H s'->Q () s') (hf:X.fn x=true\/X.env.scope.names.lookup x=some .local:=by first | exact .inl rfl | exact .inr rfl | assumption):wpAny M A (storeName X.env x u) Q E s :=
 JfY I hN hi hx r (fun s' I' _=>h s' I') hf
theorem Inv.call' {s':Shared} {ch:List Addr} (I:Inv X pins σ H s) (ho:s'.os=s.os) (u:Un (frs X.stack) ch H H' s.heap s'.heap) (hok:HOk X.prog X.w H' s'.heap) (hg:AllBare s'.gens)
  (hch:∀ b∈ch,(b∈X.ex\/X.s₀.heap.objs.size<=b)/\b≠X.env.locals/\(∀ x c,X.env.cells.lookup x=some c->c≠b)/\∀ p∈X.pn++pins,p.1≠b):Inv X pins σ H' s':=by
 obtain ⟨d,g',d',t',a⟩:=s';have e:a=s.os:=ho;subst e;exact I.call (g':=g') (t':=t') (d':=d') u hok hg hch
end
abbrev XK:=Value->Option Addr->Hp->Prop
abbrev St:=List (Option V)
abbrev VK:=V->Hp->Prop
abbrev TE:=St->Hp->VK->Prop
abbrev TT:=St->Hp->(Bool->Hp->Prop)->Prop
abbrev TA:=St->Hp->(List V->Hp->Prop)->Prop
structure Ends where
 nx:St->Hp->Prop
 rt:VK
 bk:St->Hp->Prop:=fun _ _=>False
 ct:St->Hp->Prop:=fun _ _=>False
abbrev TS:=Ends->St->Hp->Prop
def EP (X:Cx) (pins:List (Addr × Obj)) (σ : St) (Q:VK) (u:Value) (s':Shared):Prop:=∃ v H',Inv X pins σ H' s'/\RelV v u/\Q v H'
def TP (X:Cx) (pins:List (Addr × Obj)) (σ : St) (Q:Bool->Hp->Prop) (b:Bool) (s':Shared):Prop:=∃ H',Inv X pins σ H' s'/\Q b H'
def AP (X:Cx) (pins:List (Addr × Obj)) (σ : St) (Q:List V->Hp->Prop) (us:List Value) (s':Shared):Prop:=∃ vs H',Inv X pins σ H' s'/\Vals vs us/\Q vs H'
def SP (X:Cx) (pins:List (Addr × Obj)) (D:Ends) (f:Flow) (s':Shared):Prop :=
 match f with
 | .next=>∃ σ' H',Inv X pins σ' H' s'/\D.nx σ' H'
 | .brk=>∃ σ' H',Inv X pins σ' H' s'/\D.bk σ' H'
 | .cont=>∃ σ' H',Inv X pins σ' H' s'/\D.ct σ' H'
 | .ret u=>∃ v σ' H',Inv X pins σ' H' s'/\RelV v u/\D.rt v H'
def PE (X:Cx) (e:Expr) (t:TE):Prop :=
 ∀ (pins:List (Addr × Obj)) (s:Shared) (σ : St) (H:Hp) (Q:VK),Inv X pins σ H s->t σ H Q->wpAny (model X.prog X.w) X.A (eval e X.env) (EP X pins σ Q) X.xe s
def PT (X:Cx) (e:Expr) (t:TT):Prop :=
 ∀ (pins:List (Addr × Obj)) (s:Shared) (σ : St) (H:Hp) (Q:Bool->Hp->Prop),Inv X pins σ H s->t σ H Q->wpAny (model X.prog X.w) X.A (isTrue e X.env (eval e X.env)) (TP X pins σ Q) X.xe s
def PW (X:Cx) (e:Expr) (t:TT):Prop :=
 ∀ (whole:Sem Value) (pins:List (Addr × Obj)) (s:Shared) (σ : St) (H:Hp) (Q:Bool->Hp->Prop),Inv X pins σ H s->t σ H Q->wpAny (model X.prog X.w) X.A (isTrue e X.env whole) (TP X pins σ Q) X.xe s
theorem PW.pt {X:Cx} {e:Expr} {t:TT} (h:PW X e t):PT X e t:=h _
def PA (X:Cx) (es:List Expr) (t:TA):Prop :=
 ∀ (pos:Pos) (pins:List (Addr × Obj)) (s:Shared) (σ : St) (H:Hp) (Q:List V->Hp->Prop),Inv X pins σ H s->t σ H Q->wpAny (model X.prog X.w) X.A (spliced (backTo pos (starEach es X.env))) (AP X pins σ Q) X.xe s
def PS (X:Cx) (st:Stmt) (t:TS):Prop :=
 ∀ (pins:List (Addr × Obj)) (s:Shared) (σ : St) (H:Hp) (D:Ends),Inv X pins σ H s->t D σ H->wpAny (model X.prog X.w) X.A (exec st X.env) (SP X pins D) X.xe s
def PSs (X:Cx) (st:List Stmt) (t:TS):Prop :=
 ∀ (pins:List (Addr × Obj)) (s:Shared) (σ : St) (H:Hp) (D:Ends),Inv X pins σ H s->t D σ H->wpAny (model X.prog X.w) X.A (execs st X.env) (SP X pins D) X.xe s
theorem thn {α : Type} {t:Sem α} {Q Q' : α->Shared->Prop} {M:Model} {A:Around} {E:Value->Shared->Prop} {s:Shared} (h:wpAny M A t Q E s) (hQ:∀ a s,Q a s->Q' a s):wpAny M A t Q' E s:=wpAny_mono h hQ fun _ _ x=>x
section
variable {X:Cx}
def tVar (i:Nat):TE:=fun σ H Q=>∃ v,σ[i]?=some (some v)/\Q v H
def tC (v:V):TE:=fun _ H Q=>Q v H
theorem Jlx {i:Nat} {x:Str} {pos:Pos} (hN:X.N[i]?=some x) (hv:Vis X.env.scope x) (hd:(x == ("__debug__" : Str))=false:=by decide) (hcd:(x == ("__classdict__" : Str))=false:=by decide):PE X (.Name x pos) (tVar i):=by
 intro b s σ H Q I h;obtain ⟨v,e,h⟩:=h;obtain ⟨m,f,d⟩:=I.loc;obtain ⟨u,r,l⟩:=d i x v hN e hv;have a:EP X b σ Q u s:=⟨v,H,I,r,h⟩;rcases l with ⟨hk,hm⟩ | ⟨hk,c,hc,hcell⟩
 ·exact wpAny_Name (wpAny_loadName_local I.ok.kind hk f hm a) hd
 ·rcases hk with hk | hk
  ·exact wpAny_Name (wpAny_loadName_cell I.ok.kind hk hc hcell a) hd
  ·exact wpAny_Name (wpAny_loadName_free I.ok.kind hk hc hcell a hcd) hd
theorem Jac {i j pos}:PE X (.Constant (.int i) j pos) (tC (.int i)):=fun _ _ _ H _ I h=>wpAny_Constant_int ⟨.int i,H,I.tok _,⟨_,rfl⟩,h⟩
theorem pe_bl {b j pos}:PE X (.Constant (.bool b) j pos) (tC (.bl b)):=fun _ _ _ H _ I h=>Constant_bool ⟨.bl b,H,I,rfl,h⟩
theorem Jdf {j pos}:PE X (.Constant .none j pos) (tC .non):=fun _ _ _ H _ I h=>Constant_none ⟨.non,H,I,rfl,h⟩
theorem Jbu {x j pos}:PE X (.Constant (.str x) j pos) (tC (.str x)):=fun _ _ _ H _ I h=>Calls.Constant_str ⟨.str x,H,I.tok _,⟨_,rfl⟩,h⟩
def Gl (X:Cx) (x:Str):Prop:=X.env.kindOf x=some .globalImplicit
theorem Jdp {E:Value->Shared->Prop} {pins:List (Addr × Obj)} {s:Shared} {σ : St} {H:Hp} {x:Str} {u:Value} {pos:Pos} {Q:Value->Shared->Prop} (I:Inv X pins σ H s) (hg:Gl X x) (hm:X.mg x=some u) (h:Q u s)
  (hd:(x == ("__debug__" : Str))=false:=by decide):wpAny (model X.prog X.w) X.A (eval (.Name x pos) X.env) Q E s :=
 Calls.Name_function_global I.ok.kind hg (Calls.loadGlobal_global (by rw [I.ok.glob];exact I.mod.glob.keeps I.bk) hm h) hd
theorem JeL {E:Value->Shared->Prop} {pins:List (Addr × Obj)} {s:Shared} {σ : St} {H:Hp} {x:Str} {u:Value} {pos:Pos} {Q:Value->Shared->Prop} (I:Inv X pins σ H s) (hg:Gl X x) (hm:X.mg x=none) (hv:bootBuiltins x=some u) (h:Q u s)
  (hn:x≠"__name__":=by decide) (hd:(x == ("__debug__" : Str))=false:=by decide):wpAny (model X.prog X.w) X.A (eval (.Name x pos) X.env) Q E s:=by
 obtain ⟨c,a,b⟩:=I.mod.blt;exact Calls.Name_function_global I.ok.kind hg (Calls.loadGlobal_builtin (by rw [I.ok.glob];exact I.mod.glob.keeps I.bk) hm (by rw [I.ok.blt];exact a.keeps I.bk) ((b x hn).trans hv) h) hd
theorem JcT {x:Str} {v:V} {u:Value} {pos:Pos} (hg:Gl X x) (hm:X.mg x=some u) (r:RelV v u) (hd:(x == ("__debug__" : Str))=false:=by decide):PE X (.Name x pos) (tC v) :=
 fun _ _ _ H _ I h=>Jdp I hg hm ⟨v,H,I,r,h⟩ hd
theorem JcS {x:Str} {v:V} {u:Value} {pos:Pos} (hg:Gl X x) (hm:X.mg x=none) (hv:bootBuiltins x=some u) (r:RelV v u) (hn:x≠"__name__":=by decide) (hd:(x == ("__debug__" : Str))=false:=by decide):PE X (.Name x pos) (tC v) :=
 fun _ _ _ H _ I h=>JeL I hg hm hv ⟨v,H,I,r,h⟩ hn hd
variable {a b:Expr} {ta tb:TE} {pos:Pos}
def PC (X:Cx) (op:CmpOp) (a b:Expr) (t:TE):Prop :=
 ∀ (pins:List (Addr × Obj)) (s:Shared) (σ : St) (H:Hp) (Q:VK),Inv X pins σ H s->t σ H Q ->
  wpAny (model X.prog X.w) X.A (eval a X.env) (fun v s₁=>wpAny (model X.prog X.w) X.A (eval b X.env) (fun u s₂=>wpAny (model X.prog X.w) X.A (compareOp op v u) (EP X pins σ Q) X.xe s₂) X.xe s₁) X.xe s
theorem JgY (b:Expr) {op:CmpOp} (h:op≠.In) (h2:op≠.NotIn):behindInMarks op b=false:=by
 have a:(op == CmpOp.In)=false:=by cases op <;> first | rfl | exact absurd rfl h
 have c:(op == CmpOp.NotIn)=false:=by cases op <;> first | rfl | exact absurd rfl h2
 cases b <;> simp [behindInMarks,a,c]
def tB (t:TE):TT:=fun σ H Q=>t σ H fun x H1=>∃ c,x=.bl c/\Q c H1
theorem Jlw {op:CmpOp} {t:TE} (h:PC X op a b t) (h1:behindInMarks op b=false:=by first | exact JgY _ ⋯ ⋯ | rfl):PE X (.Compare a [op] [b] pos) t:=fun c s σ H Q I d=>wpAny_Compare1 (h c s σ H Q I d) h1
theorem Jek {op:CmpOp} {t:TE} (h:PC X op a b t) (h1:behindInMarks op b=false:=by first | exact JgY _ ⋯ ⋯ | rfl):PT X (.Compare a [op] [b] pos) (tB t):=by
 intro e s σ H Q I k;refine wpAny_isTrue_Compare1 (thn (h e s σ H _ I k) fun v l h1=>thn h1 fun u m j=>thn j fun c n ζ=>?_) h1;obtain ⟨x,f,I1,i,g⟩:=ζ;obtain ⟨d,rfl,q⟩:=g;cases i;exact wpAny_truthy_bool ⟨f,I1,q⟩
theorem Jbc {e:Expr} {t:TE} (h:PE X e t) (he:∀ whole,isTrue e X.env whole=(do let v <- whole;standAt e.pos;holding [v] (truthy v)):=by intro _;rfl):PT X e (tB t):=by
 intro a s σ H Q I g;refine isTrue_plain (thn (h a s σ H _ I g) fun v i ⟨x,c,I1,b,f⟩=>?_) (he _);obtain ⟨d,rfl,q⟩:=f;cases b;exact wpAny_truthy_bool ⟨c,I1,q⟩
variable {tA tB':TT} {rest:List Expr}
def tAnd (t u:TT):TT:=fun σ H Q=>t σ H fun c H1=>if c=true then u σ H1 Q else Q false H1
def tOr (t u:TT):TT:=fun σ H Q=>t σ H fun c H1=>if c=true then Q true H1 else u σ H1 Q
def tNot (t:TT):TT:=fun σ H Q=>t σ H fun c H1=>Q (!c) H1
theorem Jix (ha:PT X a tA):PW X (.BoolOp .And [a] pos) tA:=by
 intro f b s σ H Q I h;refine isTrue_and (thn (ha b s σ H Q I h) fun c d e=>?_);cases c with
 | true=>exact isTrue_and_nil e
 | false=>exact e
theorem JcD (ha:PT X a tA):PW X (.BoolOp .Or [a] pos) tA:=by
 intro f b s σ H Q I h;refine isTrue_or (thn (ha b s σ H Q I h) fun c d e=>?_);cases c with
 | false=>exact isTrue_or_nil e
 | true=>exact e
theorem JjM (ha:PT X a tA) (hb:PW X (.BoolOp .And (b::rest) pos) tB'):PW X (.BoolOp .And (a::b::rest) pos) (tAnd tA tB'):=by
 intro i d s σ H Q I h;refine isTrue_and (thn (ha d s σ H _ I h) fun c g ⟨e,I1,f⟩=>?_);cases c with
 | true=>exact hb i d g σ e Q I1 f
 | false=>exact ⟨e,I1,f⟩
theorem pw_or (ha:PT X a tA) (hb:PW X (.BoolOp .Or (b::rest) pos) tB'):PW X (.BoolOp .Or (a::b::rest) pos) (tOr tA tB'):=by
 intro i d s σ H Q I h;refine isTrue_or (thn (ha d s σ H _ I h) fun c g ⟨e,I1,f⟩=>?_);cases c with
 | true=>exact ⟨e,I1,f⟩
 | false=>exact hb i d g σ e Q I1 f
theorem JbF (ha:PT X a tA):PT X (.UnaryOp .Not a pos) (tNot tA):=by
 intro b s σ H Q I h;exact isTrue_not (ha b s σ H (fun c d=>Q (!c) d) I h)
def tAndV (ta tb:TE):TE:=fun σ H Q=>ta σ H fun x H1=>∃ c,x=.bl c/\if c=true then tb σ H1 Q else Q (.bl false) H1
def tOrV (ta tb:TE):TE:=fun σ H Q=>ta σ H fun x H1=>∃ c,x=.bl c/\if c=true then Q (.bl true) H1 else tb σ H1 Q
def tNotV (ta:TE):TE:=fun σ H Q=>ta σ H fun x H1=>∃ c,x=.bl c/\Q (.bl (!c)) H1
theorem JdC {op} {t:TE} (h:PE X a t):PE X (.BoolOp op [a] pos) t:=fun b s σ H Q I c=>BoolOp_one (h b s σ H Q I c)
theorem JcA (ha:PE X a ta) (hb:PE X (.BoolOp .And (b::rest) pos) tb):PE X (.BoolOp .And (a::b::rest) pos) (tAndV ta tb):=by
 intro d s σ H Q I h;refine BoolOp_and (thn (ha d s σ H _ I h) fun v i ζ=>?_);obtain ⟨x,f,I1,g,e⟩:=ζ;obtain ⟨c,rfl,e⟩:=e;cases g;refine wpAny_truthy_bool ?_;cases c with
 | true=>exact hb d i σ f Q I1 e
 | false=>exact ⟨.bl false,f,I1,rfl,e⟩
theorem pe_or (ha:PE X a ta) (hb:PE X (.BoolOp .Or (b::rest) pos) tb):PE X (.BoolOp .Or (a::b::rest) pos) (tOrV ta tb):=by
 intro d s σ H Q I h;refine BoolOp_or (thn (ha d s σ H _ I h) fun v i ζ=>?_);obtain ⟨x,f,I1,g,e⟩:=ζ;obtain ⟨c,rfl,e⟩:=e;cases g;refine wpAny_truthy_bool ?_;cases c with
 | false=>exact hb d i σ f Q I1 e
 | true=>exact ⟨.bl true,f,I1,rfl,e⟩
theorem Jip (ha:PE X a ta):PE X (.UnaryOp .Not a pos) (tNotV ta):=by
 intro b s σ H Q I h;refine UnaryOp_ (thn (ha b s σ H _ I h) fun v g ζ=>?_);obtain ⟨x,f,I1,e,d⟩:=ζ;obtain ⟨c,rfl,d⟩:=d;cases e;exact not_of (wpAny_truthy_bool ⟨.bl (!c),f,I1,rfl,d⟩)
def tIf (t:TT) (ta tb:TE):TE:=fun σ H Q=>t σ H fun c H1=>if c=true then ta σ H1 Q else tb σ H1 Q
theorem Jg3 {c:Expr} (hc:PT X c tA) (ha:PE X a ta) (hb:PE X b tb):PE X (.IfExp c a b pos) (tIf tA ta tb):=by
 intro e s σ H Q I h;refine wpAny_IfExp (thn (hc e s σ H _ I h) fun d g ⟨f,I1,i⟩=>?_);cases d with
 | true=>exact ha e g σ f Q I1 i
 | false=>exact hb e g σ f Q I1 i
end
def SqL (K:W.Frag) (H:Hp) (a:Addr) (xs:List V):Prop :=
 Rd H a (.lst xs) \/
  ∃ (o:Obj) (its:Array Value) (n:Nat),K.lookup a=some o/\o.cls=.type "list"/\o.dict=none/\o.data=.seq its n/\its.size<=sizeLine/\Vals xs its.toList
def SqT (K:W.Frag) (H:Hp) (a:Addr) (xs:List V):Prop :=
 Rd H a (.tup xs) \/
  ∃ (o:Obj) (its:Array Value) (n:Nat),K.lookup a=some o/\o.cls=.type "tuple"/\o.data=.seq its n/\its.size<=sizeLine/\Vals xs its.toList
def absV:Value->Option V
 | .none=>some .non
 | .bool b=>some (.bl b)
 | .int i _=>some (.int i)
 | .str x _=>some (.str x)
 | .bytes b _=>some (.byt b)
 | .float b _=>some (.flt b)
 | .ref a=>some (.ref a)
 | .type n=>some (.ty n)
 | _=>none
theorem RelV.abs {x:V} {u:Value} (r:RelV x u):absV u=some x:=by
 cases x with
 | non=>cases r;rfl
 | bl _=>cases r;rfl
 | int _=>obtain ⟨t,rfl⟩:=r;rfl
 | str _=>obtain ⟨t,rfl⟩:=r;rfl
 | byt _=>obtain ⟨t,rfl⟩:=r;rfl
 | flt _=>obtain ⟨t,rfl⟩:=r;rfl
 | ref _=>cases r;rfl
 | ty _=>cases r;rfl
theorem RelV.inj {x y:V} {u:Value} (r:RelV x u) (q:RelV y u):x=y:=Option.some.inj (r.abs.symm.trans q.abs)
theorem Vals.inj:∀ {xs ys:List V} {us:List Value},Vals xs us->Vals ys us->xs=ys
 | _,_,_, .nil, .nil=>rfl
 | _,_,_, .cons r t, .cons r' t'=>by rw [r.inj r',Vals.inj t t']
section
variable {X:Cx} {pins:List (Addr × Obj)} {σ : St} {H:Hp} {s:Shared} {a:Addr} {xs ys:List V}
theorem SqL.of {K:W.Frag} (h:H a=some (.lst xs)):SqL K H a xs:=.inl (.inl h)
theorem SqT.of {K:W.Frag} (h:H a=some (.tup xs)):SqT K H a xs:=.inl (.inl h)
theorem Inv.list (I:Inv X pins σ H s) (h:SqL X.K H a xs):∃ its:List Value,Vals xs its/\PlainL s.heap a its.toArray/\xs.length<=sizeLine:=by
 rcases h with h | ⟨o,its,n,hk,hc,hd,hs,hz,r⟩
 ·obtain ⟨z,its,n,r,e⟩:=h.ok I.hok;exact ⟨its,r,⟨_,n,e,rfl,rfl,rfl⟩,z⟩
 ·refine ⟨its.toList,r,⟨o,n,I.kIn a o hk,hc,hd,by simpa using hs⟩,?_⟩;have e:=r.length;simp only [Array.length_toList] at e;ac_nf
theorem Inv.tuple (I:Inv X pins σ H s) (h:SqT X.K H a xs):∃ its:List Value,Vals xs its/\IsTup s.heap a its.toArray/\xs.length<=sizeLine:=by
 rcases h with h | ⟨o,its,n,hk,hc,hs,hz,r⟩
 ·obtain ⟨z,its,r,p⟩:=h.ok I.hok;exact ⟨its,r,p,z⟩
 ·refine ⟨its.toList,r,⟨o,I.kIn a o hk,hc,n,by simpa using hs⟩,?_⟩;have e:=r.length;simp only [Array.length_toList] at e;ac_nf
theorem Inv.list_inj (I:Inv X pins σ H s) (h:SqL X.K H a xs) (h':SqL X.K H a ys):xs=ys:=by
 obtain ⟨c,r,⟨o,n,e,_,_,d⟩,_⟩:=I.list h;obtain ⟨b,i,⟨j,k,g,_,_,f⟩,_⟩:=I.list h';rw [e] at g;cases g;rw [d] at f;injection f with d1 _
 have : c=b:=by simpa using congrArg Array.toList d1
 subst this;exact r.inj i
theorem Inv.tuple_inj (I:Inv X pins σ H s) (h:SqT X.K H a xs) (h':SqT X.K H a ys):xs=ys:=by
 obtain ⟨c,r,⟨o,e,_,n,d⟩,_⟩:=I.tuple h;obtain ⟨b,i,⟨j,g,_,k,f⟩,_⟩:=I.tuple h';rw [e] at g;cases g;rw [d] at f;injection f with d1 _
 have : c=b:=by simpa using congrArg Array.toList d1
 subst this;exact r.inj i
end
abbrev Cx.wish (X:Cx) (E:Value->Shared->Prop):Cx:={ X with xe:=E }
abbrev Cx.nox (X:Cx):Cx:=X.wish fun _ _=>False
theorem Cx.Ok.wish {X:Cx} (ok:X.Ok) (E:Value->Shared->Prop):(X.wish E).Ok :=
 ⟨ok.mod,ok.kind,ok.glob,ok.blt,ok.above,ok.inj,ok.has,ok.cab,ok.hd,ok.frames,ok.stk,ok.exf,ok.bs,ok.bsz,ok.noex,ok.exfs,ok.funs,ok.frf⟩
theorem Cx.Ok.unwish {X:Cx} {E:Value->Shared->Prop} (ok:(X.wish E).Ok):X.Ok :=
 ⟨ok.mod,ok.kind,ok.glob,ok.blt,ok.above,ok.inj,ok.has,ok.cab,ok.hd,ok.frames,ok.stk,ok.exf,ok.bs,ok.bsz,ok.noex,ok.exfs,ok.funs,ok.frf⟩
section
variable {X:Cx} {pins:List (Addr × Obj)} {σ : St} {H:Hp} {s:Shared} {E:Value->Shared->Prop}
theorem Inv.wish (I:Inv X pins σ H s) (E:Value->Shared->Prop):Inv (X.wish E) pins σ H s:=⟨I.ok.wish E,I.os,I.bare,I.base,I.loc,I.cell,I.free,I.freeC,I.pin,I.hok,I.len⟩
theorem Inv.unwish (I:Inv (X.wish E) pins σ H s):Inv X pins σ H s:=⟨I.ok.unwish,I.os,I.bare,I.base,I.loc,I.cell,I.free,I.freeC,I.pin,I.hok,I.len⟩
theorem SP.unwish {D:Ends} {f:Flow} {s':Shared} (h:SP (X.wish E) pins D f s'):SP X pins D f s':=by
 cases f with
 | next=>obtain ⟨σ',a,I,q⟩:=h;exact ⟨σ',a,I.unwish,q⟩
 | brk=>obtain ⟨σ',a,I,q⟩:=h;exact ⟨σ',a,I.unwish,q⟩
 | cont=>obtain ⟨σ',a,I,q⟩:=h;exact ⟨σ',a,I.unwish,q⟩
 | ret u=>obtain ⟨v,σ',a,I,r,q⟩:=h;exact ⟨v,σ',a,I.unwish,r,q⟩
theorem PSs.nox {st:List Stmt} {t:TS} (h:PSs X.nox st t):PSs X st t:=fun a s σ H D I b=>
 wpAny_mono (h a s σ H D (I.wish _) b) (fun _ _ q=>q.unwish) fun _ _ z=>False.elim z
end
section
variable {X:Cx} {st:Stmt} {rest:List Stmt} {t u:TS} {e:Expr} {te:TE} {pos:Pos}
def tNext:TS:=fun D σ H=>D.nx σ H
def tSeq (t u:TS):TS:=fun D σ H=>t { D with nx:=u D } σ H
theorem Jay:PSs X [] tNext:=fun _ _ σ H _ I h=>wpAny_execs_nil ⟨σ,H,I,h⟩
theorem Jab (h1:PS X st t) (h2:PSs X rest u):PSs X (st::rest) (tSeq t u):=by
 intro a s σ H D I h;refine wpAny_execs_cons (thn (h1 a s σ H { D with nx:=u D } I h) fun f c q=>?_);cases f with
 | next=>
  obtain ⟨σ',b,I',q⟩:=q;exact h2 a c σ' b D I' q
 | ret v=>exact q
 | brk=>exact q
 | cont=>exact q
theorem Jai (h1:PS X st t):PSs X [st] t:=by
 intro a s σ H D I h;refine wpAny_execs_cons (thn (h1 a s σ H D I h) fun f b q=>?_);cases f with
 | next=>exact wpAny_execs_nil q
 | ret v=>exact q
 | brk=>exact q
 | cont=>exact q
theorem Inv.quiet {pins:List (Addr × Obj)} {σ : St} {H:Hp} {s:Shared} (I:Inv X pins σ H s):interactive X.env=false:=by simp [interactive,I.ok.kind]
def tDrop (te:TE):TS:=fun D σ H=>te σ H fun _ H1=>D.nx σ H1
theorem Ja7 (he:PE X e te) (hs:swapsWith e none pos.line X.env=pure false:=by rfl):PS X (.Expr e pos) (tDrop te):=by
 intro a s σ H D I h;exact wpAny_Expr_any (thn (he a s σ H _ I h) fun v f ⟨x,b,I1,d,c⟩=>⟨σ,b,I1,c⟩) I.quiet hs
def tRet (te:TE):TS:=fun D σ H=>te σ H D.rt
theorem Jaq (he:PE X e te):PS X (.Return (some e) pos) (tRet te):=by
 intro a s σ H D I h;exact wpAny_Return_some (thn (he a s σ H _ I h) fun v f ⟨x,c,I1,b,d⟩=>⟨x,σ,c,I1,b,d⟩)
def tRetN:TS:=fun D _ H=>D.rt .non H
def tIfS (c:TT) (t u:TS):TS:=fun D σ H=>c σ H fun b H1=>if b=true then t D σ H1 else u D σ H1
theorem ps_if {c:Expr} {a b:List Stmt} {tc:TT} (hc:PT X c tc) (ha:PSs X a t) (hb:PSs X b u):PS X (.If c a b pos) (tIfS tc t u):=by
 intro e s σ H D I h;refine wpAny_If (thn (hc e s σ H _ I h) fun d g ⟨f,I1,i⟩=>?_);cases d with
 | true=>exact ha e g σ f D I1 i
 | false=>exact hb e g σ f D I1 i
end
abbrev TG:=V->St->Hp->(St->Hp->Prop)->Prop
abbrev TGs:=List V->St->Hp->(St->Hp->Prop)->Prop
def PG (X:Cx) (target:Expr) (t:TG):Prop :=
 ∀ (pins:List (Addr × Obj)) (s:Shared) (σ : St) (H:Hp) (v:V) (u:Value) (Q:St->Hp->Prop),Inv X pins σ H s->RelV v u->t v σ H Q ->
  wpAny (model X.prog X.w) X.A (assign target X.env u) (fun _ s'=>∃ σ' H',Inv X pins σ' H' s'/\Q σ' H') X.xe s
def PGs (X:Cx) (ts:List Expr) (t:TGs):Prop :=
 ∀ (pins:List (Addr × Obj)) (s:Shared) (σ : St) (H:Hp) (vs:List V) (us:List Value) (Q:St->Hp->Prop),Inv X pins σ H s->Vals vs us->t vs σ H Q ->
  wpAny (model X.prog X.w) X.A (assignInOrder ((assignEach ts X.env).map (·.2)) us) (fun _ s'=>∃ σ' H',Inv X pins σ' H' s'/\Q σ' H') X.xe s
section
variable {X:Cx} {pos:Pos}
def gName (i:Nat):TG:=fun v σ H Q=>Q (σ.set i (some v)) H
theorem Jap {i:Nat} {x:Str} (hN:X.N.Nodup) (hi:X.N[i]?=some x) (hx:Loc X.env.scope x) (hf:X.fn x=true\/X.env.scope.names.lookup x=some .local:=by first | exact .inl rfl | exact .inr rfl | assumption):PG X (.Name x pos) (gName i):=by
 intro a s σ H v u Q I r h;exact wpAny_assign_Name (Jg7 I hN hi hx r (fun b I'=>⟨_,H,I',h⟩) hf)
def gNil:TGs:=fun vs σ H Q=>vs=[]/\Q σ H
def gCons (t:TG) (u:TGs):TGs:=fun vs σ H Q=>∃ v r,vs=v::r/\t v σ H fun σ' H'=>u r σ' H' Q
theorem JcU:PGs X [] gNil:=by
 intro a s σ H b c Q I r h;obtain ⟨e,h⟩:=h;subst e;cases r;exact assignInOrder_nil ⟨σ,H,I,h⟩
theorem Ja2 {e:Expr} {es:List Expr} {t:TG} {u:TGs} (h1:PG X e t) (h2:PGs X es u)
  (hs:(assignEach (e::es) X.env).map (·.2)=assign e X.env::(assignEach es X.env).map (·.2):=by rfl):PGs X (e::es) (gCons t u):=by
 intro a s σ H g j Q I r h;obtain ⟨v,i,f,h⟩:=h;subst f;cases r with
 | cons r rr=>
  rw [hs];refine assignInOrder_cons (thn (h1 a s σ H _ _ _ I r h) fun _ b ⟨σ1,c,I1,d⟩=>?_);exact h2 a b σ1 c _ _ Q I1 rr d
def gTup (K:W.Frag) (n:Nat) (t:TGs):TG:=fun v σ H Q=>∃ a xs,v=.ref a/\SqT K H a xs/\xs.length=n/\t xs σ H Q
theorem Jei {es:List Expr} {k:Nat} {t:TGs} {n:Nat} (hc:X.calm=true) (h:PGs X es t)
  (hn:(assignEach es X.env).length=n:=by rfl) (hst:(assignEach es X.env).findIdx? (·.1)=none:=by rfl):PG X (.Tuple es k pos) (gTup X.K n t):=by
 intro c s σ H v u Q I r d;obtain ⟨a,g,l,w,p,d⟩:=d;subst l;cases r;obtain ⟨j,f,q,x⟩:=I.tuple w;refine assign_Tuple_tuple (I.ok.hd hc) q (by simp [hn, <- p,f.length]) hst fun m i=>?_;have I1:Inv X c σ H { s with heap:=m }:=I.kept (t':=s.toks) fun b o e=>i b o (Nat.ne_of_lt (Heap.lt_size e)) e;exact h c _ σ H g _ Q I1 (by simpa using f) d
def tAsg (te:TE) (g:TG):TS:=fun D σ H=>te σ H fun x H1=>g x σ H1 D.nx
theorem Jiw {tg e:Expr} {te:TE} {g:TG} (he:PE X e te) (hg:PG X tg g) (hs:swapsWithSole [tg] e pos.line X.env=pure false:=by rfl) (hw:swappedStores [tg] e X.env=pure none:=by rfl)
  (h1:(assignEach [tg] X.env).map (·.2)=[assign tg X.env]:=by rfl):PS X (.Assign [tg] e pos) (tAsg te g):=by
 intro a s σ H D I h;refine wpAny_Assign_stores (thn (he a s σ H _ I h) fun v d ⟨x,c,I1,b,f⟩=>?_) hs hw;rw [h1];exact thn (hg a d σ c x v _ I1 b f) fun _ i q=>q
theorem Jaj {i:Nat} {x:Str} {e:Expr} {te:TE} {pos':Pos} (hN:X.N.Nodup) (hi:X.N[i]?=some x) (hx:Loc X.env.scope x) (he:PE X e te) (hs:swapsWith e (some (.Name x pos')) pos.line X.env=pure false:=by rfl) (hf:X.fn x=true\/X.env.scope.names.lookup x=some .local:=by first | exact .inl rfl | exact .inr rfl | assumption) :
  PS X (.Assign [.Name x pos'] e pos) (tAsg te (gName i)):=by
 intro a s σ H D I h;refine wpAny_Assign_Name (thn (he a s σ H _ I h) fun v f ζ=>?_) hs;obtain ⟨y,c,I1,b,d⟩:=ζ;exact Jg7 I1 hN hi hx b (fun g I2=>⟨_,c,I2,d⟩) hf
end
section
variable {X:Cx} {pos:Pos}
def JlN (c:TT) (tb:TS):TS:=fun D σ H=>∃ W:Nat->St->Hp->Prop,(∃ m,W m σ H)/\∀ m σ H,W m σ H ->
 c σ H fun b H1=>if b=true then ∃ N:St->Hp->Prop,(∀ σ' H',N σ' H'->∃ m',m'<m/\W m' σ' H')/\tb { D with nx:=N,ct:=N,bk:=D.nx } σ H1 else D.nx σ H1
theorem JdP {c:Expr} {body:List Stmt} {tc:TT} {tb:TS} (hp:PassesOwn (model X.prog X.w) X.A X.env X.xe) (hc:PT X c tc) (hb:PSs X body tb):PS X (.While c body [] pos) (JlN tc tb):=by
 intro a s σ H D I h;obtain ⟨W,⟨z,y⟩,e⟩:=h;refine wpAny_While (codeAny_whileLoop (fun n r=>∃ σ' H',Inv X a σ' H' r/\W n σ' H') ?_ z ⟨σ,H,I,y⟩);rintro n t ⟨σ1,o,I1,u⟩;refine wpAny_passesOwn hp (thn (hc a t σ1 o _ I1 (e n σ1 o u)) fun b x ζ=>?_);obtain ⟨q,I2,i⟩:=ζ;cases b with
 | true=>
  obtain ⟨N,p,i⟩:=i;rw [if_pos rfl];refine wpAny_passesOwn hp (thn (hb a x σ1 q _ I2 i) fun f B g=>?_);cases f with
  | next=>
   obtain ⟨σ3,d,I3,l⟩:=g;obtain ⟨k,m,j⟩:=p σ3 d l;exact ⟨k,m,σ3,d,I3,j⟩
  | cont=>
   obtain ⟨σ3,d,I3,l⟩:=g;obtain ⟨k,m,j⟩:=p σ3 d l;exact ⟨k,m,σ3,d,I3,j⟩
  | brk=>exact g
  | ret v=>exact g
 | false=>
  rw [if_neg Bool.false_ne_true];exact wpAny_execs_nil ⟨σ1,q,I2,i⟩
end
structure It where
 go:Nat->Hp->Prop
 yld:Nat->Hp->V->Hp->Prop
 stop:Nat->Hp->Prop
def FpOk (X:Cx) (pins:List (Addr × Obj)) (H:Hp) (b:Addr):Prop :=
 H b=none/\b≠X.env.locals/\b∉X.fs/\(b∈X.ex\/X.s₀.heap.objs.size<=b)/\(∀ x c,X.env.cells.lookup x=some c->c≠b)/\∀ p∈X.pn++pins,p.1≠b
theorem Inv.fpOk {X:Cx} {pins:List (Addr × Obj)} {σ : St} {H H':Hp} {s:Shared} {b:Addr} (I:Inv X pins σ H s) (hb:s.heap.objs.size<=b) (hn:H' b=none):FpOk X pins H' b:=by
 refine ⟨hn,Nat.ne_of_gt (Nat.lt_of_lt_of_le I.lt hb),I.nofs hb, .inr (Nat.le_trans I.sz hb),fun x c e z=>?_,fun p a z=>?_⟩
 ·obtain ⟨v,q⟩:=I.cell x c e;exact absurd (Nat.lt_of_lt_of_le q.lt (by rw [z];exact hb)) (Nat.lt_irrefl _)
 ·exact absurd (Nat.lt_of_lt_of_le (Heap.lt_size (I.pin p a).1) (by rw [z];exact hb)) (Nat.lt_irrefl _)
structure Turn (P:Program) (w:World) (K:W.Frag) (tg:Expr) (J:It) (fp:List Addr) (it:Addr) (tn:Nat->Heap->Prop):Prop where
 mem:it∈fp
 obj:∀ i h,tn i h->∀ b∈fp, ∃ o,h.get? b=some o/\∀ v,o.data≠.cell v
 keep:∀ i h h',tn i h->(∀ b∈fp, ∀ o,h.get? b=some o->h'.get? b=some o)->tn i h'
 item:∀ (X:Cx),X.prog=P->X.w=w->X.K=K->X.calm=true->∀ (i:Nat) (pins:List (Addr × Obj)) (s:Shared) (σ : St) (H:Hp) (E:Value->Shared->Prop),Inv X pins σ H s->(∀ b∈fp,FpOk X pins H b)->tn i s.heap->J.go i H ->
  wpAny (model P w) X.A (pyNext (.ref it)) (fun r s1=>∃ u,r=some u /\
   wpAny (model P w) X.A (letOwnedTupleGo tg (.ref it) u) (fun _ s2=>∃ x H',Inv X pins σ H' s2/\RelV x u/\J.yld i H x H'/\tn (i+1) s2.heap/\∀ b∈fp,H' b=none) E s1) E s
 done:∀ (X:Cx),X.prog=P->X.w=w->X.K=K->X.calm=true->∀ (i:Nat) (pins:List (Addr × Obj)) (s:Shared) (σ : St) (H:Hp) (E:Value->Shared->Prop),Inv X pins σ H s->(∀ b∈fp,FpOk X pins H b)->tn i s.heap->J.stop i H ->
  wpAny (model P w) X.A (pyNext (.ref it)) (fun r s1=>r=none/\Inv X pins σ H s1) E s
 self:∀ (A:Around) (i:Nat) (s:Shared) (Q:Value->Shared->Prop) (E:Value->Shared->Prop),tn i s.heap->Q (.ref it) s->wpAny (model P w) A (pyIter (.ref it)) Q E s
abbrev TI:=St->Hp->(It->Hp->Prop)->Prop
def PIE (X:Cx) (pins:List (Addr × Obj)) (σ : St) (tg:Expr) (R:It->Hp->Prop) (itv:Value) (s2:Shared):Prop :=
 ∃ (it:Addr) (fp:List Addr) (tn:Nat->Heap->Prop) (J:It) (H':Hp),itv=.ref it/\Inv X pins σ H' s2/\Turn X.prog X.w X.K tg J fp it tn/\tn 0 s2.heap/\(∀ b∈fp,FpOk X pins H' b)/\R J H'
def PI (X:Cx) (tg iter:Expr) (wi:TI):Prop :=
 ∀ (pins:List (Addr × Obj)) (s:Shared) (σ : St) (H:Hp) (R:It->Hp->Prop),Inv X pins σ H s->wi σ H R ->
  wpAny (model X.prog X.w) X.A (eval iter X.env) (fun v s1=>wpAny (model X.prog X.w) X.A (pyIter v) (PIE X pins σ tg R) X.xe s1) X.xe s
theorem go_of {M:Model} {A:Around} {E:Value->Shared->Prop} {s:Shared} {tg:Expr} {it:Addr} {u:Value} {o:Obj} {n:String} {vs:Array Value} {Q:Unit->Shared->Prop} (ho:s.heap.get? it=some o) (hc:o.cls=.type n) (hd:o.data=.fields vs)
    (hn:["enumerate","zip","dict_itemiterator","dict_reverseitemiterator","odict_iterator","itertools.zip_longest","itertools.pairwise"].contains n=false) (hQ:Q () s):wpAny M A (letOwnedTupleGo tg (.ref it) u) Q E s:=by
  unfold letOwnedTupleGo;cases tg <;> first
    | exact wpAny_pure hQ
    | (cases u <;> first
        | exact wpAny_pure hQ
        | (refine wpAny_bind (wpAny_load ho ?_)
           rw [hc,hd];show wpAny M A (if (["enumerate","zip","dict_itemiterator","dict_reverseitemiterator","odict_iterator","itertools.zip_longest","itertools.pairwise"].contains n&&vs[0]? == some (rawInt _))=true then _ else _) Q E s;rw [if_neg (by intro h;rw [hn,Bool.false_and] at h;cases h)];exact wpAny_pure hQ))
def Itl (K:W.Frag) (a:Addr):It :=
 ⟨fun i H=>∃ xs x,SqL K H a xs/\xs[i]?=some x,fun i H x H'=>H'=H/\∀ xs,SqL K H a xs->xs[i]?=some x,fun i H=>∃ xs,SqL K H a xs/\xs.length<=i⟩
def Itt (K:W.Frag) (a:Addr):It :=
 ⟨fun i H=>∃ xs x,SqT K H a xs/\xs[i]?=some x,fun i H x H'=>H'=H/\∀ xs,SqT K H a xs->xs[i]?=some x,fun i H=>∃ xs,SqT K H a xs/\xs.length<=i⟩
def Itr (lo:Int) (n:Nat):It:=⟨fun i _=>i<n,fun i H x H'=>H'=H/\x=.int (lo+i),fun i _=>n<=i⟩
theorem JiR {P:Program} {w:World} {K:W.Frag} {tg:Expr} (a it:Addr):Turn P w K tg (Itl K a) [it] it (fun i h=>h.IsListIter it a i) where
 mem:=by simp
 obj:=fun i h f b j=>by
  have e:b=it:=by simpa using j
  subst e;obtain ⟨o,e,c,d⟩:=f;exact ⟨o,e,fun v z=>by rw [d] at z;cases z⟩
 keep:=fun i h n f k=>f.at fun o e=>k it (by simp) o e
 item:=by
  intro X F J t N i g s σ H E I m f G;subst F J t;obtain ⟨R,x,q,y⟩:=G;obtain ⟨C,r,p,Y⟩:=I.list q;obtain ⟨u,T,Q⟩:=r.get y;obtain ⟨A,B,V,L,M,D⟩:=m it (by simp);refine wpAny_pyNext_list_item f p.isList (x:=u) (by simpa using T) fun n l S=>?_;have I1:Inv X g σ H { s with heap:=n }:=I.turned (t':=s.toks) (fun b o j e=>(S.2 b j).trans e) A B L M D;obtain ⟨o,e,c,d⟩:=id l;exact ⟨u,rfl,go_of (s:={ s with heap:=n }) e c d ⋯ ⟨x,H,I1,Q,⟨rfl,fun ys O=>by rw [I.list_inj O q];exact y⟩,l,fun b j=>(m b j).1⟩⟩
 done:=by
  intro X F J t N i g s σ H E I m f G;subst F J t;obtain ⟨R,q,y⟩:=G;obtain ⟨C,r,p,Y⟩:=I.list q;obtain ⟨A,B,V,L,M,D⟩:=m it (by simp);have Z:=r.length;exact wpAny_pyNext_list_end (I.ok.hd N) f p.isList (by simp;ac_nf) fun n U=>⟨rfl,I.turned (t':=s.toks) (fun b o j e=>U b o j e) A B L M D⟩
 self:=fun _ _ _ _ _ f h=>wpAny_pyIter_listiter f h
theorem JhD {P:Program} {w:World} {K:W.Frag} {tg:Expr} (a it:Addr):Turn P w K tg (Itt K a) [it] it (fun i h=>h.IsTupleIter it a i) where
 mem:=by simp
 obj:=fun i h f b j=>by
  have e:b=it:=by simpa using j
  subst e;obtain ⟨o,e,c,d⟩:=f;exact ⟨o,e,fun v z=>by rw [d] at z;cases z⟩
 keep:=fun i h q f k=>f.at fun o e=>k it (by simp) o e
 item:=by
  intro X F J y N i g s σ H E I n f G;subst F J y;obtain ⟨R,x,r,A⟩:=G;obtain ⟨l,t,p,Y⟩:=I.tuple r;obtain ⟨u,T,Q⟩:=t.get A;obtain ⟨B,C,V,L,M,D⟩:=n it (by simp);refine wpAny_pyNext_tuple_item f (show s.heap.IsTuple a l.toArray from p) (x:=u) (by simpa using T) fun q m S=>?_;have I1:Inv X g σ H { s with heap:=q }:=I.turned (t':=s.toks) (fun b o j e=>(S.2 b j).trans e) B C L M D;obtain ⟨o,e,c,d⟩:=id m;exact ⟨u,rfl,go_of (s:={ s with heap:=q }) e c d ⋯ ⟨x,H,I1,Q,⟨rfl,fun ys O=>by rw [I.tuple_inj O r];exact A⟩,m,fun b j=>(n b j).1⟩⟩
 done:=by
  intro X F J y N i g s σ H E I n f G;subst F J y;obtain ⟨R,r,A⟩:=G;obtain ⟨l,t,p,Y⟩:=I.tuple r;obtain ⟨B,C,V,L,M,D⟩:=n it (by simp);have Z:=t.length;exact wpAny_pyNext_tuple_end (I.ok.hd N) f (show s.heap.IsTuple a l.toArray from p) (by simp;ac_nf) fun q U=>⟨rfl,I.turned (t':=s.toks) (fun b o j e=>U b o j e) B C L M D⟩
 self:=fun _ _ _ _ _ f h=>wpAny_pyIter_tupleiter f h
theorem JhC {P:Program} {w:World} {K:W.Frag} {tg:Expr} (it:Addr) (lo:Int) (n:Nat):Turn P w K tg (Itr lo n) [it] it (fun i h=>IsRangeIter h it (lo+(i:Nat)*1) ((n:Int)-(i:Nat)) 1) where
 mem:=by simp
 obj:=fun i h a b d=>by
  have e:b=it:=by simpa using d
  subst e;exact ⟨_,a,fun v z=>by
   have G:Data.fields _=Data.cell v:=z;cases G⟩
 keep:=fun i h j a k=>k it (by simp) _ a
 item:=by
  intro X u y m l i c s σ H E I g a x;subst u y m;obtain ⟨p,q,L,A,B,r⟩:=g it (by simp);have W:=Walks.range (prog:=X.prog) (w:=X.w) (I.ok.hd l) it lo 1 n;refine W.item i s _ _ x a fun v j C D f F=>?_;obtain ⟨t,rfl⟩:=D;have I1:Inv X c σ H { s with heap:=j,toks:=C }:=I.turned (fun b o d e=>F b o (by simpa using d) e) p q A B r;refine ⟨_,rfl,go_of (s:={ s with heap:=j,toks:=C }) (n:="range_iterator") f rfl rfl ⋯ ⟨.int (lo+i),H,I1,⟨t,?_⟩,⟨rfl,rfl⟩,f,fun b d=>(g b d).1⟩⟩;rw [Int.mul_one]
 done:=by
  intro X u y m l i c s σ H E I g a x;subst u y m;obtain ⟨p,q,L,A,B,r⟩:=g it (by simp);exact wpAny_pyNext_range_end (I.ok.hd l) a (by have : n<=i:=x;ac_nf) fun j J=>⟨rfl,I.turned (t':=s.toks) (fun b o d e=>J b o d e) p q A B r⟩
 self:=fun _ _ _ _ _ a h=>wpAny_pyIter_rangeiter a h
section
variable {X:Cx} {tg:Expr}
theorem Jjp {pins:List (Addr × Obj)} {σ : St} {H:Hp} {s:Shared} {R:It->Hp->Prop} {E:Value->Shared->Prop} {lo hi:Int} {t u v:Tok} {tk:Nat} (I:Inv X pins σ H s) (h1 : -(2 ^ 62)<=lo) (h2:lo<2 ^ 62) (h3 : -(2 ^ 62)<=hi) (h4:hi<2 ^ 62)
  (q:R (Itr lo (hi-lo).toNat) H):wpAny (model X.prog X.w) X.A (pyIter (.ref s.heap.objs.size)) (PIE X pins σ tg R) E { s with heap:=s.heap.push { cls:=.type "range",data:=.fields #[.int lo t, .int hi u, .int 1 v] },toks:=tk }:=by
 refine wpAny_pyIter_range (IsRange.new ..) (small_one h1 h2 h3 h4) ?_;have I1:Inv X pins σ H { s with heap:=s.heap.push { cls:=.type "range",data:=.fields #[.int lo t, .int hi u, .int 1 v] },toks:=tk }:=I.kept fun b o e=>Heap.get?_push_of_some _ e;refine ⟨(s.heap.push { cls:=.type "range",data:=.fields #[.int lo t, .int hi u, .int 1 v] }).objs.size,[(s.heap.push { cls:=.type "range",data:=.fields #[.int lo t, .int hi u, .int 1 v] }).objs.size],_,_,H,rfl,
  I1.kept (t':=tk) fun b o e=>Heap.get?_push_of_some _ e,JhC _ lo (hi-lo).toNat,?_,fun b a=>?_,q⟩
 ·have c:lo+((0:Nat):Int)*1=lo:=by simp
  have d:(((hi-lo).toNat:Nat):Int)-((0:Nat):Int)=Builtin.Range.rangeSize lo hi 1:=by rw [rangeSize_one];split <;> ac_nf
  show IsRangeIter _ _ (lo+((0:Nat):Int)*1) ((((hi-lo).toNat:Nat):Int)-((0:Nat):Int)) 1;rw [c,d];exact Heap.get?_push_size _ rfl
 ·have e:b=(s.heap.push { cls:=.type "range",data:=.fields #[.int lo t, .int hi u, .int 1 v] }).objs.size:=by simpa using a
  subst e;exact I1.fpOk (Nat.le_refl _) (I1.hok.fresh (Nat.le_refl _))
def iRng1 (ta:TA):TI:=fun σ H R=>ta σ H fun vs H1=>∃ j:Int,vs=[.int j]/\-(2 ^ 62)<=j/\j<2 ^ 62/\R (Itr 0 j.toNat) H1
def iRng2 (ta:TA):TI:=fun σ H R=>ta σ H fun vs H1=>∃ i j:Int,vs=[.int i, .int j]/\(-(2 ^ 62)<=i/\i<2 ^ 62/\-(2 ^ 62)<=j/\j<2 ^ 62)/\R (Itr i (j-i).toNat) H1
theorem JcC {a:Expr} {ta:TA} {p pos:Pos} (hg:Gl X "range") (hm:X.mg "range"=none) (ha:PA X [a] ta) (hs:starEach [a] X.env=[(false,eval a X.env)]:=by rfl):PI X tg (.Call (.Name "range" p) [a] [] pos) (iRng1 ta):=by
 intro b s σ H R I h;refine Call_ (JeL I hg hm boot_range (PyProof.Rows.callWith_type1 (thn (ha pos b s σ H _ I h) fun l i ζ=>?_) hs rfl));obtain ⟨g,k,I1,d,c⟩:=ζ;obtain ⟨j,e,c,f,q⟩:=c;subst e;cases d with
 | cons r rr=>
  cases rr;obtain ⟨t,rfl⟩:=r;exact call_range_1 (Jjp I1 ∅ ∅ c f (by simpa using q))
def tFor (wi:TI) (g:TG) (tb:TS):TS:=fun D σ H=>wi σ H fun J H1=>∃ W:Nat->Nat->St->Hp->Prop,(∃ m,W 0 m σ H1)/\∀ i m σ H,W i m σ H ->
 (J.stop i H/\D.nx σ H)\/(J.go i H/\∃ N:St->Hp->Prop,(∀ σ' H',N σ' H'->∃ m',m'<m/\W (i+1) m' σ' H')/\∀ x H',J.yld i H x H'->g x σ H' fun σ2 H2=>tb { D with nx:=N,ct:=N,bk:=D.nx } σ2 H2)
def Jg4 (fp:List Addr) (h:Heap):List (Addr × Obj):=fp.filterMap fun b=>(h.get? b).map fun o=>(b,o)
theorem Jca {fp:List Addr} {h:Heap} {b:Addr} {o:Obj} (hb:b∈fp) (e:h.get? b=some o):(b,o)∈Jg4 fp h:=List.mem_filterMap.mpr ⟨b,hb,by rw [e];rfl⟩
theorem Jie {fp:List Addr} {h:Heap} {p:Addr × Obj} (hp:p∈Jg4 fp h):p.1∈fp/\h.get? p.1=some p.2:=by
 obtain ⟨b,c,e⟩:=List.mem_filterMap.mp hp;cases q:h.get? b with
 | none=>rw [q] at e;cases e
 | some o=>
  rw [q] at e;have a:(b,o)=p:=Option.some.inj e;subst a;exact ⟨c,q⟩
theorem Inv.pinned {pins:List (Addr × Obj)} {σ : St} {H:Hp} {s:Shared} {fp:List Addr} (I:Inv X pins σ H s) (hf:∀ b∈fp,FpOk X pins H b) (ho:∀ b∈fp, ∃ o,s.heap.get? b=some o/\∀ v,o.data≠.cell v):Inv X (pins++Jg4 fp s.heap) σ H s :=
 I.pins_of fun p f=>(mem_append.mp f).elim (fun z=>I.pin p (mem_append_right _ z)) fun z=>by
  obtain ⟨a,e⟩:=Jie z;obtain ⟨g,i,h,_⟩:=hf p.1 a;obtain ⟨o,c,d⟩:=ho p.1 a;rw [e] at c;cases c;exact ⟨e,g,i,h,d⟩
theorem Inv.unpinned {pins pl:List (Addr × Obj)} {σ : St} {H:Hp} {s:Shared} (I:Inv X (pins++pl) σ H s):Inv X pins σ H s:=I.pins_of fun p a=>I.pin p (mem_append_right _ (List.mem_append_left _ a))
theorem Ja0 {iter:Expr} {body:List Stmt} {wi:TI} {g:TG} {tb:TS} {pos:Pos} (hp:PassesOwn (model X.prog X.w) X.A X.env X.xe) (hc:X.calm=true) (hi:PI X tg iter wi) (hg:PG X tg g) (hb:PSs X body tb)
  (hs:∀ x,foldedSetIterable iter X.env x=pure x:=by intro _;rfl):PS X (.For tg iter body [] pos) (tFor wi g tb):=by
 intro a s σ H D I h;refine wpAny_For (thn (hi a s σ H _ I h) fun v s1 h1=>thn h1 fun a0 s2 h2=>?_) hs;obtain ⟨it,y,O,J,Z,e,I2,T,F,R,W,⟨m0,w0⟩,z⟩:=h2;subst e;have k:∀ {H':Hp},(∀ b∈y,H' b=none)->∀ b∈y,FpOk X a H' b:=fun hn b hb=>⟨hn b hb,(R b hb).2⟩;refine codeAny_forLoop_any (fun n L=>∃ i σ' H',Inv X a σ' H' L/\O i L.heap/\(∀ b∈y,H' b=none)/\W i n σ' H') ?_ m0 ⟨0,σ,Z,I2,F,fun b hb=>(R b hb).1,w0⟩;rintro n P ⟨i,σ3,C,I3,q,B,V⟩;rcases z i n σ3 C V with ⟨stop,qn⟩ | ⟨go,N,hN,step⟩
 ·refine wpAny_passesOwn hp (thn (T.done X rfl rfl rfl hc i a P σ3 C X.xe I3 (k B) q stop) fun r s4 ζ=>?_);obtain ⟨E,I4⟩:=ζ;subst E;exact wpAny_execs_nil ⟨σ3,C,I4,qn⟩
 ·refine wpAny_passesOwn hp (thn (T.item X rfl rfl rfl hc i a P σ3 C X.xe I3 (k B) q go) fun r s4 ζ=>?_);obtain ⟨u,E,U⟩:=ζ;subst E;refine wpAny_passesOwn hp (thn U fun _ Q ζ=>?_);obtain ⟨x,M,I5,r5,y5,p,K⟩:=ζ;have I5':=I5.pinned (k K) (T.obj _ _ p);refine wpAny_passesOwn hp (thn (hg _ Q σ3 M x u _ I5' r5 (step x M y5)) fun _ s6 ζ=>?_);obtain ⟨σ6,Y,I6,S⟩:=ζ;refine wpAny_passesOwn hp (thn (hb _ s6 σ6 Y _ I6 S) fun f G l=>?_);have j:∀ {σ7:St} {c:Hp},Inv X (a++Jg4 y Q.heap) σ7 c G->N σ7 c->∃ m,m<n/\∃ i σ' H',Inv X a σ' H' G/\O i G.heap/\(∀ b∈y,H' b=none)/\W i m σ' H':=fun {σ7 c} I7 t=>by
   obtain ⟨m',hm,w7⟩:=hN σ7 c t;refine ⟨m',hm,i+1,σ7,c,I7.unpinned,T.keep _ _ _ p fun b hb o e=>(I7.pin (b,o) (mem_append_right _ (mem_append_right _ (Jca hb e)))).1,fun b hb=>?_,w7⟩;obtain ⟨o,e,d⟩:=T.obj _ _ p b hb;exact (I7.pin (b,o) (mem_append_right _ (mem_append_right _ (Jca hb e)))).2.1
  cases f with
  | next=>obtain ⟨σ7,c,I7,t⟩:=l;exact j I7 t
  | cont=>obtain ⟨σ7,c,I7,t⟩:=l;exact j I7 t
  | brk=>obtain ⟨σ7,c,I7,l⟩:=l;exact ⟨σ7,c,I7.unpinned,l⟩
  | ret v=>obtain ⟨x7,σ7,c,I7,r7,l⟩:=l;exact ⟨x7,σ7,c,I7.unpinned,r7,l⟩
end
theorem Ji3 {K:W.Frag} {a:Addr} {xs:List V} {g:TG} {tb:TS} {D:Ends} {σ : St} {H:Hp} (Pv:Nat->St->Hp->Prop) (h0:Pv 0 σ H) (hl:∀ i σ H,i<=xs.length->Pv i σ H->SqL K H a xs)
  (hs:∀ i x σ H,xs[i]?=some x->Pv i σ H->g x σ H fun σ2 H2=>tb { D with nx:=Pv (i+1),ct:=Pv (i+1),bk:=D.nx } σ2 H2) (hd:∀ σ H,Pv xs.length σ H->D.nx σ H) :
  ∃ W:Nat->Nat->St->Hp->Prop,(∃ m,W 0 m σ H)/\∀ i m σ H,W i m σ H ->
   ((Itl K a).stop i H/\D.nx σ H)\/((Itl K a).go i H/\∃ N:St->Hp->Prop,(∀ σ' H',N σ' H'->∃ m',m'<m/\W (i+1) m' σ' H')/\∀ x H',(Itl K a).yld i H x H'->g x σ H' fun σ2 H2=>tb { D with nx:=N,ct:=N,bk:=D.nx } σ2 H2):=by
 refine ⟨fun i m σ H=>m=xs.length-i/\i<=xs.length/\Pv i σ H,⟨xs.length,by simp,Nat.zero_le _,h0⟩,?_⟩;rintro i m σ H ⟨rfl,d,p⟩;have q:=hl i σ H d p;by_cases b:i<xs.length
 ·refine .inr ⟨⟨xs,xs[i],q,by simp [b]⟩,Pv (i+1),fun σ' H' c=>⟨xs.length-(i+1),by ac_nf,rfl,b,c⟩,fun x H' y=>?_⟩;obtain ⟨e,y⟩:=y;subst e;exact hs i x σ _ (y xs q) p
 ·have e:i=xs.length:=by ac_nf
  subst e;exact .inl ⟨⟨xs,q,Nat.le_refl _⟩,hd σ H p⟩
theorem Jkg {K:W.Frag} {a:Addr} {xs:List V} {g:TG} {tb:TS} {D:Ends} {σ : St} {H:Hp} (Pv:Nat->St->Hp->Prop) (h0:Pv 0 σ H) (hl:∀ i σ H,i<=xs.length->Pv i σ H->SqT K H a xs)
  (hs:∀ i x σ H,xs[i]?=some x->Pv i σ H->g x σ H fun σ2 H2=>tb { D with nx:=Pv (i+1),ct:=Pv (i+1),bk:=D.nx } σ2 H2) (hd:∀ σ H,Pv xs.length σ H->D.nx σ H) :
  ∃ W:Nat->Nat->St->Hp->Prop,(∃ m,W 0 m σ H)/\∀ i m σ H,W i m σ H ->
   ((Itt K a).stop i H/\D.nx σ H)\/((Itt K a).go i H/\∃ N:St->Hp->Prop,(∀ σ' H',N σ' H'->∃ m',m'<m/\W (i+1) m' σ' H')/\∀ x H',(Itt K a).yld i H x H'->g x σ H' fun σ2 H2=>tb { D with nx:=N,ct:=N,bk:=D.nx } σ2 H2):=by
 refine ⟨fun i m σ H=>m=xs.length-i/\i<=xs.length/\Pv i σ H,⟨xs.length,by simp,Nat.zero_le _,h0⟩,?_⟩;rintro i m σ H ⟨rfl,d,p⟩;have q:=hl i σ H d p;by_cases b:i<xs.length
 ·refine .inr ⟨⟨xs,xs[i],q,by simp [b]⟩,Pv (i+1),fun σ' H' c=>⟨xs.length-(i+1),by ac_nf,rfl,b,c⟩,fun x H' y=>?_⟩;obtain ⟨e,y⟩:=y;subst e;exact hs i x σ _ (y xs q) p
 ·have e:i=xs.length:=by ac_nf
  subst e;exact .inl ⟨⟨xs,q,Nat.le_refl _⟩,hd σ H p⟩
theorem JhU {lo:Int} {n:Nat} {g:TG} {tb:TS} {D:Ends} {σ : St} {H:Hp} (Pv:Nat->St->Hp->Prop) (h0:Pv 0 σ H)
  (hs:∀ i σ H,i<n->Pv i σ H->g (.int (lo+i)) σ H fun σ2 H2=>tb { D with nx:=Pv (i+1),ct:=Pv (i+1),bk:=D.nx } σ2 H2) (hd:∀ σ H,Pv n σ H->D.nx σ H) :
  ∃ W:Nat->Nat->St->Hp->Prop,(∃ m,W 0 m σ H)/\∀ i m σ H,W i m σ H ->
   ((Itr lo n).stop i H/\D.nx σ H)\/((Itr lo n).go i H/\∃ N:St->Hp->Prop,(∀ σ' H',N σ' H'->∃ m',m'<m/\W (i+1) m' σ' H')/\∀ x H',(Itr lo n).yld i H x H'->g x σ H' fun σ2 H2=>tb { D with nx:=N,ct:=N,bk:=D.nx } σ2 H2):=by
 refine ⟨fun i m σ H=>m=n-i/\i<=n/\Pv i σ H,⟨n,by simp,Nat.zero_le _,h0⟩,?_⟩;rintro i m σ H ⟨rfl,c,p⟩;by_cases a:i<n
 ·refine .inr ⟨a,Pv (i+1),fun σ' H' b=>⟨n-(i+1),by ac_nf,rfl,a,b⟩,fun x H' y=>?_⟩;obtain ⟨e,y⟩:=y;subst e y;exact hs i σ _ a p
 ·have e:i=n:=by ac_nf
  subst e;exact .inl ⟨Nat.le_refl _,hd σ H p⟩
abbrev R2:=V->V->Hp->VK->Prop
def OpR (X:Cx) (f:Value->Value->Sem Value) (r:R2):Prop :=
 ∀ (pins:List (Addr × Obj)) (s:Shared) (σ : St) (H:Hp) (x y:V) (v u:Value) (Q:VK),Inv X pins σ H s->RelV x v->RelV y u->r x y H Q ->
  wpAny (model X.prog X.w) X.A (f v u) (EP X pins σ Q) X.xe s
def UnR (X:Cx) (f:Value->Sem Value) (r:V->Hp->VK->Prop):Prop :=
 ∀ (pins:List (Addr × Obj)) (s:Shared) (σ : St) (H:Hp) (x:V) (v:Value) (Q:VK),Inv X pins σ H s->RelV x v->r x H Q ->
  wpAny (model X.prog X.w) X.A (f v) (EP X pins σ Q) X.xe s
def CallR (X:Cx) (f:Value) (r:List V->Hp->VK->Prop):Prop :=
 ∀ (pins:List (Addr × Obj)) (s:Shared) (σ : St) (H:Hp) (xs:List V) (us:List Value) (Q:VK),Inv X pins σ H s->Vals xs us->r xs H Q ->
  wpAny (model X.prog X.w) X.A (call f us) (EP X pins σ Q) X.xe s
def tOp (r:R2) (ta tb:TE):TE:=fun σ H Q=>ta σ H fun x H1=>tb σ H1 fun y H2=>r x y H2 Q
def tUn (r:V->Hp->VK->Prop) (ta:TE):TE:=fun σ H Q=>ta σ H fun x H1=>r x H1 Q
def rI (C:Int->Int->Prop) (g:Int->Int->V):R2:=fun x y H Q=>∃ i j,x=.int i/\y=.int j/\C i j/\Q (g i j) H
def rI0 (g:Int->Int->V):R2:=fun x y H Q=>∃ i j,x=.int i/\y=.int j/\Q (g i j) H
def rU (g:Int->V):V->Hp->VK->Prop:=fun x H Q=>∃ i,x=.int i/\Q (g i) H
section
variable {X:Cx} {a b c:Expr} {ta tb tc:TE} {pos:Pos}
theorem binT (ha:PE X a ta) (hb:PE X b tb) {pins:List (Addr × Obj)} {s:Shared} {σ : St} {H:Hp} {R:V->V->Hp->Prop} (I:Inv X pins σ H s)
  (h:ta σ H fun x H1=>tb σ H1 fun y H2=>R x y H2) {Q:Value->Shared->Prop} {f:Value->Value->Sem Value}
  (hf:∀ v u s2 x y H2,Inv X pins σ H2 s2->RelV x v->RelV y u->R x y H2->wpAny (model X.prog X.w) X.A (f v u) Q X.xe s2) :
  wpAny (model X.prog X.w) X.A (eval a X.env) (fun v s₁=>wpAny (model X.prog X.w) X.A (eval b X.env) (fun u s₂=>wpAny (model X.prog X.w) X.A (f v u) Q X.xe s₂) X.xe s₁) X.xe s:=by
 refine thn (ha pins s σ H _ I h) fun v d ζ=>?_;obtain ⟨x,H1,I1,c,e⟩:=ζ;refine thn (hb pins d σ H1 _ I1 e) fun u s2 ζ=>?_;obtain ⟨y,H2,I2,i,g⟩:=ζ;exact hf v u s2 x y H2 I2 c i g
theorem pe_op {op:Operator} {r:R2} (ho:OpR X (binaryOp op) r) (ha:PE X a ta) (hb:PE X b tb):PE X (.BinOp a op b pos) (tOp r ta tb):=by
 intro c s σ H Q I h;exact wpAny_BinOp (binT ha hb I h fun v u f x y e I2 g d q=>ho c f σ e x y v u Q I2 g d q)
theorem pe_un {op:UnaryOp} {r:V->Hp->VK->Prop} (ho:UnR X (unaryOp op) r) (ha:PE X a ta):PE X (.UnaryOp op a pos) (tUn r ta):=by
 intro b s σ H Q I h;exact UnaryOp_ (thn (ha b s σ H _ I h) fun v e ⟨x,d,I1,c,f⟩=>ho b e σ d x v Q I1 c f)
theorem opI {f:Value->Value->Sem Value} {C:Int->Int->Prop} {g:Int->Int->Int}
  (rule:∀ (i j:Int) (t u:Tok) (s:Shared) (Q:Value->Shared->Prop) (E:Value->Shared->Prop),C i j->Q (.int (g i j) s.toks) { s with toks:=s.toks+1 }->wpAny (model X.prog X.w) X.A (f (.int i t) (.int j u)) Q E s) :
  OpR X f (rI C fun i j=>.int (g i j)):=by
 intro a s σ H x y v u Q I e c h;obtain ⟨i,j,rfl,rfl,b,q⟩:=h;obtain ⟨t,rfl⟩:=e;obtain ⟨d,rfl⟩:=c;exact rule i j t d s _ _ b ⟨.int (g i j),H,I.tok _,⟨_,rfl⟩,q⟩
theorem opI0 {f:Value->Value->Sem Value} {g:Int->Int->Int}
  (rule:∀ (i j:Int) (t u:Tok) (s:Shared) (Q:Value->Shared->Prop) (E:Value->Shared->Prop),Q (.int (g i j) s.toks) { s with toks:=s.toks+1 }->wpAny (model X.prog X.w) X.A (f (.int i t) (.int j u)) Q E s) :
  OpR X f (rI0 fun i j=>.int (g i j)):=by
 intro a s σ H x y v u Q I d b h;obtain ⟨i,j,rfl,rfl,q⟩:=h;obtain ⟨t,rfl⟩:=d;obtain ⟨c,rfl⟩:=b;exact rule i j t c s _ _ ⟨.int (g i j),H,I.tok _,⟨_,rfl⟩,q⟩
theorem opB0 {f:Value->Value->Sem Value} {g:Int->Int->Bool}
  (rule:∀ (i j:Int) (t u:Tok) (s:Shared) (Q:Value->Shared->Prop) (E:Value->Shared->Prop),Q (.bool (g i j)) s->wpAny (model X.prog X.w) X.A (f (.int i t) (.int j u)) Q E s) :
  OpR X f (rI0 fun i j=>.bl (g i j)):=by
 intro a s σ H x y v u Q I d b h;obtain ⟨i,j,rfl,rfl,q⟩:=h;obtain ⟨t,rfl⟩:=d;obtain ⟨c,rfl⟩:=b;exact rule i j t c s _ _ ⟨.bl (g i j),H,I,rfl,q⟩
def CPow (i j:Int):Prop:=0<=j/\j<=1000000/\i.natAbs<2 ^ 64
theorem Jlo:OpR X (binaryOp .Add) (rI0 fun i j=>.int (i+j)):=opI0 fun _ _ _ _ _ _ _ q=>add_int q
theorem Jil:OpR X (binaryOp .Sub) (rI0 fun i j=>.int (i-j)):=opI0 fun _ _ _ _ _ _ _ q=>sub_int q
theorem Jkz:OpR X (binaryOp .Mod) (rI (fun _ j=>j≠0) fun i j=>.int (i.fmod j)):=opI fun _ _ _ _ _ _ _ a q=>mod_int' a q
theorem Jlu:OpR X (binaryOp .Pow) (rI CPow fun i j=>.int (i ^ j.toNat)):=opI fun _ _ _ _ _ _ _ a q=>pow_int_small a.1 a.2.1 a.2.2 q
theorem unI {f:Value->Sem Value} {g:Int->Int}
  (rule:∀ (i:Int) (t:Tok) (s:Shared) (Q:Value->Shared->Prop) (E:Value->Shared->Prop),Q (.int (g i) s.toks) { s with toks:=s.toks+1 }->wpAny (model X.prog X.w) X.A (f (.int i t)) Q E s) :
  UnR X f (rU fun i=>.int (g i)):=by
 intro a s σ H x v Q I b h;obtain ⟨i,rfl,q⟩:=h;obtain ⟨t,rfl⟩:=b;exact rule i t s _ _ ⟨.int (g i),H,I.tok _,⟨_,rfl⟩,q⟩
theorem Jf2:UnR X (unaryOp .USub) (rU fun i=>.int (-i)):=unI fun _ _ _ _ _ q=>neg_int q
end
def scal:V->V->Bool
 | .non, .non=>true | .non, .int _=>true | .int _, .non=>true | .non, .bl _=>true | .bl _, .non=>true | .non, .str _=>true | .str _, .non=>true
 | .int _, .int _=>true | .bl _, .bl _=>true | .str _, .str _=>true | .byt _, .byt _=>true
 | .int _, .str _=>true | .str _, .int _=>true | .bl _, .str _=>true | .str _, .bl _=>true
 | _,_=>false
def rEq:R2:=fun x y H Q=>scal x y=true/\Q (.bl (decide (x=y))) H
def rNe:R2:=fun x y H Q=>scal x y=true/\Q (.bl (!decide (x=y))) H
theorem JhQ {i j:Int}:decide (V.int i=V.int j)=(i == j):=by
 rw [Bool.eq_iff_iff];simp
theorem JjC {i j:Bool}:decide (V.bl i=V.bl j)=(i == j):=by
 rw [Bool.eq_iff_iff];simp
theorem JhR {i j:Str}:decide (V.str i=V.str j)=(i == j):=by
 rw [Bool.eq_iff_iff];simp
theorem JhP {i j:Array UInt8}:decide (V.byt i=V.byt j)=(i.toList == j.toList):=by
 rw [Bool.eq_iff_iff];cases i;cases j;simp
section
variable {X:Cx} {a b c:Expr} {ta tb tc:TE} {pos:Pos}
theorem JaP {pins:List (Addr × Obj)} {σ : St} {H:Hp} {s:Shared} {Q:VK} {k k':Bool} (I:Inv X pins σ H s) (q:Q (.bl k) H) (e:k=k'):EP X pins σ Q (.bool k') s:=by
 subst e;exact ⟨.bl k,H,I,rfl,q⟩
theorem op_eq:OpR X (compareOp .Eq) rEq:=by
 intro e s σ H x y v u Q I d a h;obtain ⟨c,q⟩:=h;cases x with
 | non=>
  cases d;cases y with
  | non=>cases a;exact PySem.EqNone.eq_none_none (JaP I q (by simp))
  | bl j=>cases a;exact PySem.EqNone.eq_none_bool (JaP I q (by simp))
  | int j=>obtain ⟨b,rfl⟩:=a;exact PySem.EqNone.eq_none_int (JaP I q (by simp))
  | str j=>obtain ⟨b,rfl⟩:=a;exact PySem.EqNone.eq_none_str (JaP I q (by simp))
  | _=>exact absurd (show false=true from c) Bool.false_ne_true
 | bl i=>
  cases d;cases y with
  | non=>cases a;exact PySem.EqNone.eq_bool_none (JaP I q (by simp))
  | bl j=>cases a;exact eq_bool (JaP I q JjC)
  | str j=>obtain ⟨b,rfl⟩:=a;exact PySem.EqMixed.eq_bool_str (JaP I q (by simp))
  | _=>exact absurd (show false=true from c) Bool.false_ne_true
 | int i=>
  obtain ⟨t,rfl⟩:=d;cases y with
  | non=>cases a;exact PySem.EqNone.eq_int_none (JaP I q (by simp))
  | int j=>obtain ⟨b,rfl⟩:=a;exact eq_int (JaP I q JhQ)
  | str j=>obtain ⟨b,rfl⟩:=a;exact PySem.EqMixed.eq_int_str (JaP I q (by simp))
  | _=>exact absurd (show false=true from c) Bool.false_ne_true
 | str i=>
  obtain ⟨t,rfl⟩:=d;cases y with
  | non=>cases a;exact PySem.EqNone.eq_str_none (JaP I q (by simp))
  | bl j=>cases a;exact PySem.EqMixed.eq_str_bool (JaP I q (by simp))
  | int j=>obtain ⟨b,rfl⟩:=a;exact PySem.EqMixed.eq_str_int (JaP I q (by simp))
  | str j=>obtain ⟨b,rfl⟩:=a;exact eq_str (JaP I q JhR)
  | _=>exact absurd (show false=true from c) Bool.false_ne_true
 | byt i=>
  obtain ⟨t,rfl⟩:=d;cases y with
  | byt j=>obtain ⟨b,rfl⟩:=a;exact W.eq_bytes (JaP I q JhP)
  | _=>exact absurd (show false=true from c) Bool.false_ne_true
 | _=>cases y <;> exact absurd (show false=true from c) Bool.false_ne_true
theorem op_ne:OpR X (compareOp .NotEq) rNe:=by
 intro e s σ H x y v u Q I d a h;obtain ⟨c,q⟩:=h;cases x with
 | non=>
  cases d;cases y with
  | non=>cases a;exact PySem.EqNone.ne_none_none (JaP I q (by simp))
  | bl j=>cases a;exact PySem.EqNone.ne_none_bool (JaP I q (by simp))
  | int j=>obtain ⟨b,rfl⟩:=a;exact PySem.EqNone.ne_none_int (JaP I q (by simp))
  | str j=>obtain ⟨b,rfl⟩:=a;exact PySem.EqNone.ne_none_str (JaP I q (by simp))
  | _=>exact absurd (show false=true from c) Bool.false_ne_true
 | bl i=>
  cases d;cases y with
  | non=>cases a;exact PySem.EqNone.ne_bool_none (JaP I q (by simp))
  | bl j=>cases a;exact ne_bool (JaP I q (congrArg not JjC))
  | str j=>obtain ⟨b,rfl⟩:=a;exact PySem.EqMixed.ne_bool_str (JaP I q (by simp))
  | _=>exact absurd (show false=true from c) Bool.false_ne_true
 | int i=>
  obtain ⟨t,rfl⟩:=d;cases y with
  | non=>cases a;exact PySem.EqNone.ne_int_none (JaP I q (by simp))
  | int j=>obtain ⟨b,rfl⟩:=a;exact ne_int (JaP I q (congrArg not JhQ))
  | str j=>obtain ⟨b,rfl⟩:=a;exact PySem.EqMixed.ne_int_str (JaP I q (by simp))
  | _=>exact absurd (show false=true from c) Bool.false_ne_true
 | str i=>
  obtain ⟨t,rfl⟩:=d;cases y with
  | non=>cases a;exact PySem.EqNone.ne_str_none (JaP I q (by simp))
  | bl j=>cases a;exact PySem.EqMixed.ne_str_bool (JaP I q (by simp))
  | int j=>obtain ⟨b,rfl⟩:=a;exact PySem.EqMixed.ne_str_int (JaP I q (by simp))
  | str j=>obtain ⟨b,rfl⟩:=a;exact ne_str (JaP I q (congrArg not JhR))
  | _=>exact absurd (show false=true from c) Bool.false_ne_true
 | byt i=>
  obtain ⟨t,rfl⟩:=d;cases y with
  | byt j=>obtain ⟨b,rfl⟩:=a;exact W.ne_bytes (JaP I q (congrArg not JhP))
  | _=>exact absurd (show false=true from c) Bool.false_ne_true
 | _=>cases y <;> exact absurd (show false=true from c) Bool.false_ne_true
theorem op_lt:OpR X (compareOp .Lt) (rI0 fun i j=>.bl (decide (i<j))):=opB0 fun _ _ _ _ _ _ _ q=>lt_int q
theorem op_gt:OpR X (compareOp .Gt) (rI0 fun i j=>.bl (decide (j<i))):=opB0 fun _ _ _ _ _ _ _ q=>gt_int q
theorem op_ge:OpR X (compareOp .GtE) (rI0 fun i j=>.bl (decide (j<=i))):=opB0 fun _ _ _ _ _ _ _ q=>ge_int q
theorem Jij:OpR X (compareOp .In) (fun x y H Q=>∃ i j,x=.str i/\y=.str j/\Q (.bl (!(Builtin.Str.occurrences j i 0 j.length 1).isEmpty)) H):=by
 intro a s σ H x y v u Q I c b h;obtain ⟨i,j,rfl,rfl,q⟩:=h;obtain ⟨t,rfl⟩:=c;obtain ⟨d,rfl⟩:=b;exact in_str (JaP I q rfl)
theorem Jls:OpR X (compareOp .Is) (fun x y H Q=>y=.non/\Q (.bl (decide (x=.non))) H):=by
 intro a s σ H x y v u Q I b c h;obtain ⟨rfl,q⟩:=h;cases c;refine is_none_gen (JaP I q ?_);cases x <;> first
  | (cases b;rfl)
  | (obtain ⟨t,rfl⟩:=b;rfl)
theorem JkC:OpR X (compareOp .IsNot) (fun x y H Q=>y=.non/\Q (.bl (!decide (x=.non))) H):=by
 intro a s σ H x y v u Q I b c h;obtain ⟨rfl,q⟩:=h;cases c;refine isnot_none_gen (JaP I q ?_);cases x <;> first
  | (cases b;rfl)
  | (obtain ⟨t,rfl⟩:=b;rfl)
theorem JaC (b:Expr) {op:CmpOp} (h:op≠.In:=by decide) (h2:op≠.NotIn:=by decide):behindInMarks op b=false:=by
 have a:(op == CmpOp.In)=false:=by cases op <;> first | rfl | exact absurd rfl h
 have c:(op == CmpOp.NotIn)=false:=by cases op <;> first | rfl | exact absurd rfl h2
 cases b <;> simp [behindInMarks,a,c]
theorem Jbv {op:CmpOp} {r:R2} (ho:OpR X (compareOp op) r) (ha:PE X a ta) (hb:PE X b tb) (hm:behindInMarks op b=false):PE X (.Compare a [op] [b] pos) (tOp r ta tb):=by
 intro c s σ H Q I h;exact wpAny_Compare1 (binT ha hb I h fun v u f x y e I2 g d q=>ho c f σ e x y v u Q I2 g d q) hm
def tTest (t:TE):TT:=fun σ H Q=>t σ H fun x H'=>∃ k,x=.bl k/\Q k H'
theorem Jaz {op:CmpOp} {r:R2} (ho:OpR X (compareOp op) r) (ha:PE X a ta) (hb:PE X b tb) (hm:behindInMarks op b=false):PT X (.Compare a [op] [b] pos) (tTest (tOp r ta tb)):=by
 intro d s σ H Q I h;refine wpAny_isTrue_Compare1 (thn (ha d s σ H _ I h) fun v g ⟨x,i,I1,n,j⟩=>thn (hb d g σ i _ I1 j) fun u p ⟨y,o,I2,q,l⟩=>
  thn (ho d p σ o x y v u _ I2 n q l) fun c w ⟨z,m,I3,t,k,e,f⟩=>?_) hm
 subst e;cases t;exact wpAny_truthy_bool ⟨m,I3,f⟩
def JlK (r r':R2) (ta tb tc:TE):TE:=fun σ H Q=>ta σ H fun x H1=>tb σ H1 fun y H2=>r x y H2 fun z H3=>∃ k,z=.bl k /\
 (if k=true then tc σ H3 fun w' H4=>r' y w' H4 Q else Q (.bl false) H3)
theorem JeM:(sizeLine:Nat)<2 ^ 63:=by rw [sizeLine_eq];decide
theorem Jht:OpR X (binaryOp .Add) (fun x y H Q=>∃ i j,x=.str i/\y=.str j/\i.length+j.length<=sizeLine/\Q (.str (i++j)) H):=by
 intro a s σ H x y v u Q I c d h;obtain ⟨i,j,rfl,rfl,e,q⟩:=h;obtain ⟨t,rfl⟩:=c;obtain ⟨b,rfl⟩:=d;exact add_str (fun b f=>⟨.str (i++j),H,I.tok _,⟨_,rfl⟩,q⟩) e
theorem vals1 {x:V} {us:List Value} (r:Vals [x] us):∃ u,us=[u]/\RelV x u:=by
 cases r with
 | cons r1 r2=>cases r2;exact ⟨_,rfl,r1⟩
theorem vals2 {x y:V} {us:List Value} (r:Vals [x,y] us):∃ u w',us=[u,w']/\RelV x u/\RelV y w':=by
 cases r with
 | cons r1 r2=>
  cases r2 with
  | cons r3 r4=>cases r4;exact ⟨_,_,rfl,r1,r3⟩
theorem Ji0:CallR X (.builtin "abs") (fun xs H Q=>∃ i,xs=[.int i]/\Q (.int (if i<0 then -i else i)) H):=by
 intro a s σ H xs c Q I r h;obtain ⟨i,rfl,q⟩:=h;obtain ⟨u,rfl,t,rfl⟩:=vals1 r;exact call_abs_int fun u b=>⟨.int (if i<0 then -i else i),H,I.tok _,⟨_,rfl⟩,q⟩
theorem JhJ (hc:X.calm=true):CallR X (.builtin "min") (fun xs H Q=>∃ i j,xs=[.int i, .int j]/\Q (.int (if j<i then j else i)) H):=by
 intro b s σ H xs d Q I r h;obtain ⟨i,j,rfl,q⟩:=h;obtain ⟨u,c,rfl,⟨t,rfl⟩,⟨e,rfl⟩⟩:=vals2 r;refine min_two_ints (I.ok.hd hc) fun g f k=>⟨_,H,I.kept k,?_,q⟩;by_cases a:j<i
 ·rw [if_pos a,if_pos a];exact ⟨_,rfl⟩
 ·rw [if_neg a,if_neg a];exact ⟨_,rfl⟩
theorem JfA:CallR X (.type "int") (fun xs H Q=>(∃ i,xs=[.int i]/\Q (.int i) H)\/∃ k,xs=[.bl k]/\Q (.int (if k then 1 else 0)) H):=by
 intro a s σ H xs c Q I r h;rcases h with ⟨i,rfl,q⟩ | ⟨k,rfl,q⟩
 ·obtain ⟨u,rfl,t,rfl⟩:=vals1 r;exact call_int_int ⟨.int i,H,I,⟨_,rfl⟩,q⟩
 ·obtain ⟨u,rfl,b⟩:=vals1 r;cases b;exact call_int_bool ⟨.int (if k then 1 else 0),H,I.tok _,⟨_,rfl⟩,q⟩
end
structure ObjM (h:Heap) (x dx C:Addr) (mA:Str->Option Value):Prop where
 obj:h.get? x=some (W.instObj C dx)
 ns:h.Ns1 dx mA
 ne:dx≠x
theorem JfJ {h:Heap} {dx:Addr} {mA:Str->Option Value} (n:h.Ns1 dx mA):∃ od,h.get? dx=some od/\∀ name,W.lookIn name od=some (mA name):=by
 obtain ⟨o,c,l,i,k,g,_,f⟩:=n;refine ⟨o,i,fun name=>?_⟩;have e:=f name;unfold nsFind findBy at e;rw [<- Array.find?_toList] at e;unfold W.lookIn;rw [k];dsimp only;split
 ·rename_i y q;rw [q] at e;exact congrArg some e
 ·rename_i q;rw [q] at e;have a:c.toList.any (·.refKey)=false:=by
   rw [List.any_eq_false];intro y d;obtain ⟨z,t,b⟩:=g y (Array.mem_toList_iff.mp d);simp [DictEntry.refKey,b]
  have j:¬ c.toList.any (·.refKey)=true:=by rw [a];exact Bool.false_ne_true
  rw [if_neg j];exact congrArg some e
theorem ObjM.look {h:Heap} {x dx C:Addr} {mA:Str->Option Value} (I:ObjM h x dx C mA):∃ od,W.InstAt h x (W.instObj C dx) C (some od)/\∀ name,W.lookIn name od=some (mA name) :=
 let ⟨od,ho,hl⟩:=JfJ I.ns
 ⟨od,⟨I.obj,rfl,rfl,ho⟩,hl⟩
section
variable {prog:Program} {w:World} {A:Around} {E:Value->Shared->Prop} {s:Shared} {K:W.Frag} {x dx C f:Addr} {mA:Str->Option Value} {name:Str} {v:Value}
theorem get_map {expr:Bool} {Q:Value->Shared->Prop} (X:K.In s.heap) (I:ObjM s.heap x dx C mA) (hg:W.plainGet K C name=true) (hh:W.hasDictIn K C=true)
  (ha:W.findIn K (.ref C) name=some none) (hv:mA name=some v) (hv':W.handedIn v=true) (h:Q v { s with toks:=s.toks+1 }) :
  wpAny (model prog w) A (getAttr (.ref x) name expr) Q E s:=by
 obtain ⟨b,J,a⟩:=I.look;exact W.get_value X J (W.plainGet_of hg).1 (W.findObj_own hh ha rfl (by rw [a,hv])) hv' h
theorem Ji4 {pl:Sem Bool} {Q:Value × List Value->Shared->Prop} (X:K.In s.heap) (I:ObjM s.heap x dx C mA) (hg:W.plainGet K C name=true)
  (hf:W.findIn K (.ref C) name=some (some (.ref f))) (ht:W.isFn K (.ref f)=true) (hv:mA name=none) (h:Q (.ref f,[.ref x]) s) :
  wpAny (model prog w) A (getMethod (.ref x) name pl) Q E s:=by
 obtain ⟨b,J,a⟩:=I.look;exact W.method_fn X J (W.plainGet_of hg).1 (W.plainGet_of hg).2 hf (beq_iff_eq.mp ht) (by show (W.lookIn name b).map (·.isSome)=some false;rw [a,hv];rfl) h
theorem JkQ {ns:List Str} {Q:Unit->Shared->Prop} (X:K.In s.heap) (I:ObjM s.heap x dx C mA)
  (hs:W.findIn K (.ref C) "__setattr__"=some (some (.builtin "object.__setattr__"))) (hp:W.plainOver K C=true) (ht:W.takerIn K C name=some none) (hh:W.hasDictIn K C=true)
  (hw:PySem.Within mA ns) (hsz:ns.length<=sizeLine)
  (h:∀ h',ObjM h' x dx C (fun y=>if y=name then some v else mA y)->Heap.SameBut dx s.heap h'->Q () { s with heap:=h',toks:=s.toks+2 }) :
  wpAny (model prog w) A (setAttr (.ref x) name v) Q E s:=by
 obtain ⟨p,J,n⟩:=I.look;refine W.set_plain X J hs (W.osa_open (s:={ s with toks:=s.toks+1 }) (r:=none) X J hp ht fun b=>?_);obtain ⟨o,j,i⟩:=W.any_some hh;have m:s.heap.get? x=some ⟨.ref C,some dx, .plain, #[]⟩:=I.obj;refine wpAny_bind (wpAny_pure (wpAny_bind (wpAny_bind (wpAny_loadPart m (wpAny_bind (W.Looks.here (s:={ s with toks:=s.toks+1 }) (W.looks_clsIn X j) ?_))))));rw [i];refine wpAny_pure (a:=some dx) (wpAny_bind (wpAny_pure (wpAny_bind ?_)));refine wpAny_nsSet1 (s:={ s with toks:=s.toks+1 }) I.ns fun h' d c=>?_;obtain ⟨q,l,k,f,e,g⟩:=d.count (PySem.Within.cons name v hw);refine wpAny_bind (wpAny_lookBehind f (by rw [e];exact pastItsLine_dict (Nat.le_trans g (by rw [length_cons];ac_nf))) ?_);exact wpAny_pure (h _ ⟨(c.2 _ (Ne.symm I.ne)).trans I.obj,d,I.ne⟩ c)
theorem Ji8 {R:Result->Shared->Prop} {vs:List Value} {kw:List (Str × Value)} (X:K.In s.heap) (hm:W.makesIn K C=true)
  (hi:W.findIn K (.ref C) "__init__"=some (some (.ref f))) (hf:W.typeIn K (.ref f)=some (.type "function"))
  (h:codeAny (model prog w) (A.under (.builtin "type.__call__" ⟨.ref C::vs,kw⟩)) (.call (.ref f) ⟨.ref (s.heap.objs.size+1)::vs,kw⟩) (W.InitBack (s.heap.objs.size+1) R)
   { s with heap:=(s.heap.push W.emptyDict).push (W.instObj C s.heap.objs.size) }) :
  codeAny (model prog w) A (.call (.ref C) ⟨vs,kw⟩) R s:=by
 obtain ⟨c,g,d,t,b⟩:=s;exact W.make_core (W.makes_of X hm) (W.looks_findIn X hi) (fun a=>W.bind_fn X a hf) (.inl rfl) h
end
def putF (f:Str) (v:V):List (Str × V)->List (Str × V)
 | []=>[(f,v)]
 | (g,x)::r=>if g=f then (g,v)::r else (g,x)::putF f v r
theorem Jd3 (f g:Str) (v:V):∀ fs:List (Str × V),(putF f v fs).lookup g=if g=f then some v else fs.lookup g
 | []=>by
  show List.lookup g [(f,v)]=_;by_cases h:g=f
  ·have hb:(g == f)=true:=beq_iff_eq.mpr h;simp only [List.lookup,hb,if_pos h]
  ·have hb:(g == f)=false:=beq_eq_false_iff_ne.mpr h;simp only [List.lookup,hb,if_neg h]
 | (k,x)::r=>by
  have ih:=Jd3 f g v r;rw [show putF f v ((k,x)::r)=(if k=f then (k,v)::r else (k,x)::putF f v r) from rfl];by_cases hk:k=f
  ·rw [if_pos hk];by_cases h:g=k
   ·have hb:(g == k)=true:=beq_iff_eq.mpr h;simp only [List.lookup,hb,if_pos (h.trans hk)]
   ·have hb:(g == k)=false:=beq_eq_false_iff_ne.mpr h;simp only [List.lookup,hb,if_neg (fun e:g=f=>h (e.trans hk.symm))]
  ·rw [if_neg hk];by_cases h:g=k
   ·have hb:(g == k)=true:=beq_iff_eq.mpr h;simp only [List.lookup,hb,if_neg (fun e:g=f=>hk (h.symm.trans e))]
   ·have hb:(g == k)=false:=beq_eq_false_iff_ne.mpr h;simp only [List.lookup,hb];exact ih
theorem JdZ (f:Str) (v:V):∀ fs:List (Str × V),f∈(putF f v fs).map (·.1)/\∀ g,g∈fs.map (·.1)->g∈(putF f v fs).map (·.1)
 | []=>⟨by simp [putF],fun g h=>by simp at h⟩
 | (k,x)::r=>by
  obtain ⟨i1,i2⟩:=JdZ f v r;rw [show putF f v ((k,x)::r)=(if k=f then (k,v)::r else (k,x)::putF f v r) from rfl];by_cases hk:k=f
  ·rw [if_pos hk];subst hk;exact ⟨by simp,fun g h=>by simpa using h⟩
  ·rw [if_neg hk];refine ⟨?_,fun g h=>?_⟩
   ·rw [map_cons];exact mem_cons_of_mem _ i1
   ·rw [map_cons] at h ⊢;rcases mem_cons.mp h with e | e
    ·exact mem_cons.mpr (.inl e)
    ·exact mem_cons_of_mem _ (i2 g e)
theorem Jd2 (f:Str) (v:V):∀ fs:List (Str × V),(putF f v fs).length<=fs.length+1
 | []=>by simp [putF]
 | (k,x)::r=>by
  have ih:=Jd2 f v r;rw [show putF f v ((k,x)::r)=(if k=f then (k,v)::r else (k,x)::putF f v r) from rfl];by_cases hk:k=f
  ·rw [if_pos hk,length_cons,length_cons];ac_nf
  ·rw [if_neg hk,length_cons,length_cons];ac_nf
theorem RelO.some_of {v:V} {o:Option Value} (r:RelO (some v) o):∃ u,o=some u/\RelV v u:=by
 cases o with
 | none=>exact (show False from r).elim
 | some u=>exact ⟨u,rfl,r⟩
theorem RelO.none_of {o:Option Value} (r:RelO none o):o=none:=by
 cases o with
 | none=>rfl
 | some u=>exact (show False from r).elim
theorem Jh0 {v:V} {u:Value} (r:RelV v u):W.handedIn u=true:=by
 cases v with
 | non=>cases (show u=Value.none from r);rfl
 | bl b=>cases (show u=Value.bool b from r);rfl
 | int i=>obtain ⟨t,e⟩:=(show ∃ t,u=Value.int i t from r);cases e;rfl
 | str x=>obtain ⟨t,e⟩:=(show ∃ t,u=Value.str x t from r);cases e;rfl
 | byt b=>obtain ⟨t,e⟩:=(show ∃ t,u=Value.bytes b t from r);cases e;rfl
 | flt b=>obtain ⟨t,e⟩:=(show ∃ t,u=Value.float b t from r);cases e;rfl
 | ref a=>cases (show u=Value.ref a from r);rfl
 | ty n=>cases (show u=Value.type n from r);rfl
section
variable {P:Program} {w:World} {H H':Hp} {h h':Heap} {a C dx:Addr} {fs fs':List (Str × V)}
theorem Jgi (hok:HOk P w H h) (e:H a=some (.ins C dx fs)):∃ mA,ObjM h a dx C mA/\(∀ f,RelO (fs.lookup f) (mA f))/\PySem.Within mA (fs.map (·.1))/\fs.length<=1000/\H dx=some (.own a):=by
 obtain ⟨d,z,b,c,mA,n,r,q⟩:=(show ObjOk P w H h a (.ins C dx fs) from hok a _ e);exact ⟨mA,⟨c,n,b⟩,r,q,z,d⟩
end
structure Cls (K:W.Frag) (C:Addr):Prop where
 pg:W.plainGet K C Str.empty=true
 hd:W.hasDictIn K C=true
 po:W.plainOver K C=true
 sa:W.findIn K (.ref C) "__setattr__"=some (some (.builtin "object.__setattr__"))
theorem Cls.get {K:W.Frag} {C:Addr} (c:Cls K C) (f:Str):W.plainGet K C f=true:=c.pg
def JaU (K:W.Frag) (C:Addr) (f:Str):Prop:=W.findIn K (.ref C) f=some none
theorem JaU.taker {K:W.Frag} {C:Addr} {f:Str} (n:JaU K C f):W.takerIn K C f=some none:=by
 unfold W.takerIn;rw [show W.findIn K (.ref C) f=some none from n];rfl
structure Meth (K:W.Frag) (C:Addr) (m:Str) (f:Addr):Prop where
 at_:W.findIn K (.ref C) m=some (some (.ref f))
 fn:W.isFn K (.ref f)=true
 kp:W.keepIn K (.ref f)=true
section
variable {X:Cx} {pins:List (Addr × Obj)} {σ : St} {H:Hp} {s:Shared} {a C dx:Addr} {fs:List (Str × V)} {f:Str} {v:V} {A:Around} {E:Value->Shared->Prop}
theorem Jhi {b:Bool} {Q:Value->Shared->Prop} (I:Inv X pins σ H s) (e:H a=some (.ins C dx fs)) (c:Cls X.K C) (n:JaU X.K C f) (l:fs.lookup f=some v)
  (h:∀ u s',Inv X pins σ H s'->RelV v u->Q u s'):wpAny (model X.prog X.w) A (getAttr (.ref a) f b) Q E s:=by
 obtain ⟨i,O,r,_,_,_⟩:=Jgi I.hok e;obtain ⟨u,g,d⟩:=RelO.some_of (v:=v) (o:=i f) (by rw [<- l];exact r f);exact get_map I.kIn O (c.get f) c.hd n g (Jh0 d) (h u _ (I.tok _) d)
theorem JeK {m:Str} {g:Addr} {pl:Sem Bool} {Q:Value × List Value->Shared->Prop} (I:Inv X pins σ H s) (e:H a=some (.ins C dx fs)) (c:Cls X.K C) (k:Meth X.K C m g) (l:fs.lookup m=none)
  (h:Q (.ref g,[.ref a]) s):wpAny (model X.prog X.w) A (getMethod (.ref a) m pl) Q E s:=by
 obtain ⟨d,O,r,_,_,_⟩:=Jgi I.hok e;have b:d m=none:=RelO.none_of (by rw [<- l];exact r m);exact Ji4 I.kIn O (c.get m) k.at_ k.fn b h
theorem Jhz {y:V} {u:Value} {Q:Unit->Shared->Prop} (I:Inv X pins σ H s) (e:H a=some (.ins C dx fs)) (c:Cls X.K C) (n:JaU X.K C f) (hl:fs.length<1000) (ry:RelV y u)
  (h:∀ s',Inv X pins σ (upd H a (.ins C dx (putF f y fs))) s'->Q () s'):wpAny (model X.prog X.w) A (setAttr (.ref a) f u) Q E s:=by
 obtain ⟨i,O,r,d,_,j⟩:=Jgi I.hok e;have l:(fs.map (·.1)).length<=sizeLine:=by rw [length_map,sizeLine_eq];ac_nf
 refine JkQ I.kIn O c.sa c.po n.taker c.hd d l fun p O' v=>h _ ?_;have t:∃ o,p.get? dx=some o:=let ⟨o,_,_,e',_⟩:=O'.ns;⟨o,e'⟩;refine I.write (x:=a) (e:=dx) (by rw [e];exact True.intro) (.inr j) (fun b q k z=>(v.2 b k).trans z) t ?_;refine ⟨by rw [Jag O.ne];exact j,?_,O.ne,O'.obj,_,O'.ns,fun g=>?_,fun g m=>?_⟩
 ·have:=Jd2 f y fs;ac_nf
 ·show RelO ((putF f y fs).lookup g) (if g=f then some u else i g);rw [Jd3];by_cases q:g=f
  ·rw [if_pos q,if_pos q];exact ry
  ·rw [if_neg q,if_neg q];exact r g
 ·by_cases q:g=f
  ·rw [q];exact (JdZ f y fs).1
  ·refine (JdZ f y fs).2 g (d g fun z=>m ?_);show (if g=f then some u else i g)=none;rw [if_neg q];exact z
theorem Inv.made (I:Inv X pins σ H s):Inv X pins σ (upd (upd H s.heap.objs.size (.own (s.heap.objs.size+1))) (s.heap.objs.size+1) (.ins C s.heap.objs.size []))
  { s with heap:=(s.heap.push W.emptyDict).push (W.instObj C s.heap.objs.size) }:=by
 have d:(s.heap.push W.emptyDict).get? s.heap.objs.size=some W.emptyDict:=Heap.get?_push_size s.heap rfl;have i:((s.heap.push W.emptyDict).push (W.instObj C s.heap.objs.size)).get? (s.heap.objs.size+1)=some (W.instObj C s.heap.objs.size):=by
  have:=Heap.get?_push_size (s.heap.push W.emptyDict) (o:=W.instObj C s.heap.objs.size) rfl
  rwa [Heap.size_push] at this
 have h:(s.heap.push W.emptyDict).Ns s.heap.objs.size (fun _=>none):=⟨W.emptyDict, #[],_,d,rfl,(fun e g=>absurd g (by simp)),fun _=>rfl⟩;have I1:=I.laid (a:=s.heap.objs.size) (o:=.own (s.heap.objs.size+1)) (h':=s.heap.push W.emptyDict) (t':=s.toks) (fun b u q=>Heap.get?_push_of_some _ q) (Nat.le_refl _) ⟨_,d⟩;refine I1.laid (a:=s.heap.objs.size+1) (o:=.ins C s.heap.objs.size []) (t':=s.toks) (fun b u q=>Heap.get?_push_of_some _ q) (Nat.le_of_eq (Heap.size_push _ _)) ?_;have c:s.heap.objs.size≠s.heap.objs.size+1:=Nat.ne_of_lt (Nat.lt_succ_self _);refine ⟨by rw [Jag c,Jak],Nat.zero_le _,c,i,fun _=>none,(Heap.Ns1.of_empty h).at fun o q=>Heap.get?_push_of_some _ q,fun _=>True.intro,fun y f=>absurd rfl f⟩
theorem Jj2 {prog:Program} {w:World} {env:Env} {e:Expr} {f:Str} {pos:Pos} {s:Shared} {Q:Value->Shared->Prop} (hb:attributeBase e f env (eval e env)=eval e env)
  (h:wpAny (model prog w) A (eval e env) (fun o s₁=>wpAny (model prog w) A (getAttr o f true) Q E s₁) E s):wpAny (model prog w) A (eval (.Attribute e f pos) env) Q E s :=
 Attribute_any_ h (by rw [arm_eval_Attribute,hb])
end
def tFld (K:W.Frag) (ta:TE) (f:Str):TE:=fun σ H Q=>ta σ H fun x H1=>∃ a C dx fs v,x=.ref a/\H1 a=some (.ins C dx fs)/\Cls K C/\JaU K C f/\fs.lookup f=some v/\Q v H1
def sFld (K:W.Frag) (ta tv:TE) (f:Str):TS:=fun D σ H=>tv σ H fun y H1=>ta σ H1 fun x H2=>∃ a C dx fs,x=.ref a/\H2 a=some (.ins C dx fs)/\Cls K C/\JaU K C f/\fs.length<1000 /\
 D.nx σ (upd H2 a (.ins C dx (putF f y fs)))
section
variable {X:Cx} {o e value:Expr} {f:Str} {pos pos' tpos:Pos} {ta tv:TE}
theorem Jar (he:PE X e ta) (hb:attributeBase e f X.env (eval e X.env)=eval e X.env):PE X (.Attribute e f pos) (tFld X.K ta f):=by
 intro b s σ H Q I h;refine Jj2 hb (thn (he b s σ H _ I h) fun u m ζ=>?_);obtain ⟨x,d,I1,k,a,C,p,o,v,j,i,c,n,l,q⟩:=ζ;subst j;obtain rfl:u=Value.ref a:=k;exact Jhi I1 i c n l fun t r I2 g=>⟨v,d,I2,g,q⟩
theorem Ja5 (ha:PE X o ta) (hv:PE X value tv) (hs:swapsWith value (some (.Attribute o f pos')) pos.line X.env=pure false):PS X (.Assign [.Attribute o f pos'] value pos) (sFld X.K ta tv f):=by
 intro b s σ H D I h;refine plainObj_wpAny_Assign_Attribute (thn (hv b s σ H _ I h) fun u d ⟨y,e,I1,p,q⟩=>thn (ha b d σ e _ I1 q) fun k w ζ=>?_) hs;obtain ⟨x,v,I2,m,a,C,t,r,j,g,c,n,l,i⟩:=ζ;subst j;obtain rfl:k=Value.ref a:=m;exact Jhz I2 g c n l p fun z I3=>⟨σ,_,I3,i⟩
end
section
variable {X:Cx} {pins:List (Addr × Obj)} {σ : St} {H:Hp} {s:Shared} {A:Around} {E:Value->Shared->Prop} {Q:Value->Shared->Prop} {c:Value} {b:Bool}
end
structure Room (k:Nat) (A:Around):Prop where
 hd:A.handled=none
 dp:A.depth+3*k+5<recursionLimit
 un:A.units+16*k+200<cLine
theorem Room.mono {j k:Nat} {A:Around} (r:Room k A) (h:j<=k):Room j A:=⟨r.hd,by have:=r.dp;ac_nf,by have:=r.un;ac_nf⟩
theorem Room.deeper {k:Nat} {A:Around} (r:Room (k+1) A) (env:Env):Room k (A.deeper env) :=
 ⟨r.hd,by have:=r.dp;show A.depth+1+3*k+5<_;ac_nf,by have:=r.un;show A.units+3+16*k+200<_;ac_nf⟩
theorem Jhm {A:Around} {C:Addr} {us:List Value} {kw:List (Str × Value)}:(A.under (.builtin "type.__call__" ⟨.ref C::us,kw⟩)).depth=A.depth+1:=by
 first | rfl | simp [Around.under,Code.weight,Code.isCreation,Code.isGuard,Code.isCaller,Code.frames,Code.isFrame,guardIds]
theorem Jhn {A:Around} {C:Addr} {us:List Value} {kw:List (Str × Value)}:(A.under (.builtin "type.__call__" ⟨.ref C::us,kw⟩)).units=A.units+1:=by
 first | rfl | simp [Around.under,Code.cUnits,Code.frames,Code.isFrame]
theorem Room.make {k:Nat} {A:Around} (r:Room (k+1) A) (C:Addr) (us:List Value) (kw:List (Str × Value)):Room k (A.under (.builtin "type.__call__" ⟨.ref C::us,kw⟩)) :=
 ⟨r.hd,by have:=r.dp;rw [Jhm];ac_nf,by have:=r.un;rw [Jhn];ac_nf⟩
theorem Room.depth {k:Nat} {A:Around} (r:Room k A):A.depth<recursionLimit:=by have:=r.dp;ac_nf
theorem Room.units {k:Nat} {A:Around} (r:Room k A):A.units+64<cLine:=by have:=r.un;ac_nf
def tNil:TA:=fun _ H Q=>Q [] H
def tCons (ta:TE) (tr:TA):TA:=fun σ H Q=>ta σ H fun x H1=>tr σ H1 fun xs H2=>Q (x::xs) H2
section
variable {X:Cx} {e:Expr} {es:List Expr} {te:TE} {t:TA} {pos:Pos}
theorem Jad:PA X [] tNil:=fun _ _ _ _ H Q I h=>Calls.spliced_nil ⟨[],H,I, .nil,h⟩
theorem Jim (ha:PE X e te) (hr:PA X es t) (hs:starEach (e::es) X.env=(false,eval e X.env)::starEach es X.env:=by rfl):PA X (e::es) (tCons te t):=by
 intro b a s σ H Q I h;rw [hs];show wpAny _ _ (spliced ((false,eval e X.env)::backTo b (starEach es X.env))) _ _ s;refine Calls.spliced_cons (thn (ha a s σ H _ I h) fun u c ζ=>?_);obtain ⟨x,d,I1,j,f⟩:=ζ;exact thn (hr b a c σ d _ I1 f) fun m n ⟨g,k,I2,l,i⟩=>⟨x::g,k,I2, .cons j l,i⟩
def tTup (t:TA):TE:=fun σ H Q=>t σ H fun xs H1=>xs.length<=sizeLine/\∀ p,H1 p=none->Q (.ref p) (upd H1 p (.tup xs))
def tLst (t:TA):TE:=fun σ H Q=>t σ H fun xs H1=>xs.length<=sizeLine/\∀ p,H1 p=none->Q (.ref p) (upd H1 p (.lst xs))
theorem JaG {x1} (h:PA X es t):PE X (.Tuple es x1 pos) (tTup t):=by
 intro a s σ H Q I i;refine wpAny_Tuple_spliced (thn (h pos a s σ H _ I i) fun j c ⟨g,d,I1,r,z,q⟩=>⟨by rw [<- r.length];exact z,?_⟩);have f:d c.heap.objs.size=none:=I1.hok.fresh (Nat.le_refl _);refine ⟨.ref c.heap.objs.size,upd d c.heap.objs.size (.tup g),I1.laid (t':=c.toks) (fun b u e=>Heap.get?_push_of_some _ e) (Nat.le_refl _) ?_,rfl,q _ f⟩;exact ⟨z,j,r,⟨_,Heap.get?_push_size _ rfl,rfl,_,rfl⟩⟩
theorem JaX (h:PA X es t):PE X (.List es pos) (tLst t):=by
 intro a s σ H Q I i;refine wpAny_List_spliced (thn (h pos a s σ H _ I i) fun j c ⟨g,d,I1,r,z,q⟩=>⟨by rw [<- r.length];exact z,?_⟩);have f:d c.heap.objs.size=none:=I1.hok.fresh (Nat.le_refl _);refine ⟨.ref c.heap.objs.size,upd d c.heap.objs.size (.lst g),I1.laid (t':=c.toks) (fun b u e=>Heap.get?_push_of_some _ e) (Nat.le_refl _) ?_,rfl,q _ f⟩;exact ⟨z,j,0,r,Heap.get?_push_size _ rfl⟩
end
abbrev Sp:=List V->Hp->VK->XK->Prop
abbrev CXT:=List Env->Hp->Shared->XK->Value->Shared->Prop
structure Env0 (P:Program) (w:World) (K:W.Frag) (mg:Str->Option Value) (base:Heap) (A:Around) (outer:List Env) (s:Shared) (H:Hp):Prop where
 frames:A.frames=some outer
 mod:Mod K mg base
 bs:∀ b o,base.get? b=some o->s.heap.get? b=some o/\H b=none
 bsz:base.objs.size<=s.heap.objs.size
 funs:s.heap.FunFrames base outer
 frf:∀ b∈frs outer,H b=none
 hok:HOk P w H s.heap
 bare:AllBare s.gens
def CE (outer:List Env) (P:Program) (w:World) (H:Hp) (s:Shared) (Q:VK) (u:Value) (s':Shared):Prop :=
 ∃ v H',s'.os=s.os/\AllBare s'.gens/\Un (frs outer) [] H H' s.heap s'.heap/\HOk P w H' s'.heap/\RelV v u/\Q v H'
def CR (CX:CXT) (outer:List Env) (P:Program) (w:World) (H:Hp) (s:Shared) (Q:VK) (E:XK) (r:Result) (s':Shared):Prop :=
 match r with
 | .ok (.ret u)=>CE outer P w H s Q u s'
 | .ok _=>False
 | .error e=>CX outer H s E e s'
structure FnOk (P:Program) (w:World) (K:W.Frag) (mg:Str->Option Value) (base:Heap) (CX:CXT) (k:Nat) (f:Addr) (fd:FuncData) (ps:List Str) (sp:Sp):Prop where
 len:∀ vs H Q E,sp vs H Q E->vs.length=ps.length
 run:∀ (A:Around) (outer:List Env) (s:Shared) (H:Hp) (args:Args) (us:List Value) (vs:List V) (Q:VK) (E:XK),Room k A->Env0 P w K mg base A outer s H->BindsTo s fd args (ps.zip us)->Vals vs us->sp vs H Q E ->
  codeAny (model P w) A (.call (.ref f) args) (CR CX outer P w H s Q E) s
theorem Env0.make {P:Program} {w:World} {K:W.Frag} {mg:Str->Option Value} {base:Heap} {A:Around} {outer:List Env} {s:Shared} {H:Hp} (e:Env0 P w K mg base A outer s H) (C:Addr) (us:List Value) (kw:List (Str × Value)) :
  Env0 P w K mg base (A.under (.builtin "type.__call__" ⟨.ref C::us,kw⟩)) outer s H:=⟨by first | exact e.frames | (simpa [Around.under,Code.envs,Code.isFrame,pushEnvs] using e.frames),e.mod,e.bs,e.bsz,e.funs,e.frf,e.hok,e.bare⟩
section
variable {X:Cx} {pins:List (Addr × Obj)} {σ : St} {H:Hp} {s s':Shared}
theorem Inv.env0 (I:Inv X pins σ H s):Env0 X.prog X.w X.K X.mg X.base X.A X.stack s H :=
 ⟨I.ok.frames,I.ok.mod,I.bs,Nat.le_trans I.ok.bsz I.sz,I.stack,I.stkFree,I.hok,I.bare⟩
theorem Inv.after {Q:VK} {u:Value} (I:Inv X pins σ H s) (h:CE X.stack X.prog X.w H s Q u s'):EP X pins σ Q u s':=by
 obtain ⟨v,f,j,a,i,c,r,q⟩:=h;obtain ⟨k,g,d,t,e⟩:=s';obtain rfl:e=s.os:=j;exact ⟨v,f,I.call (h':=k) (g':=g) (d':=d) (t':=t) (ch:=[]) i c a (fun b z=>absurd z (by simp)),r,q⟩
end
def tCall (sp:Sp) (dvs:List V) (E:XK) (t:TA):TE:=fun σ H Q=>t σ H fun vs H1=>sp (vs++dvs) H1 Q E
def tMake (C:Addr) (sp:Sp) (dvs:List V) (E:XK) (t:TA):TE:=fun σ H Q=>t σ H fun vs H1=>∀ x dx,H1 x=none->H1 dx=none->dx≠x ->
 sp (.ref x::(vs++dvs)) (upd (upd H1 dx (.own x)) x (.ins C dx [])) (fun v H2=>v=.non/\Q (.ref x) H2) E
def Binds (K:W.Frag) (fd:FuncData) (ps:List Str) (ds:List Value):Prop :=
 ∀ (s:Shared) (us:List Value),K.In s.heap->(us++ds).length=ps.length->BindsTo s fd ⟨us,[]⟩ (ps.zip (us++ds))
theorem Binds.all {K:W.Frag} {fd:FuncData} {ps:List Str} (h:∀ us:List Value,us.length=ps.length->bindArgs fd ⟨us,[]⟩=pure (ps.zip us)):Binds K fd ps []:=fun s us _ a=>by
 rw [append_nil] at a ⊢;exact .of_eq (h us a)
def JbX (CX:CXT) (X:Cx) (E:XK):Prop:=∀ (pins:List (Addr × Obj)) (σ : St) (H:Hp) (s:Shared) (e:Value) (s':Shared),Inv X pins σ H s->CX X.stack H s E e s'->X.xe e s'
section
variable {X:Cx} {CX:CXT} {k:Nat} {f C:Addr} {fd:FuncData} {ps:List Str} {sp:Sp} {dvs:List V} {ds:List Value} {E:XK} {x m:Str} {p pos apos:Pos} {e o:Expr} {es:List Expr} {ta:TE} {t:TA}
theorem Jg5 {pins:List (Addr × Obj)} {σ : St} {H:Hp} {s:Shared} {Q:VK} {us:List Value} {vs:List V} (F:FnOk X.prog X.w X.K X.mg X.base CX k f fd ps sp) (hr:Room k X.A) (hb:Binds X.K fd ps ds) (hd:Vals dvs ds) (hx:JbX CX X E)
  (I:Inv X pins σ H s) (r:Vals vs us) (h:sp (vs++dvs) H Q E):wpAny (model X.prog X.w) X.A (call (.ref f) us) (EP X pins σ Q) X.xe s:=by
 have b:Vals (vs++dvs) (us++ds):=r.append hd;have d:(us++ds).length=ps.length:=by rw [<- b.length];exact F.len _ _ _ _ h
 refine wpAny_call (codeAny_mono (F.run X.A X.stack s H ⟨us,[]⟩ (us++ds) (vs++dvs) Q E hr I.env0 (hb s us I.kIn d) b h) fun r c a=>?_);cases r with
 | error e=>exact hx pins σ H s e c I a
 | ok fl=>
  cases fl with
  | ret u=>exact I.after a
  | next=>exact False.elim a
  | brk=>exact False.elim a
  | cont=>exact False.elim a
theorem JkD (F:FnOk X.prog X.w X.K X.mg X.base CX k f fd ps sp) (hr:Room k X.A) (hg:Gl X x) (hm:X.mg x=some (.ref f)) (hk:W.keepIn X.K (.ref f)=true) (hb:Binds X.K fd ps ds) (hd:Vals dvs ds) (hx:JbX CX X E)
  (ha:PA X (e::es) t) (hdb:(x == ("__debug__" : Str))=false:=by decide) (he:starEach (e::es) X.env=(false,eval e X.env)::starEach es X.env:=by rfl) (hpl:(backTo pos (starEach es X.env)).any (·.1)=false:=by rfl) :
  PE X (.Call (.Name x p) (e::es) [] pos) (tCall sp dvs E t):=by
 intro a s σ H Q I h;refine wpAny_Call_Name_kw (Jdp I hg hm ?_ hdb);refine W.callWith_K (h₀:=X.base) I.ok.mod.kin hk (thn (ha pos a s σ H _ I h) fun g d ⟨b,c,I1,r,q⟩=>⟨I1.kIn,?_⟩) he hpl;exact Jg5 F hr hb hd hx I1 r q
theorem Jji (F:FnOk X.prog X.w X.K X.mg X.base CX k f fd ps sp) (hr:Room k X.A) (hg:Gl X x) (hm:X.mg x=some (.ref f)) (hk:W.keepIn X.K (.ref f)=true) (hb:Binds X.K fd ps ds) (hd:Vals dvs ds) (hx:JbX CX X E)
  (hdb:(x == ("__debug__" : Str))=false:=by decide):PE X (.Call (.Name x p) [] [] pos) (tCall sp dvs E tNil):=by
 intro a s σ H Q I h;refine wpAny_Call_Name_kw (Jdp I hg hm ?_ hdb);exact W.callWith_K0 I.kIn hk (Jg5 (us:=[]) F hr hb hd hx I .nil h)
structure Mk (K:W.Frag) (C f:Addr):Prop where
 makes:W.makesIn K C=true
 init:W.findIn K (.ref C) "__init__"=some (some (.ref f))
 fn:W.isFn K (.ref f)=true
 kp:W.keepIn K (.ref C)=true
theorem Jg6 {pins:List (Addr × Obj)} {σ : St} {H:Hp} {s:Shared} {Q:VK} {us:List Value} {vs:List V} (M:Mk X.K C f) (F:FnOk X.prog X.w X.K X.mg X.base CX k f fd ps sp) (hr:Room (k+1) X.A) (hb:Binds X.K fd ps ds) (hd:Vals dvs ds)
  (hx:JbX CX X E) (I:Inv X pins σ H s) (r:Vals vs us)
  (h:∀ x dx,H x=none->H dx=none->dx≠x->sp (.ref x::(vs++dvs)) (upd (upd H dx (.own x)) x (.ins C dx [])) (fun v H2=>v=.non/\Q (.ref x) H2) E) :
  wpAny (model X.prog X.w) X.A (call (.ref C) us) (EP X pins σ Q) X.xe s:=by
 have c:=h (s.heap.objs.size+1) s.heap.objs.size (I.hok.fresh (Nat.le_succ _)) (I.hok.fresh (Nat.le_refl _)) (Nat.ne_of_lt (Nat.lt_succ_self _));have I2:=Inv.made (C:=C) I;have b:Vals (V.ref (s.heap.objs.size+1)::(vs++dvs)) (Value.ref (s.heap.objs.size+1)::(us++ds)):=.cons rfl (r.append hd);have i:(Value.ref (s.heap.objs.size+1)::us++ds).length=ps.length:=by
  have e:=b.length;rw [F.len _ _ _ _ c] at e;exact e.symm
 refine wpAny_call (Ji8 (f:=f) I.kIn M.makes M.init (beq_iff_eq.mp M.fn) (codeAny_mono (F.run _ X.stack _ _ ⟨Value.ref (s.heap.objs.size+1)::us,[]⟩ (Value.ref (s.heap.objs.size+1)::(us++ds)) _ _ E (hr.make C us [])
  (I2.env0.make C us []) (hb _ (Value.ref (s.heap.objs.size+1)::us) I2.kIn i) b c) fun r g a=>?_))
 cases r with
 | error e=>exact hx pins σ _ _ e g I2 a
 | ok fl=>
  cases fl with
  | ret u=>
   obtain ⟨v,l,I3,d,m,j⟩:=I2.after a;subst m;exact ⟨d,⟨V.ref (s.heap.objs.size+1),l,I3,rfl,j⟩⟩
  | next=>exact False.elim a
  | brk=>exact False.elim a
  | cont=>exact False.elim a
theorem JkG (M:Mk X.K C f) (F:FnOk X.prog X.w X.K X.mg X.base CX k f fd ps sp) (hr:Room (k+1) X.A) (hg:Gl X x) (hm:X.mg x=some (.ref C)) (hb:Binds X.K fd ps ds) (hd:Vals dvs ds) (hx:JbX CX X E)
  (ha:PA X (e::es) t) (hdb:(x == ("__debug__" : Str))=false:=by decide) (he:starEach (e::es) X.env=(false,eval e X.env)::starEach es X.env:=by rfl) (hpl:(backTo pos (starEach es X.env)).any (·.1)=false:=by rfl) :
  PE X (.Call (.Name x p) (e::es) [] pos) (tMake C sp dvs E t):=by
 intro a s σ H Q I h;refine wpAny_Call_Name_kw (Jdp I hg hm ?_ hdb);refine W.callWith_K (h₀:=X.base) I.ok.mod.kin M.kp (thn (ha pos a s σ H _ I h) fun g d ⟨b,c,I1,r,q⟩=>⟨I1.kIn,?_⟩) he hpl;exact Jg6 M F hr hb hd hx I1 r q
theorem Jjm (M:Mk X.K C f) (F:FnOk X.prog X.w X.K X.mg X.base CX k f fd ps sp) (hr:Room (k+1) X.A) (hg:Gl X x) (hm:X.mg x=some (.ref C)) (hb:Binds X.K fd ps ds) (hd:Vals dvs ds) (hx:JbX CX X E)
  (hdb:(x == ("__debug__" : Str))=false:=by decide):PE X (.Call (.Name x p) [] [] pos) (tMake C sp dvs E tNil):=by
 intro a s σ H Q I h;refine wpAny_Call_Name_kw (Jdp I hg hm ?_ hdb);exact W.callWith_K0 I.kIn M.kp (Jg6 (us:=[]) M F hr hb hd hx I .nil h)
end
section
variable {X:Cx} {CX:CXT} {k:Nat} {f C:Addr} {fd:FuncData} {ps ks:List Str} {sp:Sp} {E:XK} {x m:Str} {p pos apos kpos:Pos} {e o:Expr} {es:List Expr} {kws:List Keyword} {te ta:TE} {t tk:TA} {nm:Option Str}
variable {g:List Value->List Value->List Value} {gV:List V->List V->List V}
end
structure Jan (N P:List Str) (sc:Scope):Prop where
 kind:sc.kind=.function
 co:sc.isCoroutine=false
 gen:sc.isGenerator=false
 nd:N.Nodup
 pre:N.take P.length=P
 par:∀ x∈P,sc.names.lookup x=some .local\/sc.names.lookup x=some .cell
 nofree:∀ y∈sc.names,y.2≠.free
theorem Jfy {kindOf:Str->Option NameKind} {x:Str}:∀ {binds:List (Str × Value)} {m:Str->Option Value},(∀ v,(x,v)∉binds)->bindL kindOf binds m x=m x
 | [],_,_=>rfl
 | (n,v)::r,m,h=>by
  unfold bindL;rw [Jfy fun w hw=>h w (mem_cons_of_mem _ hw)];split
  ·have : x≠n:=by rintro rfl;exact h v mem_cons_self
   simp [this]
  ·rfl
theorem Jfw {kindOf:Str->Option NameKind} {x:Str}:∀ {binds:List (Str × Value)} {m:Str->Option Value},(∀ v,(x,v)∉binds)->bindC kindOf binds m x=m x
 | [],_,_=>rfl
 | (n,v)::r,m,h=>by
  unfold bindC;rw [Jfw fun w hw=>h w (mem_cons_of_mem _ hw)];split
  ·rfl
  ·have : x≠n:=by rintro rfl;exact h v mem_cons_self
   simp [this]
theorem Jfx {kindOf:Str->Option NameKind} {x:Str} {v:Value}:∀ {P:List Str} {vs:List Value} {i:Nat} {m:Str->Option Value},P.Nodup->P[i]?=some x->vs[i]?=some v->kindOf x=some .local ->
  bindL kindOf (P.zip vs) m x=some v
 | [],_,_,_,_,h,_,_=>by simp at h
 | _::_,[],_,_,_,_,h,_=>by simp at h
 | p::P,w::vs,0,m,nd,h1,h2,hk=>by
  simp at h1 h2;subst h1;subst h2;show bindL kindOf ((p,w)::P.zip vs) m p=_;unfold bindL;rw [Jfy fun v hv=>(nodup_cons.mp nd).1 (List.of_mem_zip hv).1,if_pos hk];simp
 | p::P,w::vs,i+1,m,nd,h1,h2,hk=>by
  show bindL kindOf ((p,w)::P.zip vs) m x=_;unfold bindL;exact Jfx (i:=i) (nodup_cons.mp nd).2 (by simpa using h1) (by simpa using h2) hk
theorem Jfv {kindOf:Str->Option NameKind} {x:Str} {v:Value}:∀ {P:List Str} {vs:List Value} {i:Nat} {m:Str->Option Value},P.Nodup->P[i]?=some x->vs[i]?=some v->kindOf x≠some .local ->
  bindC kindOf (P.zip vs) m x=some v
 | [],_,_,_,_,h,_,_=>by simp at h
 | _::_,[],_,_,_,_,h,_=>by simp at h
 | p::P,w::vs,0,m,nd,h1,h2,hk=>by
  simp at h1 h2;subst h1;subst h2;show bindC kindOf ((p,w)::P.zip vs) m p=_;unfold bindC;rw [Jfw fun v hv=>(nodup_cons.mp nd).1 (List.of_mem_zip hv).1,if_neg hk];simp
 | p::P,w::vs,i+1,m,nd,h1,h2,hk=>by
  show bindC kindOf ((p,w)::P.zip vs) m x=_;unfold bindC;exact Jfv (i:=i) (nodup_cons.mp nd).2 (by simpa using h1) (by simpa using h2) hk
def start (N:List Str) (vs:List V):St:=vs.map some++List.replicate (N.length-vs.length) none
def cxOf (CX:CXT) (P:Program) (w:World) (K:W.Frag) (mg:Str->Option Value) (base:Heap) (N:List Str) (qual:Str) (scope:Scope) (f:Addr) (cd:Value) (A:Around) (outer:List Env) (s:Shared) (H:Hp) (E:XK):Cx where
 prog:=P
 w:=w
 K:=K
 mg:=mg
 base:=base
 A:=A.deeper (envOfC qual scope s.heap.objs.size f cd)
 N:=N
 s₀:=s
 H₀:=H
 env:=envOfC qual scope s.heap.objs.size f cd
 outer:=outer
 stack:=envOfC qual scope s.heap.objs.size f cd::outer
 ex:=[]
 calm:=true
 fn:=fun _=>true
 pn:=[]
 xe:=fun e s'=>wpAny (model P w) (A.deeper (envOfC qual scope s.heap.objs.size f cd)) (leaving (envOfC qual scope s.heap.objs.size f cd) e) (fun _ s''=>CX outer H s E e s'') (fun e' s''=>CX outer H s E e' s'') s'
theorem JgM {sc:Scope} {n:Nat} {x:Str} (h:sc.names.lookup x=some .cell):∃ c,(cellsFrom n sc.names []).lookup x=some c:=by
 have q:=W.cellsFrom_some sc.names n [] (.inl h);exact Option.isSome_iff_exists.mp q
theorem Jh2 {CX:CXT} {P:Program} {w:World} {K:W.Frag} {mg:Str->Option Value} {base:Heap} {N ps:List Str} {qual:Str} {scope:Scope} {f:Addr} {cd:Value} {A:Around} {outer:List Env} {s s1:Shared} {H:Hp} {E:XK} {us:List Value} {vs:List V}
  (S:Jan N ps scope) (hd:A.handled=none) (e0:Env0 P w K mg base A outer s H) (hl:vs.length=ps.length) (r:Vals vs us)
  (x:InCallC s s.heap.objs.size (bindL (envOfC qual scope s.heap.objs.size f cd).kindOf (ps.zip us) fun _=>none) (cellsFrom (s.heap.objs.size+1) scope.names []) (bindC (envOfC qual scope s.heap.objs.size f cd).kindOf (ps.zip us) fun _=>none) s1) :
  Inv (cxOf CX P w K mg base N qual scope f cd A outer s H E) [] (start N vs) H s1:=by
 have F:ps.length<=N.length:=by have:=congrArg List.length S.pre;rw [length_take] at this;ac_nf
 obtain ⟨t,J,rfl,C⟩:=x.done;have j:∀ b:Addr,b∉(cxOf CX P w K mg base N qual scope f cd A outer s H E).ex:=fun b z=>absurd (show b∈([]:List Addr) from z) (by simp);refine ⟨⟨e0.mod,S.kind,rfl,rfl,Nat.le_refl _,fun y z c t d=>?_,fun y g=>?_,fun y c _ h=>?_,fun _=>hd,Around.frames_deeper e0.frames, .inr ⟨rfl,rfl⟩,fun b z=>absurd z (j b),e0.bs,e0.bsz,fun b _ _=>j b,fun b z=>absurd z (j b),e0.funs,e0.frf⟩,
  rfl,e0.bare,Un.kept C,⟨_,x.toInCall.ns,fun i y v t d I=>?_⟩,fun y c h=>⟨_,x.cell y c h⟩,e0.hok.fresh (Nat.le_refl _),fun y c h=>?_,fun p l=>absurd (show p∈([]:List (Addr × Obj)) from l) (by simp),e0.hok.kept C,?_⟩
 ·exact name_of_addr x.apart (PySem.mem_of_lookup t) (PySem.mem_of_lookup d)
 ·have g:scope.names.lookup y=some .cell\/scope.names.lookup y=some .free:=g;rcases g with g | g
  ·exact JgM g
  ·exact absurd rfl (S.nofree _ (PySem.mem_of_lookup g))
 ·exact Nat.le_of_lt (x.above y c (PySem.mem_of_lookup h))
 ·have o:i<vs.length:=by
   unfold start at d;by_cases o:i<vs.length
   ·exact o
   ·rw [List.getElem?_append_right (by simpa using o)] at d;rw [List.getElem?_replicate] at d;split at d <;> cases d
  have G:vs[i]?=some v:=by
   unfold start at d;rw [List.getElem?_append_left (by simpa using o),List.getElem?_map] at d;cases e:vs[i]? with
   | none=>rw [e] at d;cases d
   | some a=>rw [e] at d;cases d;rfl
  obtain ⟨u,B,D⟩:=r.get G;have l:ps[i]?=some y:=by
   rw [<- S.pre,List.getElem?_take_of_lt ∅];exact t
  have m:ps.Nodup:=by rw [<- S.pre];exact S.nd.sublist (List.take_sublist _ _)
  refine ⟨u,D,?_⟩;rcases S.par y (List.mem_of_getElem? l) with k | k
  ·exact .inl ⟨k,Jfx m l B k⟩
  ·obtain ⟨c,e⟩:=JgM (n:=s.heap.objs.size+1) k;refine .inr ⟨.inl k,c,e,?_⟩;have q:=x.cell y c e;rw [Jfv m l B (by show scope.names.lookup y≠_;rw [k];decide)] at q;exact q
 ·exact e0.hok.fresh (Nat.le_of_lt (x.above y c (PySem.mem_of_lookup h)))
 ·unfold start;show _=N.length;rw [length_append,length_map,List.length_replicate];ac_nf
theorem fn_of {CX:CXT} {P:Program} {w:World} {K:W.Frag} {mg:Str->Option Value} {base:Heap} {k:Nat} {f:Addr} {name qual:Str} {params:Arguments} {body:List Stmt} {scope:Scope} {dV kV doc pm cdv ct oc:Value} {an od:Option Addr}
  {osl:Array (Option Value)} {N ps:List Str} {sp:Sp} (lk:K.lookup f=some ⟨oc,od, .func (W.fnOf name qual params body scope dV kV doc pm an cdv ct),osl⟩) (hcd:W.codeIn K cdv qual=true) (S:Jan N ps scope)
  (len:∀ vs H Q E,sp vs H Q E->vs.length=ps.length)
  (hbody:∀ (A:Around) (outer:List Env) (s:Shared) (H:Hp) (vs:List V) (Q:VK) (E:XK),Room k (A.deeper (envOfC qual scope s.heap.objs.size f cdv))->sp vs H Q E ->
   ∃ t,PSs (cxOf CX P w K mg base N qual scope f cdv A outer s H E) body t/\t { nx:=fun _ H'=>Q .non H',rt:=Q } (start N vs) H) :
  FnOk P w K mg base CX (k+1) f (W.fnOf name qual params body scope dV kV doc pm an cdv ct) ps sp:=by
 refine ⟨len,fun A outer s H p C vs Q E l d G r h=>?_⟩;have M:=len _ _ _ _ h;have KX:K.In s.heap:=d.mod.kin.keeps fun b o e=>(d.bs b o e).1;have m:s.heap.NoLimit:=d.mod.nolimit.keeps fun b o e=>(d.bs b o e).1;have a:∀ y∈ps.zip C,scope.names.lookup y.1=some .local\/(scope.names.lookup y.1=some .cell/\((cellsFrom (s.heap.objs.size+1) scope.names []).lookup y.1).isSome=true):=fun ⟨n,v⟩ B=>by
  rcases S.par n (List.of_mem_zip B).1 with q | q
  ·exact .inl q
  ·exact .inr ⟨q,W.cellsFrom_some _ _ _ (.inl q)⟩
 refine codeAny_call_function l.depth (KX _ _ lk) rfl S.co S.gen rfl (W.codeRec_of KX hcd) (G _ _ _ _ ?_);refine wpAny_newFunctionEnv_cells S.kind a fun F L z x=>?_;subst L;refine ⟨m.keeps x.toInCall.keep,codeAny_func ?_⟩;obtain ⟨t,O,R⟩:=hbody A outer s H vs Q E (l.deeper _) h;have I:Inv (cxOf CX P w K mg base N qual scope f cdv A outer s H E) [] (start N vs) H z:=Jh2 S l.hd d M r x;refine wpAny_mono (O [] z (start N vs) H _ I R) (fun D j c=>?_) fun e j c=>c;have g:∀ {σ':St} {H':Hp} {v:V} {u:Value},Inv (cxOf CX P w K mg base N qual scope f cdv A outer s H E) [] σ' H' j->RelV v u->Q v H'->CE outer P w H s Q u j :=
  fun {σ' H' v u} J i q=>⟨v,H',J.os,J.bare,J.base,J.hok,i,q⟩
 cases D with
 | ret u=>
  obtain ⟨v,σ',H',J,i,q⟩:=c;exact g J i q
 | next=>
  obtain ⟨σ',H',J,q⟩:=c;exact g (v:=V.non) (u:=Value.none) J rfl q
 | brk=>
  obtain ⟨_,_,_,q⟩:=c;exact False.elim q
 | cont=>
  obtain ⟨_,_,_,q⟩:=c;exact False.elim q
section
variable {X:Cx} {x:Str} {p pos:Pos} {e:Expr} {es:List Expr} {t:TA} {id T:String} {r:List V->Hp->VK->Prop}
def tCB (r:List V->Hp->VK->Prop) (t:TA):TE:=fun σ H Q=>t σ H fun vs H1=>r vs H1 Q
theorem Jat (hc:CallR X (.builtin id) r) (hg:Gl X x) (hm:X.mg x=none) (hv:bootBuiltins x=some (.builtin id)) (ha:PA X (e::es) t) (hn:x≠"__name__":=by decide) (hdb:(x == ("__debug__" : Str))=false:=by decide)
  (he:starEach (e::es) X.env=(false,eval e X.env)::starEach es X.env:=by rfl) (hpl:(backTo pos (starEach es X.env)).any (·.1)=false:=by rfl):PE X (.Call (.Name x p) (e::es) [] pos) (tCB r t):=by
 intro a s σ H Q I h;refine wpAny_Call_Name_kw (JeL I hg hm hv ?_ hn hdb);exact PyProof.Rows.callWith_builtin1 (thn (ha pos a s σ H _ I h) fun i d ⟨b,f,I1,c,g⟩=>hc a d σ f b i Q I1 c g) he hpl
theorem JcB (hc:CallR X (.type T) r) (hg:Gl X x) (hm:X.mg x=none) (hv:bootBuiltins x=some (.type T)) (ha:PA X (e::es) t) (hn:x≠"__name__":=by decide) (hdb:(x == ("__debug__" : Str))=false:=by decide)
  (he:starEach (e::es) X.env=(false,eval e X.env)::starEach es X.env:=by rfl) (hpl:(backTo pos (starEach es X.env)).any (·.1)=false:=by rfl):PE X (.Call (.Name x p) (e::es) [] pos) (tCB r t):=by
 intro a s σ H Q I h;refine wpAny_Call_Name_kw (JeL I hg hm hv ?_ hn hdb);exact PyProof.Rows.callWith_type1 (thn (ha pos a s σ H _ I h) fun i d ⟨b,f,I1,c,g⟩=>hc a d σ f b i Q I1 c g) he hpl
end
end L2
namespace HT
open PySem PyProof.Rows
section
open PySem.SeqAt
open PySem.AutoSeq1 (wpAny_loadPart')
open PySem.MeetsSeq PySem.MeetsSeq2 PySem.MeetsSeq3
end
section
variable {prog:Program} {w:World} {A:Around} {E:Value->Shared->Prop} {s:Shared}
theorem cat_tup {t b:Addr} {vs ws:List Value} {Q:Value->Shared->Prop} (ht:IsTup s.heap t vs.toArray) (hb:IsTup s.heap b ws.toArray) (hv:vs≠[])
  (h1:ws=[]->Q (.ref t) s) (h2:ws≠[]->Q (.ref s.heap.objs.size) { s with heap:=s.heap.push { cls:=.type "tuple",data:=.seq (vs++ws).toArray } })
  (hsz:vs.length+ws.length<=sizeLine):wpAny (model prog w) A (binaryOp .Add (.ref t) (.ref b)) Q E s:=by
 obtain ⟨⟨cls,o,data,l⟩,h,m,n,p⟩:=id ht;obtain ⟨⟨q,c,j,f⟩,a,d,k,g⟩:=id hb;simp only at m p d g;subst m p d g;have e:vs.toArray++ws.toArray=(vs++ws).toArray:=by simp
 by_cases i:ws=[]
 ·exact concat_meets ⟨_,h,rfl⟩ ⟨_,a,rfl⟩ noFill_tuple_add seq_tuple_add PySem.F.slot_tuple_add PySem.F.entry_tuple_add (PySem.F.args_tuple_add_2 _ _)
   (tuple_addW1 t b vs.toArray ws.toArray n k o c l f (by simpa using hv) (by simp [i])) ⟨h,a,h1 i⟩
 ·refine concat_meets ⟨_,h,rfl⟩ ⟨_,a,rfl⟩ noFill_tuple_add seq_tuple_add PySem.F.slot_tuple_add PySem.F.entry_tuple_add (PySem.F.args_tuple_add_2 _ _)
   (tuple_addW2 t b vs.toArray ws.toArray n k o c l f (by simpa using hv) (by simpa using i) (by rw [size_toArray,size_toArray];exact hsz)) ⟨h,a,?_⟩
  rw [e];exact h2 i
end
end HT
namespace L2
open PySem PySem.Spec PyProof.Rows
abbrev TO:=St->Hp->(Option Int->Hp->Prop)->Prop
def PO (X:Cx) (e:Option Expr) (t:TO):Prop :=
 ∀ (pins:List (Addr × Obj)) (s:Shared) (σ : St) (H:Hp) (Q:Option Int->Hp->Prop),Inv X pins σ H s->t σ H Q ->
  wpAny (model X.prog X.w) X.A (evalPart e X.env) (fun u s'=>∃ o H',Inv X pins σ H' s'/\IsPart u o/\Q o H') X.xe s
def JkZ:TO:=fun _ H Q=>Q none H
def tPart (t:TE):TO:=fun σ H Q=>t σ H fun x H1=>∃ i,x=.int i/\Q (some i) H1
section
variable {X:Cx} {e:Expr} {te:TE} {lo hi:Option Expr} {tl th:TO} {pos p2:Pos}
def tSl (r:V->Option Int->Option Int->Hp->VK->Prop) (te:TE) (tl th:TO):TE:=fun σ H Q=>te σ H fun x H1=>tl σ H1 fun l H2=>th σ H2 fun u H3=>r x l u H3 Q
def rCatT (K:W.Frag):R2:=fun x y H Q=>∃ a b xs ys,x=.ref a/\y=.ref b/\SqT K H a xs/\SqT K H b ys/\xs≠[]/\xs.length+ys.length<=sizeLine /\
 (ys=[]->Q (.ref a) H)/\(ys≠[]->∀ p,H p=none->Q (.ref p) (upd H p (.tup (xs++ys))))
theorem Vals.nil_iff {xs:List V} {us:List Value} (r:Vals xs us):us=[]↔xs=[]:=by
 cases r with
 | nil=>simp
 | cons _ _=>simp
theorem Jky:OpR X (binaryOp .Add) (rCatT X.K):=by
 intro f s σ H x y v u Q I p B h;obtain ⟨a,b,k,C,rfl,rfl,A,n,l,g,i,m⟩:=h;cases p;cases B;obtain ⟨r,d,t,_⟩:=I.tuple A;obtain ⟨e,c,j,_⟩:=I.tuple n;refine HT.cat_tup t j (fun z=>l (d.nil_iff.mp z)) (fun z=>⟨.ref a,H,I,rfl,i (c.nil_iff.mp z)⟩) (fun z=>?_) (by rw [<- d.length, <- c.length];exact g);refine ⟨.ref s.heap.objs.size,_,I.laid (t':=s.toks) (o:=.tup (k++C)) (fun b D q=>Heap.get?_push_of_some _ q) (Nat.le_refl _) ?_,rfl,m (fun w=>z (c.nil_iff.mpr w)) _ (I.hok.fresh (Nat.le_refl _))⟩;exact ⟨by rw [length_append];exact g,_,d.append c,IsTup.new _ _⟩
end
def ixN (n:Nat) (i:Int):Option Nat:=if 0<=i then (if i<n then some i.toNat else none) else if -(n:Int)<=i then some (i+n).toNat else none
def atI {α : Type} (xs:List α) (i:Int):Option α:=(ixN xs.length i).bind fun j=>xs[j]?
theorem Jkj {n:Nat} {i:Int} {j:Nat} (h:ixN n i=some j):seqIndex? i n=some j/\j<n/\-(n:Int)<=i/\i<n:=by
 unfold ixN at h;by_cases b:0<=i
 ·rw [if_pos b] at h;by_cases a:i<n
  ·rw [if_pos a] at h;have e:i.toNat=j:=Option.some.inj h;exact ⟨by rw [seqIndex_of b a,e],by ac_nf,by ac_nf,a⟩
  ·rw [if_neg a] at h;cases h
 ·rw [if_neg b] at h;by_cases a : -(n:Int)<=i
  ·rw [if_pos a] at h;have e:(i+n).toNat=j:=Option.some.inj h;exact ⟨by rw [seqIndex_neg ∅ a,e],by ac_nf,a,by ac_nf⟩
  ·rw [if_neg a] at h;cases h
theorem Jf7 {α : Type} {xs:List α} {i:Int} {v : α} (h:atI xs i=some v):∃ j,seqIndex? i xs.length=some j/\xs[j]?=some v/\j<xs.length/\-(xs.length:Int)<=i/\i<xs.length:=by
 unfold atI at h;cases e:ixN xs.length i with
 | none=>rw [e] at h;cases h
 | some j=>
  rw [e] at h;obtain ⟨b,c,d,a⟩:=Jkj e;exact ⟨j,b,h,c,d,a⟩
theorem JdR {α : Type} {xs:List α} {j:Nat} {v : α} (h:xs[j]?=some v):atI xs (j:Int)=some v:=by
 have a:j<xs.length:=(List.getElem?_eq_some_iff.mp h).1;have e:ixN xs.length (j:Int)=some j:=by
  unfold ixN;rw [if_pos ∅,if_pos ∅];simp
 unfold atI;rw [e];exact h
def Jj0 (b:Expr):Prop:=∀ o i,subscripted b false o i=operate [o,i] (getItem o i)
def IxR (X:Cx) (r:R2):Prop :=
 ∀ (value slice:Expr) (pins:List (Addr × Obj)) (s:Shared) (σ : St) (H:Hp) (x y:V) (v u:Value) (Q:VK),Inv X pins σ H s->RelV x v->RelV y u->r x y H Q ->
  subscripted slice false v u=operate [v,u] (getItem v u)->wpAny (model X.prog X.w) X.A (subscriptTail value slice v u) (EP X pins σ Q) X.xe s
def MtR (X:Cx) (id:String) (r:V->List V->Hp->VK->Prop):Prop :=
 ∀ (pins:List (Addr × Obj)) (s:Shared) (σ : St) (H:Hp) (x:V) (xs:List V) (v:Value) (us:List Value) (Q:VK),Inv X pins σ H s->RelV x v->Vals xs us->r x xs H Q ->
  wpAny (model X.prog X.w) X.A (call (.builtin id) (v::us)) (EP X pins σ Q) X.xe s
section
variable {X:Cx} {a b:Expr} {ta tb:TE} {pos:Pos}
theorem pe_ix {r:R2} (hr:IxR X r) (ha:PE X a ta) (hb:PE X b tb) (hs:Jj0 b):PE X (.Subscript a b pos) (tOp r ta tb):=by
 intro c s σ H Q I h;exact Subscript_ (binT ha hb I h fun v u f x y e I2 g d q=>hr a b c f σ e x y v u Q I2 g d q (hs _ _))
def rIxL (K:W.Frag):R2:=fun x y H Q=>∃ p xs i v,x=.ref p/\y=.int i/\SqL K H p xs/\atI xs i=some v/\Q v H
def rIxT (K:W.Frag):R2:=fun x y H Q=>∃ p xs i v,x=.ref p/\y=.int i/\SqT K H p xs/\atI xs i=some v/\Q v H
def rIxS:R2:=fun x y H Q=>∃ z i c,x=.str z/\y=.int i/\z.length<=sizeLine/\atI z.cps.toList i=some c/\Q (.str ⟨#[c]⟩) H
theorem Jkk:IxR X (rIxL X.K):=by
 intro l d a s σ H x y v u Q I E G h o;obtain ⟨p,N,i,z,rfl,rfl,L,D,q⟩:=h;cases E;obtain ⟨t,rfl⟩:=G;obtain ⟨f,r,g,P⟩:=I.list L;obtain ⟨j,c,J,M,B,C⟩:=Jf7 D;obtain ⟨w,n,e⟩:=r.get J;have F:=r.length;have O:=JeM;have b:EP X a σ Q w s:=⟨z,H,I,e,q⟩;by_cases m:0<=i
 ·have k:i.toNat=j:=by
   rw [seqIndex_of m C] at c;exact Option.some.inj c
  exact item_listR g.isList m ∅ (by rw [k];simpa using n) b o
 ·have k:(i+(f.toArray.size:Int)).toNat=j:=by
   rw [seqIndex_neg ∅ B] at c;rw [size_toArray, <- F];exact Option.some.inj c
  exact subscriptTail_builtinR (x:=w) g.isList.typeIs slot_list_getitem.lookup
   (wpAny_getItem_list_neg (Q:=fun r A=>r=w/\EP X a σ Q r A) g.isList ∅ (by rw [size_toArray] <;> ac_nf) ∅ (by rw [k];simpa using n) ⟨rfl,b⟩) o
theorem Jle:IxR X (rIxT X.K):=by
 intro e b a s σ H x y v u Q I m B h o;obtain ⟨p,J,i,z,rfl,rfl,E,k,q⟩:=h;cases m;obtain ⟨t,rfl⟩:=B;obtain ⟨n,r,f,N⟩:=I.tuple E;obtain ⟨j,C,D,F,G,L⟩:=Jf7 k;obtain ⟨w,l,c⟩:=r.get D;have A:=r.length;have M:=JeM;have d:EP X a σ Q w s:=⟨z,H,I,c,q⟩;exact subscriptTail_builtinR (x:=w) f.typeIs slot_tuple_getitem.lookup
  (getItem_tuple (j:=j) (Q:=fun r g=>r=w/\EP X a σ Q r g) f ∅ ∅ (by rw [size_toArray, <- A];exact C) (by simpa using l) ⟨rfl,d⟩) o
theorem Jld:IxR X rIxS:=by
 intro b a d s σ H x y v u Q I m r h o;obtain ⟨z,i,c,rfl,rfl,D,l,q⟩:=h;obtain ⟨t,rfl⟩:=m;obtain ⟨B,rfl⟩:=r;obtain ⟨j,e,w,A,f,k⟩:=Jf7 l;have p:z.cps.toList.length=z.length:=by simp [Str.length]
 rw [p] at e f k;have C:=JeM;exact tail_any (typeIs_str s z t) slot_str_getitem.lookup (getItem_str (c:=c) (by
  have n:decide (i < -(2 ^ 63:Int))=false:=decide_eq_false ∅;have g:decide (i ≥ 2 ^ 63)=false:=decide_eq_false ∅;rw [n,g,Bool.or_false]) (by rw [e];simpa using w) ⟨.str ⟨#[c]⟩,H,I.tok _,⟨_,rfl⟩,q⟩) o
theorem Inv.lst {pins:List (Addr × Obj)} {σ : St} {H:Hp} {s:Shared} {p:Addr} {xs:List V} (I:Inv X pins σ H s) (h:H p=some (.lst xs)) :
  ∃ (its:List Value) (n:Nat),Vals xs its/\s.heap.get? p=some { cls:=.type "list",data:=.seq its.toArray n }/\xs.length<=sizeLine:=by
 obtain ⟨z,its,n,r,e⟩:=I.hok p _ h;exact ⟨its,n,r,e,z⟩
def flatV:V->Bool
 | .non=>true
 | .bl _=>true
 | .int _=>true
 | .str _=>true
 | _=>false
def eqV:V->V->Bool
 | .non, .non=>true
 | .bl a, .bl b=>a == b
 | .bl a, .int b=>(if a then 1 else 0) == b
 | .int a, .bl b=>a == (if b then 1 else 0)
 | .int a, .int b=>a == b
 | .str a, .str b=>a == b
 | _,_=>false
theorem JjE {A:Around} {s:Shared} {y x:V} {u v:Value} (ry:RelV y u) (rx:RelV x v) (fy:flatV y=true) (fx:flatV x=true):SeqAt.EqAt A s u v (eqV y x):=by
 cases y with
 | non=>
  cases ry;cases x with
  | non=>cases rx;exact SeqAt.EqAt.same _
  | bl b=>cases rx;exact SeqAt.EqAt.none_bool b
  | int b=>obtain ⟨t,rfl⟩:=rx;exact SeqAt.EqAt.none_int b t
  | str b=>obtain ⟨t,rfl⟩:=rx;exact SeqAt.EqAt.none_str b t
  | _=>exact absurd (show false=true from fx) Bool.false_ne_true
 | bl a=>
  cases ry;cases x with
  | non=>cases rx;exact SeqAt.EqAt.bool_none a
  | bl b=>cases rx;exact SeqAt.EqAt.bool_bool a b
  | int b=>obtain ⟨t,rfl⟩:=rx;exact SeqAt.EqAt.bool_int a b t
  | str b=>obtain ⟨t,rfl⟩:=rx;exact SeqAt.EqAt.bool_str a b t
  | _=>exact absurd (show false=true from fx) Bool.false_ne_true
 | int a=>
  obtain ⟨c,rfl⟩:=ry;cases x with
  | non=>cases rx;exact SeqAt.EqAt.int_none a c
  | bl b=>cases rx;exact SeqAt.EqAt.int_bool a c b
  | int b=>obtain ⟨t,rfl⟩:=rx;exact SeqAt.EqAt.int_int a c b t
  | str b=>obtain ⟨t,rfl⟩:=rx;exact SeqAt.EqAt.int_str a c b t
  | _=>exact absurd (show false=true from fx) Bool.false_ne_true
 | str a=>
  obtain ⟨c,rfl⟩:=ry;cases x with
  | non=>cases rx;exact SeqAt.EqAt.str_none a c
  | bl b=>cases rx;exact SeqAt.EqAt.str_bool a c b
  | int b=>obtain ⟨t,rfl⟩:=rx;exact SeqAt.EqAt.str_int a c b t
  | str b=>obtain ⟨t,rfl⟩:=rx;exact SeqAt.EqAt.str_str a c b t
  | _=>exact absurd (show false=true from fx) Bool.false_ne_true
 | _=>exact absurd (show false=true from fy) Bool.false_ne_true
def eqU (x:V) (u:Value):Bool:=match u with
 | .none=>eqV .non x
 | .bool b=>eqV (.bl b) x
 | .int i _=>eqV (.int i) x
 | .str z _=>eqV (.str z) x
 | _=>false
theorem JjF {x y:V} {u:Value} (r:RelV y u) (f:flatV y=true):eqU x u=eqV y x:=by
 cases y with
 | non=>cases r;rfl
 | bl b=>cases r;rfl
 | int i=>obtain ⟨t,rfl⟩:=r;rfl
 | str z=>obtain ⟨t,rfl⟩:=r;rfl
 | _=>exact absurd (show false=true from f) Bool.false_ne_true
theorem JdQ {x:V}:∀ {xs:List V} {us:List Value},Vals xs us->xs.all flatV=true->us.any (eqU x)=xs.any fun y=>eqV y x
 | _,_, .nil,_=>rfl
 | y::xs,u::us, .cons r t,f=>by
  rw [List.all_cons,Bool.and_eq_true] at f;rw [any_cons,any_cons,JjF r f.1,JdQ t f.2]
theorem Jc9 {A:Around} {s:Shared} {x:V} {v:Value} (rx:RelV x v) (fx:flatV x=true):∀ {xs:List V} {us:List Value},Vals xs us->xs.all flatV=true->∀ u∈us,SeqAt.EqAt A s u v (eqU x u)
 | _,_, .nil,_=>fun u hu=>by cases hu
 | y::xs,u::us, .cons r t,f=>fun u' hu=>by
  rw [List.all_cons,Bool.and_eq_true] at f;rcases mem_cons.mp hu with rfl | hu
  ·rw [JjF r f.1];exact JjE r rx f.1 fx
  ·exact Jc9 rx fx t f.2 u' hu
def inV (x:V) (xs:List V):Bool:=xs.any fun y=>eqV y x
def rIn (K:W.Frag) (neg:Bool):R2:=fun x y H Q=>∃ p xs,y=.ref p/\(SqL K H p xs\/SqT K H p xs)/\flatV x=true/\xs.all flatV=true/\Q (.bl (if neg then !inV x xs else inV x xs)) H
theorem Jii:OpR X (compareOp .In) (rIn X.K false):=by
 intro i s σ H x y v u Q I g j h;obtain ⟨p,l,rfl,b,f,c,q⟩:=h;cases j;rcases b with b | b
 ·obtain ⟨a,r,d,k⟩:=I.list b;refine SeqAt.in_listAt (eqU x) d.isList (fun w e=>Jc9 g f r c w (by simpa using e)) ⟨.bl _,H,I,rfl,?_⟩;rw [show a.toArray.any (eqU x)=a.any (eqU x) by simp,JdQ r c];exact q
 ·obtain ⟨a,r,d,k⟩:=I.tuple b;refine SeqAt.in_tupleAt (eqU x) d (fun w e=>Jc9 g f r c w (by simpa using e)) ⟨.bl _,H,I,rfl,?_⟩;rw [show a.toArray.any (eqU x)=a.any (eqU x) by simp,JdQ r c];exact q
theorem JfR:OpR X (compareOp .NotIn) (rIn X.K true):=by
 intro i s σ H x y v u Q I g j h;obtain ⟨p,l,rfl,b,f,c,q⟩:=h;cases j;rcases b with b | b
 ·obtain ⟨a,r,d,k⟩:=I.list b;refine SeqAt.notIn_listAt (eqU x) d.isList (fun w e=>Jc9 g f r c w (by simpa using e)) ⟨.bl _,H,I,rfl,?_⟩;rw [show a.toArray.any (eqU x)=a.any (eqU x) by simp,JdQ r c];exact q
 ·obtain ⟨a,r,d,k⟩:=I.tuple b;refine SeqAt.notIn_tupleAt (eqU x) d (fun w e=>Jc9 g f r c w (by simpa using e)) ⟨.bl _,H,I,rfl,?_⟩;rw [show a.toArray.any (eqU x)=a.any (eqU x) by simp,JdQ r c];exact q
theorem JfB:CallR X (.builtin "len") (fun xs H Q=>∃ p ys,xs=[.ref p]/\(SqL X.K H p ys\/SqT X.K H p ys)/\Q (.int ys.length) H):=by
 intro f s σ H xs j Q I r h;obtain ⟨p,ys,rfl,b,q⟩:=h;obtain ⟨u,rfl,g⟩:=vals1 r;cases g;have k:=JeM;rcases b with b | b
 ·obtain ⟨d,c,e,i⟩:=I.list b;have a:=c.length;exact Calls.call_len_list e.isList (by simp only [size_toArray] <;> ac_nf) ⟨.int ys.length,H,I.tok _,⟨s.toks+1,by rw [size_toArray,a]⟩,q⟩
 ·obtain ⟨d,c,e,i⟩:=I.tuple b;have a:=c.length;exact len_tuple e (by simp only [size_toArray] <;> ac_nf) ⟨.int ys.length,H,I.tok _,⟨s.toks+1,by rw [size_toArray,a]⟩,q⟩
theorem JfC:CallR X (.builtin "len") (fun xs H Q=>∃ z,xs=[.str z]/\z.length<=sizeLine/\Q (.int z.length) H):=by
 intro a s σ H xs d Q I r h;obtain ⟨z,rfl,c,q⟩:=h;obtain ⟨u,rfl,t,rfl⟩:=vals1 r;have b:=JeM;exact len_str ∅ ⟨.int z.length,H,I.tok _,⟨_,rfl⟩,q⟩
theorem JfD:CallR X (.type "list") (fun xs H Q=>∃ p ys,xs=[.ref p]/\(SqL X.K H p ys\/SqT X.K H p ys)/\∀ l,H l=none->Q (.ref l) (upd H l (.lst ys))):=by
 intro k s σ H xs B Q I r h;obtain ⟨p,ys,rfl,t,q⟩:=h;obtain ⟨u,rfl,A⟩:=vals1 r;cases A;have j:∀ (a:List Value),Vals ys a->ys.length<=sizeLine->∀ (c:Heap) (d:Nat),(∀ b o',s.heap.get? b=some o'->c.get? b=some o') ->
   c.get? s.heap.objs.size=some { cls:=.type "list",dict:=none,data:=.seq a.toArray d,slots:=#[] }->EP X k σ Q (.ref s.heap.objs.size) { s with heap:=c }:=fun a f m c d g e=>
  ⟨.ref s.heap.objs.size,_,I.laid (t':=s.toks) g (Nat.le_refl _) (show ObjOk X.prog X.w _ c _ (.lst ys) from ⟨m,a,d,f,e⟩),rfl,q _ (I.hok.fresh (Nat.le_refl _))⟩
 rcases t with t | t
 ·obtain ⟨a,f,z,m⟩:=I.list t;have i:=f.length;obtain ⟨o,y,v,n,x⟩:=z.isList;exact call_list_seq p (.inl rfl) y v x (fun c d g e=>j a f m c d g e) (by simp only [size_toArray] <;> ac_nf)
 ·obtain ⟨a,f,z,m⟩:=I.tuple t;have i:=f.length;obtain ⟨o,y,v,n,x⟩:=z;exact call_list_seq p (.inr rfl) y v x (fun c d g e=>j a f m c d g e) (by simp only [size_toArray] <;> ac_nf)
def tyV (K:W.Frag) (T:String) (x:V) (H:Hp):Prop:=match x with
 | .str _=>T="str"
 | .int _=>T="int"
 | .ref p=>(T="list"/\∃ xs,SqL K H p xs)\/(T="tuple"/\∃ o,K.lookup p=some o/\o.cls=.type "tuple"/\o.dict=none) \/
   (T="dict"/\((∃ kvs,H p=some (.dK kvs))\/∃ kvs,H p=some (.dT kvs)))\/(T="set"/\∃ S n,H p=some (.set S n))
 | _=>False
theorem JjU {pins:List (Addr × Obj)} {σ : St} {H:Hp} {s:Shared} {T:String} {x:V} {v:Value} (I:Inv X pins σ H s) (r:RelV x v) (ty:tyV X.K T x H) :
  s.TypeIs v T/\∀ a,v=.ref a->∃ ob,s.heap.get? a=some ob/\ob.dict=none:=by
 cases x with
 | str z=>
  obtain ⟨t,rfl⟩:=r;cases (show T="str" from ty);exact ⟨typeIs_str s z t,fun _ e=>nomatch e⟩
 | int i=>
  obtain ⟨t,rfl⟩:=r;cases (show T="int" from ty);exact ⟨typeIs_int s i t,fun _ e=>nomatch e⟩
 | ref p=>
  cases r;rcases ty with ⟨rfl,xs,hq⟩ | ⟨rfl,o,hk,hc,f⟩ | ⟨rfl,hk⟩ | ⟨rfl,S,n,hk⟩
  ·obtain ⟨h,_,g,_⟩:=I.list hq;refine ⟨g.isList.typeIs,fun a e=>?_⟩;cases e;obtain ⟨o,n,e,c,f,_⟩:=g;exact ⟨o,e,f⟩
  ·refine ⟨⟨o,I.kIn p o hk,hc⟩,fun a e=>?_⟩;cases e;exact ⟨o,I.kIn _ o hk,f⟩
  ·have z:∃ o,s.heap.get? p=some o/\o.ExactDict:=by
    rcases hk with ⟨kvs,hk⟩ | ⟨kvs,hk⟩
    ·obtain ⟨_,_,_,_,o,_,_,e,b,_⟩:=I.hok p _ hk;exact ⟨o,e,b⟩
    ·obtain ⟨_,_,_,_,o,_,_,e,b,_⟩:=I.hok p _ hk;exact ⟨o,e,b⟩
   obtain ⟨o,e,b⟩:=z;refine ⟨⟨o,e,b.1⟩,fun a d=>?_⟩;cases d;exact ⟨o,e,b.2.1⟩
  ·obtain ⟨o,_,_,_,e,b,_⟩:=I.hok p _ hk;refine ⟨⟨o,e,b.1⟩,fun a d=>?_⟩;cases d;exact ⟨o,e,b.2.1⟩
 | _=>exact False.elim ty
def tBM0 (K:W.Frag) (T:String) (r:V->List V->Hp->VK->Prop) (to:TE):TE:=fun σ H Q=>to σ H fun x H1=>tyV K T x H1/\r x [] H1 Q
def tBM (K:W.Frag) (T:String) (r:V->List V->Hp->VK->Prop) (to:TE) (t:TA):TE:=fun σ H Q=>to σ H fun x H1=>tyV K T x H1/\t σ H1 fun xs H2=>r x xs H2 Q
variable {o e:Expr} {es:List Expr} {to:TE} {t:TA} {name:Str} {apos cpos:Pos} {T id:String} {r:V->List V->Hp->VK->Prop}
theorem Jlv (pa:PlainAttrs T) (slot:Slot T name id) (hty:typeOf (.builtin id)=pure (.type "method_descriptor")) (hm:MtR X id r) (ho:PE X o to)
  (hbase:attributeBase o name X.env (eval o X.env)=eval o X.env:=by rfl) (hline:(apos.endLine == cpos.line)=true:=by rfl):PE X (.Call (.Attribute o name apos) [] [] cpos) (tBM0 X.K T r to):=by
 intro a s σ H Q I h;refine wpAny_Call_method0_late hbase hline (thn (ho a s σ H _ I h) fun v d ζ=>?_);obtain ⟨x,e,I1,b,i,f⟩:=ζ;obtain ⟨c,g⟩:=JjU I1 b i;exact ⟨T,id,pa,slot,hty,c,g,Calls.callWith_builtin rfl (PySem.evalArgs_none (hm a d σ e x [] v [] Q I1 b .nil f))⟩
theorem pe_bm (pa:PlainAttrs T) (slot:Slot T name id) (hty:typeOf (.builtin id)=pure (.type "method_descriptor")) (hm:MtR X id r) (ho:PE X o to) (ha:PA X (e::es) t)
  (hbase:attributeBase o name X.env (eval o X.env)=eval o X.env:=by rfl)
  (hfew:((backTo cpos (starEach (e::es) X.env)).all (fun x=>!x.1)&&(backToKw cpos (keywordEach [] X.env)).all (fun x=>x.1.isSome)
   && decide ((e::es).length+([]:List Keyword).length+(if ([]:List Keyword).isEmpty then 0 else 1)<30))=true:=by rfl)
  (hline:(apos.endLine == cpos.line)=true:=by rfl) (hs:starEach (e::es) X.env=(false,eval e X.env)::starEach es X.env:=by rfl) (hplain:(backTo cpos (starEach es X.env)).any (·.1)=false:=by rfl) :
  PE X (.Call (.Attribute o name apos) (e::es) [] cpos) (tBM X.K T r to t):=by
 intro a s σ H Q I h;refine wpAny_Call_method_late hbase hfew hline rfl (thn (ho a s σ H _ I h) fun v d ζ=>?_);obtain ⟨x,f,I1,b,i,g⟩:=ζ;obtain ⟨p,u⟩:=JjU I1 b i;refine ⟨T,id,pa,slot,hty,p,u,?_⟩;have c:=ha cpos a d σ f _ I1 g;rw [hs] at c ⊢;refine Calls.callWith_builtin (by show (false||(backTo cpos (starEach es X.env)).any (·.1))=false;rw [hplain] <;> rfl) (Calls.evalArgs_plain ?_);exact thn c fun k m ⟨q,l,I2,n,j⟩=>hm a m σ l x q v k Q I2 b n j
end
def MtM (X:Cx) (id:String) (r:V->List V->Hp->VK->Prop):Prop :=
 ∀ (pins:List (Addr × Obj)) (s:Shared) (σ : St) (H:Hp) (x:V) (xs:List V) (v:Value) (us:List Value) (Q:VK),Inv X pins σ H s->RelV x v->Vals xs us->r x xs H Q ->
  wpAny (model X.prog X.w) X.A (call (.builtin id) (v::us)) (EP X pins σ Q) X.xe s
theorem Vals.one:∀ {x:V} {us:List Value},Vals [x] us->∃ u,us=[u]/\RelV x u
 | _,_, .cons r .nil=>⟨_,rfl,r⟩
theorem Vals.zero:∀ {us:List Value},Vals [] us->us=[]
 | _, .nil=>rfl
theorem Vals.dropLast {xs:List V} {us:List Value} (h:Vals xs us):Vals xs.dropLast us.dropLast:=by
 induction h with
 | nil=>exact .nil
 | cons r t ih=>
  cases t with
  | nil=>exact .nil
  | cons q t'=>exact .cons r ih
theorem Jhh {α : Type} (l:List α):l.eraseIdx (l.length-1)=l.dropLast:=by
 induction l with
 | nil=>rfl
 | cons a r ih=>
  cases r with
  | nil=>rfl
  | cons b r=>
   have e:(a::b::r).length-1=((b::r).length-1)+1:=by
    have c:(a::b::r).length=r.length+2:=rfl;have d:(b::r).length=r.length+1:=rfl;ac_nf
   rw [e,List.eraseIdx_cons_succ,ih];all_goals rfl
section
variable {X:Cx} {pins:List (Addr × Obj)} {σ : St} {H:Hp} {s:Shared} {l b:Addr} {xs ys zs:List V}
theorem Inv.lset {its its':List Value} {n:Nat} {f:Array Value->Array Value} {t':Nat} (I:Inv X pins σ H s) (hH:H l=some (.lst xs))
  (e:s.heap.get? l=some { cls:=.type "list",data:=.seq its.toArray n }) (hf:f its.toArray=its'.toArray) (hv:Vals ys its') (hz:ys.length<=sizeLine) :
  Inv X pins σ (upd H l (.lst ys)) { s with heap:=s.heap.update l (Obj.mapSeq f),toks:=t' }:=by
 have q:=PySem.IsL.update e f;rw [hf] at q;refine I.write (x:=l) (e:=l) (by rw [hH];exact trivial) (.inl rfl) (fun c u b a=>(Heap.get?_update_other s.heap (Obj.mapSeq f) (Ne.symm b)).trans a) ⟨_,q⟩ ?_;exact ⟨hz,its',_,hv,q⟩
theorem Inv.lnew {its:List Value} {t':Nat} (I:Inv X pins σ H s) (hv:Vals ys its) (hz:ys.length<=sizeLine) :
  Inv X pins σ (upd H s.heap.objs.size (.lst ys)) { s with heap:=s.heap.push { cls:=.type "list",data:=.seq its.toArray },toks:=t' } :=
 I.laid (fun _ _ q=>Heap.get?_push_of_some _ q) (Nat.le_refl _) ⟨hz,its,0,hv,Heap.get?_push_size _ rfl⟩
theorem Inv.fresh (I:Inv X pins σ H s):H s.heap.objs.size=none:=I.hok.fresh (Nat.le_refl _)
theorem Inv.lstM (I:Inv X pins σ H s) (hH:H l=some (.lst xs)):xs.length<=sizeLine/\∃ (its:List Value) (n:Nat),Vals xs its/\xs.length=its.length/\s.heap.get? l=some { cls:=.type "list",data:=.seq its.toArray n }:=by
 obtain ⟨z,its,n,r,e⟩:=I.hok l _ hH;exact ⟨z,its,n,r,r.length,e⟩
theorem Jjb {n:Nat} (h:n<=sizeLine):Builtin.List.listTooLong n=false:=by
 unfold Builtin.List.listTooLong;exact decide_eq_false ∅
end
section
variable {X:Cx}
def JkM:V->List V->Hp->VK->Prop:=fun x vs H Q=>∃ l xs y,x=.ref l/\vs=[y]/\H l=some (.lst xs)/\xs.length<sizeLine/\Q .non (upd H l (.lst (xs++[y])))
theorem JaZ:MtM X "list.append" JkM:=by
 intro b s σ H x m v j Q I g d h;obtain ⟨l,i,y,rfl,rfl,c,o,q⟩:=h;cases g;obtain ⟨u,rfl,f⟩:=d.one;obtain ⟨z,a,n,r,k,e⟩:=I.lstM c;refine call_meets F.slot_list_append ⟨_,e,rfl⟩ F.entry_list_append (F.args_list_append_2 _ _) (PySem.list_append l a.toArray n u (by rw [size_toArray];ac_nf)) ⟨e,?_⟩;refine ⟨.non,_,I.lset (its':=a++[u]) c e (by simp) (r.append (.cons f .nil)) ?_,rfl,q⟩;rw [length_append,length_singleton];ac_nf
def JkN:V->List V->Hp->VK->Prop:=fun x vs H Q=>∃ l b xs zs,x=.ref l/\vs=[.ref b]/\H l=some (.lst xs)/\H b=some (.lst zs)/\xs.length+zs.length<=sizeLine/\Q .non (upd H l (.lst (xs++zs)))
theorem JfL:MtM X "list.extend" JkN:=by
 intro g s σ H x G v D Q I y j h;obtain ⟨l,b,A,B,rfl,rfl,i,o,J,q⟩:=h;cases y;obtain ⟨u,rfl,k⟩:=j.one;cases k;obtain ⟨z,c,n,r,E,e⟩:=I.lstM i;obtain ⟨C,a,p,w,t,m⟩:=I.lstM o;have f:c.toArray.size+a.toArray.size<=sizeLine:=by rw [size_toArray,size_toArray];ac_nf
 have d:¬ (!c.toArray.isEmpty&&Builtin.List.listTooLong (c.toArray.size+a.toArray.size))=true:=by
  rw [Jjb f,Bool.and_false];exact Bool.false_ne_true
 refine call_meets F.slot_list_extend ⟨_,e,rfl⟩ F.entry_list_extend (F.args_list_extend_2 _ _)
  (AutoSeq1.list_extend_list_list_0 l c.toArray n b a.toArray p d (by rw [size_toArray];ac_nf) ∅) ⟨e,m,?_⟩
 refine ⟨.non,_,I.lset (its':=c++a) i e (by simp) (r.append w) ?_,rfl,q⟩;rw [length_append];ac_nf
def rPop:V->List V->Hp->VK->Prop:=fun x vs H Q=>∃ l xs y,x=.ref l/\vs=[]/\H l=some (.lst xs)/\xs[xs.length-1]?=some y/\Q y (upd H l (.lst xs.dropLast))
theorem Jlm:MtM X "list.pop" rPop:=by
 intro d s σ H x w v t Q I k g h;obtain ⟨l,p,y,rfl,rfl,f,i,q⟩:=h;cases k;have b:=g.zero;subst b;obtain ⟨z,a,n,r,o,e⟩:=I.lstM f;obtain ⟨u,m,j⟩:=r.get i;have c:a.toArray[a.toArray.size-1]?=some u:=by
  show a.toArray[a.length-1]?=some u;rw [<- Array.getElem?_toList, <- o];exact m
 refine call_meets F.slot_list_pop ⟨_,e,rfl⟩ F.entry_list_pop (F.args_list_pop_1 _) (MeetsSeq.list_pop_last l a.toArray n u c (by rw [size_toArray];ac_nf)) ⟨e,?_⟩;refine ⟨y,_,I.lset (its':=a.dropLast) f e ?_ r.dropLast ?_,j,q⟩
 ·show a.toArray.eraseIdxIfInBounds (a.toArray.size-1)=a.dropLast.toArray;rw [size_toArray,List.eraseIdxIfInBounds_toArray,Jhh]
 ·rw [List.length_dropLast];ac_nf
def rCat:R2:=fun x y H Q=>∃ l b xs zs,x=.ref l/\y=.ref b/\H l=some (.lst xs)/\H b=some (.lst zs)/\xs.length+zs.length<=sizeLine/\∀ p,H p=none->Q (.ref p) (upd H p (.lst (xs++zs)))
theorem Jlp:OpR X (binaryOp .Add) rCat:=by
 intro d s σ H x y v u Q I m o h;obtain ⟨l,b,t,w,rfl,rfl,p,i,D,q⟩:=h;cases m;cases o;obtain ⟨z,c,n,r,C,e⟩:=I.lstM p;obtain ⟨A,a,B,k,j,f⟩:=I.lstM i;refine PySem.P.add_list e f ?_ (by rw [size_toArray,size_toArray];ac_nf);have g:c.toArray++a.toArray=(c++a).toArray:=by simp
 rw [g];exact ⟨.ref _,_,I.lnew (t':=s.toks) (r.append k) (by rw [length_append];ac_nf),rfl,q _ I.fresh⟩
end
section
variable {prog:Program} {w:World} {A:Around} {E:Value->Shared->Prop} {s:Shared}
set_option maxRecDepth 100000 in
end
section
variable {X:Cx}
end
end L2
namespace Att
open PySem PySem.W PySem.Calls PyProof.Rows
theorem JdX {P:Params} {h:Heap}:∀ (ns:List Int) (vs:List Value),WellAll P h vs (ns.map WData.int)->IntsAre vs ns:=by
 intro ns;induction ns with
 | nil=>
  intro vs w;rw [map_nil] at w;cases w;exact .nil
 | cons n ns ih=>
  intro vs w;rw [map_cons] at w;cases w with
  | cons a b=>
   cases a;exact .cons _ _ (ih _ b)
theorem JiC {l:OpenLaw} {n:Nat} (hn:l.most=some n) {P:Params} {h:Heap} {args:List WData} {vals:List Value}
  (hpre:l.row.toRowW.claim.pre args=true) (hwl:WellAll P h vals args) :
  ∃ a vs ns,vals=[Value.ref a]/\args=[WData.list (ns.map WData.int)]/\h.get? a=some { cls:=.type "list",data:=.seq vs.toArray }/\IntsAre vs ns/\ns.length<=n:=by
 have f:WShape.hasAll [] args [.list .int]=true:=(pre_splitW hpre).1;have g:l.pre.holds [] { args:=args }=true:=(pre_splitW hpre).2;obtain ⟨d,r,rfl,i,m⟩:=hasAllW_cons f;obtain rfl:=hasAllW_nil m;obtain ⟨o,rfl,j⟩:=hasW_list i;obtain ⟨ns,rfl⟩:=items_int j;have b:ns.length<=n:=by
  unfold OpenLaw.pre at g;have e:(WTm.not (.lt (.lit (.int (n:Int))) (.len (.arg 0)))).holds [] { args:=[.list (ns.map .int)] }=true:=by
   have e:=(holds_andW g).1;rw [hn] at e;exact e
  have c:=condW_of e (w_not (w_lt w_lit (w_len_list (w_arg rfl))));rw [length_map] at c;refine Nat.le_of_not_lt fun q=>?_;have k:(n:Int)<((ns.length:Nat):Int):=by ac_nf
  first
   | (rw [decide_eq_true k] at c;exact absurd c ⋯)
   | (simp at c;ac_nf)
 cases hwl with
 | cons w1 w2=>
  cases w2;cases w1 with
  | list ho hall=>exact ⟨_,_,ns,rfl,rfl,ho,JdX ns _ hall,b⟩
theorem Jit (l:OpenLaw) (args:List WData):l.row.toRowW.claim.post args (.bool true) args=true :=
 postW_of (r:=l.row.toRowW) (X:=(true == true))
  (show WShape.has [] (.bool true) .bool=true by first | rfl | decide | simp [WShape.has,WShape.arms,WShape.armsAll])
  (show (WTm.eq .res (.lit (.bool true))).value [] { args:=args,res:=some (.bool true),after:=args }=some (.bool (true == true)) from w_eq_bool (w_res rfl) w_lit) rfl
theorem attach_call {l:OpenLaw} {n:Nat} {q:Program} {loose:List Str} {XP:(Str->Option Value)->Heap->Prop} {YP:World->Heap->Prop} {d:DefRec}
  (hn:l.most=some n) (hdf:d.params.defaults=[])
  (call:∀ (w:World) (s₀ s₁ : Shared) (mg mb:Str->Option Value) (fa:Addr) (o:Obj) (pm cd doc:Value) (a:Addr) (vs:List Value) (ns:List Int),
   Ground q loose [] XP w s₀ mg mb s₁.heap->YP w s₁.heap ->
   s₁.heap.get? fa=some o->o.data=.func (docDef d.name d.params d.body d.scope pm cd doc)->s₁.heap.CodeRec cd d.name->mg d.name=some (.ref fa) ->
   s₁.heap.get? a=some { cls:=.type "list",data:=.seq vs.toArray }->IntsAre vs ns->ns.length<=n->s₁.gens=#[] ->
   codeAny (model l.prog w) callerA (.call (.ref fa) ⟨[.ref a],[]⟩) (fun r s'=>r=.ok (.ret (.bool true))/\OldK s₁.heap s'.heap/\s'.os=s₁.os/\AllBare s'.gens) s₁) :
  WalkO q loose XP YP l.row.toRowW d [] (fun f vs=>PySem.call f vs):=by
 intro w s₀ s₁ mg mb G Y fa o pm cd doc A kV B y j t i C k m H e p x h z;obtain rfl:A=.none:=Dflts.none t hdf;obtain rfl:kV=.none:=Dflts.noKw t;obtain ⟨a,vs,ns,rfl,rfl,g,b,c⟩:=JiC hn e h;refine enter_call (codeAny_mono (call w s₀ s₁ mg mb fa o pm cd doc a vs ns G Y B (fd_plain y) j i g b c C) fun r s' F=>?_);obtain ⟨rfl,E,u,v⟩:=F;exact ⟨.inl ⟨.bool true, .bool true,[],rfl,fun _=>rfl, .bool true,Jit l _,fun _=>⟨List.Pairwise.nil,fun _ D=>(nomatch D)⟩⟩,E,u,v⟩
section
variable {prog:Program} {w:World} {A:Around} {E:Value->Shared->Prop} {s:Shared} {K:Frag}
end
end Att
namespace L2
open PySem PySem.Spec PyProof.Rows
theorem Jf4:∀ {vs:List Value} {ns:List Int},IntsAre vs ns->Vals (ns.map V.int) vs
 | _,_, .nil=>.nil
 | _,_, .cons n t h=>.cons ⟨t,rfl⟩ (Jf4 h)
def Only (H:Hp):Prop:=∀ b,H b=none\/∃ o xs,H b=some (.frz o (.lst xs))
theorem Ji6 {P:Program} {w:World} {K:W.Frag} {mg mb:Str->Option Value} {CX:CXT} {k:Nat} {fa a:Addr} {fd:FuncData} {x:Str} {sp:Sp} {s₁ : Shared} {vs:List Value} {ns:List Int}
  (KX:K.In s₁.heap) (hns:s₁.heap.Ns mainGlobals mg) (hb:s₁.heap.Ns builtinsNs mb) (hbb:∀ x:Str,x≠"__name__"->mb x=bootBuiltins x) (hlim:s₁.heap.NoLimit) (hg:s₁.gens=#[])
  (ha:s₁.heap.get? a=some { cls:=.type "list",data:=.seq vs.toArray }) (hi:IntsAre vs ns) (hl:ns.length<=sizeLine) (hr:Room k callerA)
  (F:∀ base:Heap,K.In base->base.Ns mainGlobals mg->FnOk P w K mg base CX k fa fd [x] sp) (hbind:∀ (s:Shared) (u:Value),BindsTo s fd ⟨[u],[]⟩ [(x,u)])
  (hsp:∀ H:Hp,Only H->SqL K H a (ns.map V.int)->sp [.ref a] H (fun v _=>v=.bl true) fun _ _ _=>False)
  (hCX:∀ H e s',CX [] H s₁ (fun _ _ _=>False) e s'->False) :
  codeAny (model P w) callerA (.call (.ref fa) ⟨[.ref a],[]⟩) (fun r s'=>r=.ok (.ret (.bool true))/\OldK s₁.heap s'.heap/\s'.os=s₁.os/\AllBare s'.gens) s₁:=by
 have C:=Jf4 hi;have j:=hi.length;have g:∀ H:Hp,Only H->SqL K H a (ns.map V.int)->HOk P w H s₁.heap->(∀ b,H b≠none->b=a)->(H a≠none->K.lookup a=none) ->
   codeAny (model P w) callerA (.call (.ref fa) ⟨[.ref a],[]⟩) (fun r s'=>r=.ok (.ret (.bool true))/\OldK s₁.heap s'.heap/\s'.os=s₁.os/\AllBare s'.gens) s₁:=by
  intro H E T p I J;have c:∀ {b:Addr} {o:Obj},s₁.heap.get? b=some o->H b=none->(hidT s₁.heap H).get? b=some o:=fun e n=>Ji5 e n;have A:∀ {b:Addr} {o:Obj} {es:Array DictEntry} {ep:Nat},s₁.heap.get? b=some o->o.data=.dict es ep->H b=none:=fun {b o es ep} e d=>by
   cases q:H b with
   | none=>rfl
   | some u=>
    have B:b=a:=I b (by rw [q];simp);subst B;rw [ha] at e;cases e;have L:Data.seq vs.toArray _=Data.dict es ep:=d;cases L
  have f:∀ {b:Addr} {m:Str->Option Value},s₁.heap.Ns b m->(hidT s₁.heap H).Ns b m:=fun {b m} ⟨o,es,ep,e,d,r⟩=>⟨o,es,ep,c e (A e d),d,r⟩;have l:K.In (hidT s₁.heap H):=fun b o e=>c (KX b o e) (by
   cases q:H b with
   | none=>rfl
   | some u=>
    have B:b=a:=I b (by rw [q];simp);subst B;rw [J (by rw [q];simp)] at e;cases e)
  have S:Mod K mg (hidT s₁.heap H):=⟨l,f hns,⟨mb,f hb,hbb⟩,let ⟨mc,h1,h2⟩:=hlim;⟨mc,f h1,h2⟩⟩;have M:Env0 P w K mg (hidT s₁.heap H) callerA [] s₁ H:=⟨rfl,S,fun b o e=>Jkv e,Nat.le_of_eq (Jh1 _ _),trivial,fun b hb=>absurd (show b∈([]:List Addr) from hb) (by simp),p, .of_eq hg⟩;refine codeAny_mono ((F _ l (f hns)).run callerA [] s₁ H ⟨[.ref a],[]⟩ [.ref a] [.ref a] _ _ hr M (hbind s₁ (.ref a)) (.cons rfl .nil) (hsp H E T)) fun r s' h=>?_;cases r with
  | error e=>exact (hCX H e s' h).elim
  | ok fl=>
   cases fl with
   | next=>exact False.elim h
   | brk=>exact False.elim h
   | cont=>exact False.elim h
   | ret u=>
    obtain ⟨v,U,os,t,D,y,O,q⟩:=h;have R:v=.bl true:=q;subst R;obtain rfl:u=Value.bool true:=O;refine ⟨rfl,OldK.of_keep fun b o e=>?_,os,t⟩;cases q:H b with
    | none=>exact D.keep b o e q (by intro z;exact absurd (show b∈([]:List Addr) from z) (by simp)) (by simp)
    | some u=>
     rcases E b with z | ⟨ob,xs,z⟩
     ·rw [q] at z;cases z
     ·have Q:=D.frzs b ob _ z;obtain ⟨G,_⟩:=p b _ z;obtain ⟨N,_⟩:=y b _ Q;rw [e] at G;cases G;exact N
 cases hk:K.lookup a with
 | some o=>
  have e:=KX a o hk;rw [ha] at e;cases e;refine g (fun _=>none) (fun _=>.inl rfl) (.inr ⟨_,vs.toArray,_,hk,rfl,rfl,rfl,by rw [size_toArray,j];exact hl,by simpa using C⟩) (fun b u z=>by have i:(none:Option HO)=some u:=z;cases i) (fun b z=>absurd rfl z) fun z=>absurd rfl z
 | none=>
  refine g (fun b=>if b=a then some (.frz { cls:=.type "list",data:=.seq vs.toArray } (.lst (ns.map V.int))) else none) (fun b=>?_) (.inl (.inr ⟨{ cls:=.type "list",data:=.seq vs.toArray },if_pos rfl⟩)) (fun b u z=>?_) (fun b z=>?_) fun _=>hk
  ·by_cases hb:b=a
   ·exact .inr ⟨_,_,if_pos hb⟩
   ·exact .inl (if_neg hb)
  ·by_cases hb:b=a
   ·have i:=(if_pos hb).symm.trans z;cases i;subst hb;exact ⟨ha,by rw [length_map];exact hl,vs,_,C,ha⟩
   ·have i:=(if_neg hb).symm.trans z;cases i
  ·by_cases hb:b=a
   ·exact hb
   ·exact absurd (if_neg hb) z
abbrev KOf {K:W.Frag} {h:Heap} (_:K.In h):W.Frag:=K
theorem JiW {l:W.OpenLaw} {n k:Nat} {q:Program} {loose:List Str} {XP:(Str->Option Value)->Heap->Prop} {YP:World->Heap->Prop} {d:DefRec} {K:Params->W.Frag} {CX:World->CXT} {sp:World->Sp} {x:Str}
  (hn:l.most=some n) (hn2:n<=sizeLine) (hdf:d.params.defaults=[]) (hr:Room k callerA)
  (hY:∀ (w:World) (h:Heap),YP w h->(K w.params).In h)
  (F:∀ (w:World) (mg:Str->Option Value) (fa:Addr) (h:Heap),(K w.params).In h->h.Ns mainGlobals mg->mg d.name=some (.ref fa) ->
   ∃ fd:FuncData,(∀ (s:Shared) (u:Value),BindsTo s fd ⟨[u],[]⟩ [(x,u)]) /\
    ∀ base:Heap,(K w.params).In base->base.Ns mainGlobals mg->FnOk l.prog w (K w.params) mg base (CX w) k fa fd [x] (sp w))
  (hsp:∀ (w:World) (H:Hp) (a:Addr) (ns:List Int),ns.length<=n->Only H->SqL (K w.params) H a (ns.map V.int)->sp w [.ref a] H (fun v _=>v=.bl true) fun _ _ _=>False)
  (hCX:∀ (w:World) (H:Hp) (s:Shared) (e:Value) (s':Shared),CX w [] H s (fun _ _ _=>False) e s'->False) :
  W.WalkO q loose XP YP l.row.toRowW d [] (fun f vs=>PySem.call f vs):=by
 refine Att.attach_call hn hdf fun w s₀ s₁ mg D fa o C J A a vs ns G Y I E y m j i c z=>?_;have KX:=hY w _ Y;obtain ⟨fd,r,p⟩:=F w mg fa _ KX G.T.g m;exact Ji6 KX G.T.g G.T.b G.T.builtins G.T.nolimit z j i (Nat.le_trans c hn2) hr p r (fun H t B=>hsp w H a ns c t B) fun H e s'=>hCX w H s₁ e s'
def inClass (s:Stmt) (j:Nat):Stmt:=match s with
 | .ClassDef _ _ _ body _ _ _ _ _ _ _=>body.getD j (.Pass ⟨0,0,0,0⟩)
 | _=>.Pass ⟨0,0,0,0⟩
def Jam (s:Stmt):Arguments:=match s with
 | .FunctionDef _ a _ _ _ _ _ _ _ _=>a
 | _=>{ posonlyargs:=[],args:=[],vararg:=none,kwonlyargs:=[],kw_defaults:=[],kwarg:=none,defaults:=[] }
def Jal (s:Stmt):List Stmt:=match s with
 | .FunctionDef _ _ b _ _ _ _ _ _ _=>b
 | _=>[]
def Jae (s:Stmt):Scope:=match s with
 | .FunctionDef _ _ _ _ _ _ sc _ _ _=>sc
 | _=>{ kind:=.function,names:=[],isGenerator:=false,isCoroutine:=false }
abbrev E0:XK:=fun _ _ _=>False
structure Fun (K:W.Frag) (x qual:Str) (st:Stmt) (f:Addr) (fd:FuncData):Prop where
 ex:∃ (oc:Value) (od:Option Addr) (kV doc pm:Value) (an:Option Addr) (cdv ct:Value) (osl:Array (Option Value)),
  fd=W.fnOf x qual (Jam st) (Jal st) (Jae st) .none kV doc pm an cdv ct/\K.lookup f=some ⟨oc,od, .func fd,osl⟩/\W.codeIn K cdv qual=true
 kp:W.keepIn K (.ref f)=true
section
variable {P:Program} {w:World} {K:W.Frag} {mg:Str->Option Value} {base:Heap}
theorem Fun.binds {x qual:Str} {st:Stmt} {f:Addr} {fd:FuncData} {ps:List Str} (F:Fun K x qual st f fd)
  (h:∀ (kV doc pm:Value) (an:Option Addr) (cdv ct:Value) (us:List Value),us.length=ps.length->bindArgs (W.fnOf x qual (Jam st) (Jal st) (Jae st) .none kV doc pm an cdv ct) ⟨us,[]⟩=pure (ps.zip us)):Binds K fd ps []:=by
 obtain ⟨e,c,kV,doc,pm,an,cdv,ct,a,rfl,d,b⟩:=F.ex;exact .all (h kV doc pm an cdv ct)
end
section
variable {X:Cx}
theorem pv (i:Nat) {x:Str} {pos:Pos} (hN:X.N[i]?=some x:=by rfl) (hv:Vis X.env.scope x:=by first | exact Or.inl rfl | exact Or.inr (Or.inl rfl) | exact Or.inr (Or.inr rfl)) (hd:(x == ("__debug__" : Str))=false:=by decide)
  (hcd:(x == ("__classdict__" : Str))=false:=by decide):PE X (.Name x pos) (tVar i):=Jlx hN hv hd hcd
end
def Same (H H':Hp):Prop:=∀ b o,H b=some o->H' b=some o
theorem Same.refl (H:Hp):Same H H:=fun _ _ h=>h
theorem Same.trans {H H1 H2:Hp} (a:Same H H1) (b:Same H1 H2):Same H H2:=fun c o h=>b c o (a c o h)
theorem Same.seq {K:W.Frag} {H H':Hp} {a:Addr} {xs:List V} (e:Same H H') (h:SqL K H a xs):SqL K H' a xs:=by
 rcases h with (h | ⟨o,h⟩) | h
 ·exact .inl (.inl (e _ _ h))
 ·exact .inl (.inr ⟨o,e _ _ h⟩)
 ·exact .inr h
end L2
set_option maxHeartbeats 4000000
namespace L2
open PySem PySem.Spec PyProof.Rows
section
variable {κ : Type} [DecidableEq κ]
def valV (kvs:List (κ × V)) (k : κ):Option V:=(kvs.find? fun kv=>decide (kv.1=k)).map (·.2)
def putK (kvs:List (κ × V)) (k : κ) (v:V):List (κ × V) :=
 if (kvs.any fun kv=>decide (kv.1=k))=true then kvs.map (fun kv=>if kv.1=k then (kv.1,v) else kv) else kvs++[(k,v)]
theorem Jbb {p : κ × V} {r:List (κ × V)} {k : κ} (e:p.1=k):valV (p::r) k=some p.2:=by simp [valV,List.find?_cons,e]
theorem Jbf {p : κ × V} {r:List (κ × V)} {k : κ} (e:¬ p.1=k):valV (p::r) k=valV r k:=by simp [valV,List.find?_cons,e]
theorem Jcv (k : κ):∀ kvs:List (κ × V),(kvs.any fun kv=>decide (kv.1=k))=(valV kvs k).isSome
 | []=>rfl
 | p::r=>by
  rw [any_cons];by_cases e:p.1=k
  ·simp only [Jbb e,decide_eq_true e,Bool.true_or,Option.isSome_some]
  ·rw [Jbf e,decide_eq_false e,Bool.false_or];exact Jcv k r
theorem Jg9 (k j : κ) (y:V):∀ kvs:List (κ × V),valV (kvs.map fun kv=>if kv.1=k then (kv.1,y) else kv) j=(valV kvs j).map fun x=>if j=k then y else x
 | []=>rfl
 | p::r=>by
  have ih:=Jg9 k j y r;rw [map_cons];by_cases h:p.1=k
  ·rw [if_pos h];by_cases e:p.1=j
   ·rw [Jbb (p:=(p.1,y)) e,Jbb e,Option.map_some,if_pos (e.symm.trans h)]
   ·rw [Jbf (p:=(p.1,y)) e,Jbf e,ih]
  ·rw [if_neg h];by_cases e:p.1=j
   ·rw [Jbb (p:=p) e,Jbb e,Option.map_some,if_neg (fun z=>h (e.trans z))]
   ·rw [Jbf (p:=p) e,Jbf e,ih]
theorem Jf3 (k j : κ) (y:V):∀ kvs:List (κ × V),valV kvs k=none->valV (kvs++[(k,y)]) j=if j=k then some y else valV kvs j
 | [],_=>by
  by_cases e:k=j
  ·rw [if_pos e.symm];exact Jbb (p:=(k,y)) e
  ·rw [if_neg (fun z=>e z.symm)];exact Jbf (p:=(k,y)) e
 | p::r,hn=>by
  rw [cons_append];have hk:¬ p.1=k:=fun z=>by rw [Jbb z] at hn;cases hn
  rw [Jbf hk] at hn;have ih:=Jf3 k j y r hn;by_cases e:p.1=j
  ·rw [Jbb e,Jbb e,if_neg (fun z=>hk (e.trans z))]
  ·rw [Jbf e,Jbf e,ih]
theorem Jha (kvs:List (κ × V)) (k j : κ) (y:V):valV (putK kvs k y) j=if j=k then some y else valV kvs j:=by
 unfold putK;by_cases a:(kvs.any fun b=>decide (b.1=k))=true
 ·rw [if_pos a,Jg9];rw [Jcv] at a;by_cases e:j=k
  ·obtain ⟨x,c⟩:=Option.isSome_iff_exists.mp a;rw [if_pos e,e,c,Option.map_some,if_pos rfl]
  ·rw [if_neg e];cases valV kvs j with
   | none=>rfl
   | some x=>rw [Option.map_some,if_neg e]
 ·rw [if_neg a];refine Jf3 k j y kvs ?_;rw [Jcv] at a;cases q:valV kvs k with
  | none=>rfl
  | some x=>rw [q] at a;exact (a rfl).elim
theorem Jbg (kvs:List (κ × V)) (k : κ) (v:V):(putK kvs k v).length<=kvs.length+1:=by
 unfold putK;split
 ·rw [length_map];ac_nf
 ·rw [length_append,length_cons,length_nil];ac_nf
theorem Jjo {kvs:List (κ × V)} {k : κ} (v:V) (h:valV kvs k=none):putK kvs k v=kvs++[(k,v)]:=by
 unfold putK;rw [Jcv,h];exact if_neg ⋯
theorem RelO.isSome_eq {o:Option V} {u:Option Value} (r:RelO o u):o.isSome=u.isSome:=by
 cases o with
 | none=>cases u with
  | none=>rfl
  | some _=>exact (show False from r).elim
 | some _=>cases u with
  | none=>exact (show False from r).elim
  | some _=>rfl
theorem RelO.getD {o:Option V} {u:Option Value} {d:V} {d':Value} (r:RelO o u) (rd:RelV d d'):RelV (o.getD d) (u.getD d'):=by
 cases o with
 | none=>cases u with
  | none=>exact rd
  | some _=>exact (show False from r).elim
 | some _=>cases u with
  | none=>exact (show False from r).elim
  | some _=>exact r
theorem KV.val {kvs:List (κ × V)} {vs:List (κ × Value)} (r:KV kvs vs) (k : κ):RelO (valV kvs k) (valueAt vs k):=by
 unfold KV at r;induction r with
 | nil=>exact True.intro
 | @cons p q ps qs h t ih=>
  obtain ⟨c,d⟩:=h;by_cases e:p.1=k
  ·have a:q.1=k:=c.symm.trans e;have b:valueAt (q::qs) k=some q.2:=by simp [valueAt,List.find?_cons,a]
   rw [Jbb e,b];exact d
  ·have a:¬ q.1=k:=fun z=>e (c.trans z);have b:valueAt (q::qs) k=valueAt qs k:=by simp [valueAt,List.find?_cons,a]
   rw [Jbf e,b];exact ih
theorem KV.any {kvs:List (κ × V)} {vs:List (κ × Value)} (r:KV kvs vs) (k : κ):(kvs.any fun kv=>decide (kv.1=k))=vs.any fun kv=>decide (kv.1=k):=by
 unfold KV at r;induction r with
 | nil=>rfl
 | cons h t ih=>rw [any_cons,any_cons,ih,h.1]
theorem KV.repl {kvs:List (κ × V)} {vs:List (κ × Value)} (r:KV kvs vs) (k : κ) {y:V} {u:Value} (ry:RelV y u) :
  KV (kvs.map fun kv=>if kv.1=k then (kv.1,y) else kv) (vs.map fun kv=>if kv.1=k then (kv.1,u) else kv):=by
 unfold KV at r ⊢;induction r with
 | nil=>exact .nil
 | @cons p q ps qs h t ih=>
  rw [map_cons,map_cons];refine .cons ?_ ih;obtain ⟨a,b⟩:=h;by_cases e:p.1=k
  ·rw [if_pos e,if_pos (a.symm.trans e)];exact ⟨a,ry⟩
  ·rw [if_neg e,if_neg (fun z=>e (a.trans z))];exact ⟨a,b⟩
theorem KV.put {kvs:List (κ × V)} {vs:List (κ × Value)} (r:KV kvs vs) (k : κ) {y:V} {u:Value} (ry:RelV y u):KV (putK kvs k y) (stored vs k u):=by
 unfold putK stored;rw [r.any k];by_cases e:(vs.any fun a=>decide (a.1=k))=true
 ·rw [if_pos e,if_pos e];exact r.repl k ry
 ·rw [if_neg e,if_neg e];exact Paired.snoc r ⟨rfl,ry⟩
theorem KV.length {kvs:List (κ × V)} {vs:List (κ × Value)} (r:KV kvs vs):kvs.length=vs.length:=Paired.length r
end
theorem kV_is {P:Program} {w:World} {k:Key} {u:Value} (r:RelV (kV k) u):(Jaw P w).is k u=true:=by
 cases k with
 | inl i=>have e:=(show u=Value.bool i from r);subst e;exact JfK P w i
 | inr x=>obtain ⟨t,e⟩:=(show ∃ t,u=Value.str x t from r);subst e;exact Jgl P w x t
theorem JfH {P:Program} {w:World}:∀ {ks:List Key} {us:List Value},Vals (ks.map kV) us->ItemsAre (Jaw P w) ks us
 | [],_,r=>by rw [map_nil] at r;cases r;exact .nil
 | k::ks,_,r=>by
  rw [map_cons] at r;cases r with
  | cons h t=>exact .cons (kV_is h) (JfH t)
abbrev KT (H:Hp):List (List Key × V)->List (List Key × Addr × Value)->Prop:=Paired fun p q=>p.1=q.1/\H q.2.1=some (.tup (p.1.map kV))/\RelV p.2 q.2.2
theorem KT.val {H:Hp} {kvs:List (List Key × V)} {xs:List (List Key × Addr × Value)} (r:KT H kvs xs) (k:List Key):RelO (valV kvs k) ((atKey xs k).map (·.2)):=by
 induction r with
 | nil=>exact True.intro
 | @cons p q ps qs h t ih=>
  obtain ⟨c,_,d⟩:=h;by_cases e:p.1=k
  ·have a:q.1=k:=c.symm.trans e;have b:atKey (q::qs) k=some q.2:=by simp [atKey,List.find?_cons,a]
   rw [Jbb e,b];exact d
  ·have a:¬ q.1=k:=fun z=>e (c.trans z);have b:atKey (q::qs) k=atKey qs k:=by simp [atKey,List.find?_cons,a]
   rw [Jbf e,b];exact ih
theorem KT.repl {H:Hp} {kvs:List (List Key × V)} {xs:List (List Key × Addr × Value)} (r:KT H kvs xs) (k:List Key) {y:V} {u:Value} (ry:RelV y u) :
  KT H (kvs.map fun kv=>if kv.1=k then (kv.1,y) else kv) (xs.map (putAt k u)):=by
 induction r with
 | nil=>exact .nil
 | @cons p q ps qs h t ih=>
  rw [map_cons,map_cons];refine .cons ?_ ih;obtain ⟨a,b,c⟩:=h;unfold putAt;by_cases e:p.1=k
  ·rw [if_pos e,if_pos (a.symm.trans e)];exact ⟨a,b,ry⟩
  ·rw [if_neg e,if_neg (fun z=>e (a.trans z))];exact ⟨a,b,c⟩
theorem KT.put {H:Hp} {kvs:List (List Key × V)} {xs:List (List Key × Addr × Value)} (r:KT H kvs xs) (k:List Key) {b:Addr} {y:V} {u:Value} (hb:H b=some (.tup (k.map kV))) (ry:RelV y u) :
  KT H (putK kvs k y) (storedH xs k b u):=by
 have e:(kvs.any fun a=>decide (a.1=k))=(atKey xs k).isSome:=by
  rw [Jcv,(r.val k).isSome_eq,Option.isSome_map]
 unfold putK storedH;rw [e];by_cases q:(atKey xs k).isSome=true
 ·rw [if_pos q,if_pos q];exact r.repl k ry
 ·rw [if_neg q,if_neg q];exact Paired.snoc r ⟨rfl,hb,ry⟩
theorem KT.keeps {H H':Hp} {kvs:List (List Key × V)} {xs:List (List Key × Addr × Value)} (r:KT H kvs xs) (ht:∀ b ys,H b=some (.tup ys)->H' b=some (.tup ys)):KT H' kvs xs :=
 Paired.mapP r fun _ _ z=>⟨z.1,ht _ _ z.2.1,z.2.2⟩
section
variable {P:Program} {w:World} {H:Hp} {h:Heap} {a:Addr}
theorem y78y {u:HO} (ok:HOk P w H h) (e:Rd H a u):ObjOk P w H h a u:=e.ok ok
theorem dk_rd {kvs:List (Key × V)} (ok:HOk P w H h) (e:Rd H a (.dK kvs)):kvs.length<=sizeLine/\(a == sysModules)=false/\∃ vs,KV kvs vs/\h.DictOf (Jaw P w) a vs :=
 show ObjOk P w H h a (.dK kvs) from y78y ok e
theorem dk_of {kvs:List (Key × V)} (ok:HOk P w H h) (e:H a=some (.dK kvs)):kvs.length<=sizeLine/\(a == sysModules)=false/\∃ vs,KV kvs vs/\h.DictOf (Jaw P w) a vs:=dk_rd ok (.inl e)
theorem JdY {ks:List Key} (ok:HOk P w H h) (e:H a=some (.tup (ks.map kV))):(tupleKind (Jaw P w)).is h ks a:=by
 obtain ⟨_,b,r,o,c,f,n,d⟩:=(show ObjOk P w H h a (.tup (ks.map kV)) from ok a _ e);exact ⟨o,b.toArray,n,c,f,d,by simpa using JfH r⟩
theorem dt_rd {kvs:List (List Key × V)} (ok:HOk P w H h) (e:Rd H a (.dT kvs)):kvs.length<=sizeLine/\(a == sysModules)=false /\
  ∃ xs,KT H kvs xs/\h.DictOfH (tupleKind (Jaw P w)) a xs:=by
 obtain ⟨z,y,xs,r,o,k,c,d,j,f,g,i⟩:=(show ObjOk P w H h a (.dT kvs) from y78y ok e);refine ⟨z,y,xs,r,o,k,c,d,j,f,g,fun x b=>?_,i⟩;have all:∀ {l:List (List Key × V)} {m:List (List Key × Addr × Value)},KT H l m->∀ x∈m,(tupleKind (Jaw P w)).is h x.1 x.2.1:=by
  intro l m q;induction q with
  | nil=>intro x b;exact nomatch b
  | @cons p q ps qs hq t ih=>
   intro x b;rcases mem_cons.mp b with e | b
   ·subst e;exact JdY ok (by rw [<- hq.1];exact hq.2.1)
   ·exact ih x b
 exact all r x b
theorem dt_of {kvs:List (List Key × V)} (ok:HOk P w H h) (e:H a=some (.dT kvs)):kvs.length<=sizeLine/\(a == sysModules)=false /\
  ∃ xs,KT H kvs xs/\h.DictOfH (tupleKind (Jaw P w)) a xs:=dt_rd ok (.inl e)
end
def DGet (H:Hp) (a:Addr) (y:V) (r:Option V):Prop :=
 (∃ kvs k,Rd H a (.dK kvs)/\y=kV k/\r=valV kvs k)\/∃ kvs k b,Rd H a (.dT kvs)/\y=.ref b/\H b=some (.tup (k.map kV))/\r=valV kvs k
def DPut (H:Hp) (a:Addr) (y v:V) (H':Hp):Prop :=
 (∃ kvs k,H a=some (.dK kvs)/\y=kV k/\kvs.length<sizeLine/\H'=upd H a (.dK (putK kvs k v))) \/
 ∃ kvs k b,H a=some (.dT kvs)/\y=.ref b/\H b=some (.tup (k.map kV))/\kvs.length<sizeLine/\H'=upd H a (.dT (putK kvs k v))
theorem DGet.k {H:Hp} {a:Addr} {kvs:List (Key × V)} {k:Key} (e:H a=some (.dK kvs)):DGet H a (kV k) (valV kvs k):=.inl ⟨kvs,k, .inl e,rfl,rfl⟩
theorem DPut.k {H:Hp} {a:Addr} {kvs:List (Key × V)} {k:Key} {v:V} (e:H a=some (.dK kvs)) (hl:kvs.length<sizeLine):DPut H a (kV k) v (upd H a (.dK (putK kvs k v))):=.inl ⟨kvs,k,e,rfl,hl,rfl⟩
section
variable {X:Cx} {pins:List (Addr × Obj)} {σ : St} {H:Hp} {s:Shared} {a:Addr} {y v:V} {u r:Value} {o:Option V} {A:Around} {E:Value->Shared->Prop}
theorem Inv.big (I:Inv X pins σ H s):sysModules<s.heap.objs.size:=by
 have h:mainGlobals<s.heap.objs.size:=(I.mod.glob.keeps I.bk).lt;exact Nat.lt_trans ⋯ h
theorem JhN {Q:Value->Shared->Prop} (hu:A.units+1<cLine) (I:Inv X pins σ H s) (g:DGet H a y (some v)) (ry:RelV y u) (h:∀ w' s',Inv X pins σ H s'->RelV v w'->Q w' s') :
  wpAny (model X.prog X.w) A (getItem (.ref a) u) Q E s:=by
 rcases g with ⟨kvs,k,e,ey,l⟩ | ⟨kvs,k,b,e,ey,eb,l⟩
 ·subst ey;obtain ⟨z,r,n,c,f⟩:=dk_rd I.hok e;obtain ⟨w',j,d⟩:=RelO.some_of (v:=v) (o:=valueAt n k) (by rw [l];exact c.val k);exact wpAny_getItem_of (kV_is ry) f.mapOf j (h w' _ (I.tok _) d)
 ·subst ey;cases (show u=Value.ref b from ry);obtain ⟨z,r,q,c,f⟩:=dt_rd I.hok e;obtain ⟨w',j,d⟩:=RelO.some_of (v:=v) (o:=(atKey q k).map (·.2)) (by rw [l];exact c.val k);obtain ⟨p,m,i⟩:=Option.map_eq_some_iff.mp j;refine wpAny_getItem_heap (tupleKind_room_in1 hu) (JdY I.hok eb) f m ?_;rw [i];exact h w' _ (I.tok _) d
theorem d_in {Q:Value->Shared->Prop} (hu:A.units+1<cLine) (I:Inv X pins σ H s) (g:DGet H a y o) (ry:RelV y u) (h:∀ s',Inv X pins σ H s'->Q (.bool o.isSome) s') :
  wpAny (model X.prog X.w) A (compareOp .In u (.ref a)) Q E s:=by
 rcases g with ⟨kvs,k,e,ey,l⟩ | ⟨kvs,k,b,e,ey,eb,l⟩
 ·subst ey;obtain ⟨z,f,i,c,d⟩:=dk_rd I.hok e;refine wpAny_in_of (kV_is ry) f d.mapOf ?_;rw [<- (c.val k).isSome_eq, <- l];exact h _ (I.tok _)
 ·subst ey;cases (show u=Value.ref b from ry);obtain ⟨z,f,j,c,d⟩:=dt_rd I.hok e;refine wpAny_in_heap (tupleKind_room_in1 hu) (JdY I.hok eb) f d ?_;have q:=(c.val k).isSome_eq;rw [Option.isSome_map] at q;rw [<- q, <- l];exact h _ (I.tok _)
theorem Jka {Q:Value->Shared->Prop} (hu:A.units+1<cLine) (I:Inv X pins σ H s) (g:DGet H a y o) (ry:RelV y u) (h:∀ s',Inv X pins σ H s'->Q (.bool (!o.isSome)) s') :
  wpAny (model X.prog X.w) A (compareOp .NotIn u (.ref a)) Q E s:=by
 rcases g with ⟨kvs,k,e,ey,l⟩ | ⟨kvs,k,b,e,ey,eb,l⟩
 ·subst ey;obtain ⟨z,f,i,c,d⟩:=dk_rd I.hok e;refine wpAny_notIn_of (kV_is ry) f d.mapOf ?_;rw [<- (c.val k).isSome_eq, <- l];exact h _ (I.tok _)
 ·subst ey;cases (show u=Value.ref b from ry);obtain ⟨z,f,j,c,d⟩:=dt_rd I.hok e;refine wpAny_notIn_heap (tupleKind_room_in1 hu) (JdY I.hok eb) f d ?_;have q:=(c.val k).isSome_eq;rw [Option.isSome_map] at q;rw [<- q, <- l];exact h _ (I.tok _)
theorem JeW {h':Heap} {t':Nat} {ob:HO} (I:Inv X pins σ H s) (mu:Mut (H a)) (hs:Heap.SameBut a s.heap h') (he:∃ q,h'.get? a=some q) (new:ObjOk X.prog X.w (upd H a ob) h' a ob) :
  Inv X pins σ (upd H a ob) { s with heap:=h',toks:=t' } :=
 I.write (x:=a) (e:=a) mu (.inl rfl) (fun b q c z=>(hs.2 b c).trans z) he new
theorem JgQ {P:Program} {w:World} {H':Hp} {h':Heap} {kvs:List (Key × V)} {vs:List (Key × Value)} (z:kvs.length<=sizeLine) (hd:(a == sysModules)=false) (rel:KV kvs vs) (dd:h'.DictOf (Jaw P w) a vs) :
  ObjOk P w H' h' a (.dK kvs):=⟨z,hd,vs,rel,dd⟩
theorem JhO {H':Hp} {Q:Unit->Shared->Prop} (hu:A.units+1<cLine) (I:Inv X pins σ H s) (g:DPut H a y v H') (ry:RelV y u) (rv:RelV v r) (h:∀ s',Inv X pins σ H' s'->Q () s') :
  wpAny (model X.prog X.w) A (setItem (.ref a) u r) Q E s:=by
 rcases g with ⟨kvs,k,e,ey,l,eH⟩ | ⟨kvs,k,b,e,ey,eb,l,eH⟩
 ·subst ey eH;obtain ⟨z,j,K,d,m⟩:=dk_of I.hok e;have p:K.length<=sizeLine:=by rw [<- d.length];exact z
  have o:(putK kvs k v).length<=sizeLine:=by have:=Jbg kvs k v;ac_nf
  refine wpAny_setItem_pairs (hsz:=p) (kV_is ry) m fun t f n=>h _ ?_;have G:∃ q,t.get? a=some q:=let ⟨q,_,_,i,_⟩:=f;⟨q,i⟩;exact JeW I (by rw [e];exact True.intro) n G (JgQ o j (d.put k rv) f)
 ·subst ey eH;cases (show u=Value.ref b from ry);obtain ⟨z,j,D,d,m⟩:=dt_of I.hok e;have p:D.length<=sizeLine:=by rw [<- Paired.length d];exact z
  have o:(putK kvs k v).length<=sizeLine:=by have:=Jbg kvs k v;ac_nf
  refine wpAny_setItem_heap (hsz:=p) (tupleKind_room_in1 hu) (JdY I.hok eb) m fun t f n=>h _ ?_;obtain ⟨q,M,J,i,L,B,C,_,F⟩:=f;refine JeW I (by rw [e];exact True.intro) n ⟨q,i⟩ ⟨o,j,_,(d.put k eb rv).keeps fun c N x=>?_,q,M,J,i,L,B,C,F⟩;rw [Jag (ne_of x e (fun z=>nomatch z))];exact x
end
section
variable {X:Cx} {pins:List (Addr × Obj)} {σ : St} {H:Hp} {s:Shared} {a:Addr} {kvs:List (Key × V)} {k:Key} {u:Value} {A:Around} {E:Value->Shared->Prop}
end
def NoSl (i:Expr):Prop:=∀ ov iv,subscripted i false ov iv=operate [ov,iv] (getItem ov iv)
theorem JkW {prog:Program} {w:World} {A:Around} {E:Value->Shared->Prop} {s:Shared} {env:Env} {value slice:Expr} {pos:Pos} {T id:String} {Q:Value->Shared->Prop}
  (hl:typeLookup (.type T) "__getitem__"=pure (some (.builtin id))) (hs:NoSl slice)
  (h:wpAny (model prog w) A (eval value env) (fun o s₁=>wpAny (model prog w) A (eval slice env) (fun i s₂=>s₂.TypeIs o T/\wpAny (model prog w) A (getItem o i) Q E s₂) E s₁) E s) :
  wpAny (model prog w) A (eval (.Subscript value slice pos) env) Q E s:=by
 refine Subscript_ (wpAny_mono h (fun o s₁ h₁=>wpAny_mono h₁ (fun i s₂ h₂=>?_) fun _ _ x=>x) fun _ _ x=>x);obtain ⟨b,h₂⟩:=h₂;unfold subscriptTail;refine wpAny_bind ?_;rw [getitemInPython_of_ne b.not_modules];refine wpAny_bind (wpAny_specialOf b hl ?_);have a:wpAny (model prog w) A (subscripted slice false o i) (fun r s₃=>wpAny (model prog w) A (letTemporaryGo value o r >>= fun _=>pure r) Q E s₃) E s₂:=by
  rw [hs o i];exact wpAny_operating (wpAny_mono h₂ (fun r s₃ h₃=>wpAny_bind (wpAny_letTemporaryGo (wpAny_pure h₃))) fun _ _ x=>x)
 first
  | exact wpAny_pure (wpAny_bind a)
  | exact wpAny_bind (wpAny_pure (wpAny_bind a))
  | exact wpAny_bind a
theorem Jgc {X:Cx} {pins:List (Addr × Obj)} {σ : St} {H:Hp} {s:Shared} {a:Addr} {y:V} {o:Option V} (I:Inv X pins σ H s) (g:DGet H a y o):s.TypeIs (.ref a) "dict":=by
 rcases g with ⟨kvs,k,e,_,_⟩ | ⟨kvs,k,b,e,_,_,_⟩
 ·obtain ⟨_,_,f,_,c⟩:=dk_rd I.hok e;exact c.typeIs
 ·obtain ⟨_,_,d,_,c⟩:=dt_rd I.hok e;exact c.typeIs
def tDGet (td ty:TE):TE:=fun σ H Q=>td σ H fun x H1=>ty σ H1 fun y H2=>∃ a v,x=.ref a/\DGet H2 a y (some v)/\Q v H2
def tDIn (ty td:TE):TE:=fun σ H Q=>ty σ H fun y H1=>td σ H1 fun x H2=>∃ a o,x=.ref a/\DGet H2 a y o/\Q (.bl o.isSome) H2
def JiL (ty td:TE):TE:=fun σ H Q=>ty σ H fun y H1=>td σ H1 fun x H2=>∃ a o,x=.ref a/\DGet H2 a y o/\Q (.bl (!o.isSome)) H2
def sDPut (td ty tv:TE):TS:=fun D σ H=>tv σ H fun v H1=>td σ H1 fun x H2=>ty σ H2 fun y H3=>∃ a H4,x=.ref a/\DPut H3 a y v H4/\D.nx σ H4
section
variable {X:Cx} {o i e value:Expr} {pos pos' tpos:Pos} {td ty tv:TE}
theorem JaQ (hu:X.A.units+1<cLine) (ho:PE X o td) (hi:PE X i ty) (hs:NoSl i):PE X (.Subscript o i pos) (tDGet td ty):=by
 intro b s σ H Q I h;refine JkW PySem.F.slot_dict_getitem.lookup hs (thn (ho b s σ H _ I h) fun u d ⟨x,e,I1,m,f⟩=>thn (hi b d σ e _ I1 f) fun t q ζ=>?_);obtain ⟨y,l,I2,n,a,v,k,g,j⟩:=ζ;subst k;obtain rfl:u=Value.ref a:=m;exact ⟨Jgc I2 g,JhN hu I2 g n fun p r I3 c=>⟨v,l,I3,c,j⟩⟩
theorem Jg2 (hu:X.A.units+1<cLine) (hi:PE X i ty) (ho:PE X o td):PC X .In i o (tDIn ty td):=by
 intro b s σ H Q I h;refine thn (hi b s σ H _ I h) fun r c ⟨y,d,I1,n,e⟩=>thn (ho b c σ d _ I1 e) fun u p ζ=>?_;obtain ⟨x,k,I2,m,a,l,j,g,f⟩:=ζ;subst j;obtain rfl:u=Value.ref a:=m;exact d_in hu I2 g n fun q I3=>⟨.bl l.isSome,k,I3,rfl,f⟩
theorem Jde (hu:X.A.units+1<cLine) (hi:PE X i ty) (ho:PE X o td):PC X .NotIn i o (JiL ty td):=by
 intro b s σ H Q I h;refine thn (hi b s σ H _ I h) fun r c ⟨y,d,I1,n,e⟩=>thn (ho b c σ d _ I1 e) fun u p ζ=>?_;obtain ⟨x,k,I2,m,a,l,j,g,f⟩:=ζ;subst j;obtain rfl:u=Value.ref a:=m;exact Jka hu I2 g n fun q I3=>⟨.bl (!l.isSome),k,I3,rfl,f⟩
theorem JbG (hu:X.A.units+1<cLine) (ho:PE X o td) (hi:PE X i ty) (hv:PE X value tv) (hs:swapsWith value (some (.Subscript o i pos')) pos.line X.env=pure false) :
  PS X (.Assign [.Subscript o i pos'] value pos) (sDPut td ty tv):=by
 intro b s σ H D I h;refine wpAny_Assign_Subscript (thn (hv b s σ H _ I h) fun r e ⟨v,f,I1,c,j⟩=>thn (ho b e σ f _ I1 j) fun u n ⟨x,m,I2,q,k⟩=>thn (hi b n σ m _ I2 k) fun B z ζ=>?_) hs;obtain ⟨y,w,I3,t,a,p,l,g,d⟩:=ζ;subst l;obtain rfl:u=Value.ref a:=q;exact JhO hu I3 g t c fun C I4=>⟨σ,p,I4,d⟩
end
theorem JgP {P:Program} {w:World} {H:Hp} (h:Heap) (hb:sysModules<h.objs.size):ObjOk P w H (h.push { cls:=.type "dict",data:=.dict #[] }) h.objs.size (.dK []) :=
 ⟨Nat.zero_le _,beq_eq_false_iff_ne.mpr (Ne.symm (Nat.ne_of_lt hb)),[], .nil,Heap.DictOf.new h⟩
def JjR:TE:=fun _ H Q=>∀ p,H p=none->Q (.ref p) (upd H p (.dK []))
def JlL:TE:=fun _ H Q=>∀ p,H p=none->Q (.ref p) (upd H p (.dT []))
section
variable {X:Cx} {pos:Pos}
theorem Jbj:PE X (.Dict [] [] pos) JjR:=fun b s σ H Q I h=>
 wpAny_Dict_empty ⟨.ref s.heap.objs.size,_,I.laid (a:=s.heap.objs.size) (o:=.dK []) (t':=s.toks) (fun _ _ q=>Heap.get?_push_of_some _ q) (Nat.le_refl _) (JgP s.heap I.big),rfl,h _ (I.hok.fresh (Nat.le_refl _))⟩
end
def Jf0:List (TE × TE)->St->Hp->(List (V × V)->Hp->Prop)->Prop
 | [],_,H,Q=>Q [] H
 | (tk,tv)::r,σ,H,Q=>tk σ H fun x H1=>tv σ H1 fun y H2=>Jf0 r σ H2 fun ps H3=>Q ((x,y)::ps) H3
abbrev VV:List (V × V)->List (Value × Value)->Prop:=Paired fun p q=>RelV p.1 q.1/\RelV p.2 q.2
def PPs (X:Cx) (pos:Pos) (keys:List (Option Expr)) (values:List Expr) (trs:List (TE × TE)):Prop :=
 ∀ (pins:List (Addr × Obj)) (s:Shared) (σ : St) (H:Hp) (Q:List (V × V)->Hp->Prop),Inv X pins σ H s->Jf0 trs σ H Q ->
  wpAny (model X.prog X.w) X.A (evalPairs (pairTrees keys values X.env pos)) (fun vs s'=>∃ ps H',Inv X pins σ H' s'/\VV ps vs/\Q ps H') X.xe s
theorem JkK {X:Cx} {pos:Pos}:PPs X pos [] [] []:=fun a s σ H Q I h=>pairTrees_nil_walk ⟨[],H,I, .nil,h⟩
theorem Jjn {X:Cx} {pos:Pos} {k v:Expr} {ks:List (Option Expr)} {vs:List Expr} {tk tv:TE} {trs:List (TE × TE)} (hk:PE X k tk) (hv:PE X v tv) (hr:PPs X pos ks vs trs) :
  PPs X pos (some k::ks) (v::vs) ((tk,tv)::trs):=fun a s σ H Q I h=>
 pairTrees_cons_walk (thn (hk a s σ H _ I h) fun u d ⟨x,e,I1,m,f⟩=>thn (hv a d σ e _ I1 f) fun q l ⟨y,j,I2,n,g⟩=>
  thn (hr a l σ j _ I2 g) fun p r ⟨o,i,I3,b,c⟩=>⟨(x,y)::o,i,I3, .cons ⟨m,n⟩ b,c⟩)
def JeN (kvs more:List (Key × V)):List (Key × V):=more.foldl (fun acc kv=>putK acc kv.1 kv.2) kvs
theorem KV.merge:∀ {more:List (Key × V)} {rs:List (Key × Value)} {kvs:List (Key × V)} {vs:List (Key × Value)},KV more rs->KV kvs vs->KV (JeN kvs more) (merged vs rs):=by
 intro more rs kvs vs r;unfold KV at r;induction r generalizing kvs vs with
 | nil=>intro q;exact q
 | @cons p q ps qs h t ih=>
  intro a;have e:KV (putK kvs p.1 p.2) (stored vs q.1 q.2):=by
   have:=a.put p.1 h.2;rw [<- h.1];exact this
  exact ih e
theorem Jc8:∀ (more kvs:List (Key × V)),(JeN kvs more).length<=kvs.length+more.length
 | [],kvs=>by show kvs.length<=kvs.length+0;ac_nf
 | p::r,kvs=>by
  have h1:=Jc8 r (putK kvs p.1 p.2);have h2:=Jbg kvs p.1 p.2;show (JeN (putK kvs p.1 p.2) r).length<=_;rw [length_cons];ac_nf
theorem JeG {P:Program} {w:World}:∀ {kvs:List (Key × V)} {ws:List (Value × Value)},VV (kvs.map fun kv=>(kV kv.1,kv.2)) ws->∃ rs,Carries (Jaw P w) ws rs/\KV kvs rs
 | [],_,r=>by rw [map_nil] at r;cases r;exact ⟨[],True.intro, .nil⟩
 | p::kvs,_,r=>by
  rw [map_cons] at r;cases r with
  | @cons a b as bs h t=>
   obtain ⟨rs,c,q⟩:=JeG (P:=P) (w:=w) t;obtain ⟨b1,b2⟩:=b;exact ⟨(p.1,b2)::rs,⟨kV_is h.1,rfl,c⟩, .cons ⟨rfl,h.2⟩ q⟩
def tDisp (trs:List (TE × TE)):TE:=fun σ H Q=>∀ p,H p=none->Jf0 trs σ (upd H p (.dK [])) fun ps H2=>H2 p=some (.dK [])/\∃ kvs:List (Key × V),ps=kvs.map (fun kv=>(kV kv.1,kv.2))/\kvs.length<=15/\Q (.ref p) (upd H2 p (.dK (JeN [] kvs)))
theorem JkE {X:Cx} {pos:Pos} {keys:List (Option Expr)} {values:List Expr} {trs:List (TE × TE)} (h:PPs X pos keys values trs) (hall:keys.all (·.isSome)=true) (hl:keys.length=values.length) (h0:keys≠[])
  (h15:keys.length<=15):PE X (.Dict keys values pos) (tDisp trs):=by
 intro d s σ H Q I q;have v:=I.hok.fresh (Nat.le_refl s.heap.objs.size);have I1:=I.laid (a:=s.heap.objs.size) (o:=.dK []) (h':=s.heap.push { cls:=.type "dict",data:=.dict #[] }) (t':=s.toks) (fun _ _ q=>Heap.get?_push_of_some _ q) (Nat.le_refl _) (JgP s.heap I.big);refine wpAny_Dict_walk (knd:=Jaw X.prog X.w) hall hl h0 h15 (thn (h d _ σ _ _ I1 (q _ v)) fun A C ζ=>?_);obtain ⟨D,B,I2,g,e,b,t,E,k⟩:=ζ;subst t;obtain ⟨y,c,n⟩:=JeG (P:=X.prog) (w:=X.w) g;obtain ⟨z,m,j,i,p⟩:=dk_of I2.hok e;cases i;refine ⟨y,c,p,fun h' f r=>⟨.ref s.heap.objs.size,_,?_,rfl,k⟩⟩;have x:(JeN [] b).length<=sizeLine:=by
  have u:=Jc8 b [];rw [length_nil] at u;rw [sizeLine_eq];ac_nf
 have l:∃ q,h'.get? s.heap.objs.size=some q:=let ⟨q,_,_,hq,_⟩:=f;⟨q,hq⟩;exact JeW I2 (by rw [e];exact True.intro) r l (JgQ x m (n.merge .nil) f)
structure M1 (X:Cx) (o:Expr) (m:Str) (apos:Pos) (e:Expr) (cpos:Pos):Prop where
 base:attributeBase o m X.env (eval o X.env)=eval o X.env
 few:((backTo cpos (starEach [e] X.env)).all (fun x=>!x.1)&&(backToKw cpos (keywordEach [] X.env)).all (fun x=>x.1.isSome)
  && decide (([e]:List Expr).length+([]:List Keyword).length+(if ([]:List Keyword).isEmpty then 0 else 1)<30))=true
 line:(apos.endLine == cpos.line)=true
 trees:backTo cpos (starEach [e] X.env)=[(false,eval e X.env)]
structure M2 (X:Cx) (o:Expr) (m:Str) (apos:Pos) (e f:Expr) (cpos:Pos):Prop where
 base:attributeBase o m X.env (eval o X.env)=eval o X.env
 few:((backTo cpos (starEach [e,f] X.env)).all (fun x=>!x.1)&&(backToKw cpos (keywordEach [] X.env)).all (fun x=>x.1.isSome)
  && decide (([e,f]:List Expr).length+([]:List Keyword).length+(if ([]:List Keyword).isEmpty then 0 else 1)<30))=true
 line:(apos.endLine == cpos.line)=true
 trees:backTo cpos (starEach [e,f] X.env)=[(false,eval e X.env),(false,eval f X.env)]
def IsD (H:Hp) (a:Addr):Prop:=(∃ kvs,Rd H a (.dK kvs))\/∃ kvs,Rd H a (.dT kvs)
theorem JfG {X:Cx} {pins:List (Addr × Obj)} {σ : St} {H:Hp} {s:Shared} {a:Addr} (I:Inv X pins σ H s) (d:IsD H a) :
  s.TypeIs (.ref a) "dict"/\(∀ b,Value.ref a=.ref b->∃ ob,s.heap.get? b=some ob/\ob.dict=none)/\(a == sysModules)=false:=by
 rcases d with ⟨kvs,e⟩ | ⟨kvs,e⟩
 ·obtain ⟨_,h,i,_,c⟩:=dk_rd I.hok e;refine ⟨c.typeIs,fun b q=>?_,h⟩;cases q;obtain ⟨ob,_,_,f,g,_⟩:=c;exact ⟨ob,f,g.2.1⟩
 ·obtain ⟨_,h,j,_,c⟩:=dt_rd I.hok e;refine ⟨c.typeIs,fun b q=>?_,h⟩;cases q;obtain ⟨ob,_,_,f,g,_⟩:=c;exact ⟨ob,f,g.2.1⟩
section
variable {X:Cx} {pins:List (Addr × Obj)} {σ : St} {H:Hp} {s:Shared} {a:Addr} {y d:V} {u r:Value} {o:Option V} {A:Around} {E:Value->Shared->Prop}
theorem Jk7 {Q:Value->Shared->Prop} (hu:A.units+1<cLine) (I:Inv X pins σ H s) (g:DGet H a y o) (ry:RelV y u) (h:∀ w' s',Inv X pins σ H s'->RelV (o.getD .non) w'->Q w' s') :
  wpAny (model X.prog X.w) A (call (.builtin "dict.get") [.ref a,u]) Q E s:=by
 rcases g with ⟨kvs,k,e,ey,l⟩ | ⟨kvs,k,b,e,ey,eb,l⟩
 ·subst ey;obtain ⟨z,f,j,c,d⟩:=dk_rd I.hok e;refine call_meetsIn PySem.F.slot_dict_get d.typeIs PySem.F.entry_dict_get (PySem.F.args_dict_get_2 _ _) (meets_dict_get (Jaw X.prog X.w) a (kV_is ry) f) ⟨_,d.mapOf,h _ _ (I.tok _) ?_⟩;rw [l];exact (c.val k).getD rfl
 ·subst ey;cases (show u=Value.ref b from ry);obtain ⟨z,f,i,c,d⟩:=dt_rd I.hok e;refine call_meetsIn PySem.F.slot_dict_get d.typeIs PySem.F.entry_dict_get (PySem.F.args_dict_get_2 _ _) (meetsH_dict_get (tupleKind (Jaw X.prog X.w)) a b f) ⟨tupleKind_room_in1 hu,k,i,JdY I.hok eb,d,h _ _ (I.tok _) ?_⟩;rw [l];exact (c.val k).getD rfl
theorem Jk8 {Q:Value->Shared->Prop} (hu:A.units+1<cLine) (I:Inv X pins σ H s) (g:DGet H a y o) (ry:RelV y u) (rd:RelV d r) (h:∀ w' s',Inv X pins σ H s'->RelV (o.getD d) w'->Q w' s') :
  wpAny (model X.prog X.w) A (call (.builtin "dict.get") [.ref a,u,r]) Q E s:=by
 rcases g with ⟨kvs,k,e,ey,l⟩ | ⟨kvs,k,b,e,ey,eb,l⟩
 ·subst ey;obtain ⟨z,i,m,c,f⟩:=dk_rd I.hok e;refine call_meetsIn PySem.F.slot_dict_get f.typeIs PySem.F.entry_dict_get (PySem.F.args_dict_get_3 _ _ _) (meets_dict_get_default (Jaw X.prog X.w) a (kV_is ry) i r) ⟨_,f.mapOf,h _ _ (I.tok _) ?_⟩;rw [l];exact (c.val k).getD rd
 ·subst ey;cases (show u=Value.ref b from ry);obtain ⟨z,i,j,c,f⟩:=dt_rd I.hok e;refine call_meetsIn PySem.F.slot_dict_get f.typeIs PySem.F.entry_dict_get (PySem.F.args_dict_get_3 _ _ _) (meetsH_dict_get_default (tupleKind (Jaw X.prog X.w)) a b i r) ⟨tupleKind_room_in1 hu,k,j,JdY I.hok eb,f,h _ _ (I.tok _) ?_⟩;rw [l];exact (c.val k).getD rd
end
def JjP (td ty:TE):TE:=fun σ H Q=>td σ H fun x H1=>∃ a,x=.ref a/\IsD H1 a/\ty σ H1 fun y H2=>∃ o,DGet H2 a y o/\Q (o.getD .non) H2
def JjQ (td ty tx:TE):TE:=fun σ H Q=>td σ H fun x H1=>∃ a,x=.ref a/\IsD H1 a/\ty σ H1 fun y H2=>tx σ H2 fun z H3=>∃ o,DGet H3 a y o/\Q (o.getD z) H3
section
variable {X:Cx} {o e f:Expr} {apos cpos:Pos} {td ty tx:TE}
theorem Jjk (hu:X.A.units+1<cLine) (ho:PE X o td) (he:PE X e ty) (m:M1 X o "get" apos e cpos):PE X (.Call (.Attribute o "get" apos) [e] [] cpos) (JjP td ty):=by
 intro b s σ H Q I h;refine wpAny_Call_method m.base m.few m.line PySem.F.plainAttrs_dict PySem.F.slot_dict_get PySem.F.type_dict_get (thn (ho b s σ H _ I h) fun u f ζ=>?_);obtain ⟨x,i,I1,r,a,n,d,j⟩:=ζ;subst n;obtain rfl:u=Value.ref a:=r;obtain ⟨p,k,_⟩:=JfG I1 d;refine ⟨p,k,?_⟩;rw [m.trees];refine Calls.callWith_builtin rfl (Calls.evalArgs_plain (Calls.spliced_cons (thn (he b f σ i _ I1 j) fun C w ⟨y,q,I2,t,z,g,l⟩=>Calls.spliced_nil ?_)));exact Jk7 hu I2 g t fun v B I3 c=>⟨_,q,I3,c,l⟩
theorem Jjl (hu:X.A.units+1<cLine) (ho:PE X o td) (he:PE X e ty) (hf:PE X f tx) (m:M2 X o "get" apos e f cpos):PE X (.Call (.Attribute o "get" apos) [e,f] [] cpos) (JjQ td ty tx):=by
 intro b s σ H Q I h;refine wpAny_Call_method m.base m.few m.line PySem.F.plainAttrs_dict PySem.F.slot_dict_get PySem.F.type_dict_get (thn (ho b s σ H _ I h) fun u j ζ=>?_);obtain ⟨x,k,I1,B,a,r,d,l⟩:=ζ;subst r;obtain rfl:u=Value.ref a:=B;obtain ⟨t,n,_⟩:=JfG I1 d;refine ⟨t,n,?_⟩;rw [m.trees];refine Calls.callWith_builtin rfl (Calls.evalArgs_plain (Calls.spliced_cons (thn (he b j σ k _ I1 l) fun K w ⟨y,v,I2,D,p⟩=>
  Calls.spliced_cons (thn (hf b w σ v _ I2 p) fun L J ⟨z,q,I3,C,G,g,i⟩=>Calls.spliced_nil ?_))))
 exact Jk8 hu I3 g D C fun E M I4 c=>⟨_,q,I4,c,i⟩
end
section
variable {X:Cx} {pins:List (Addr × Obj)} {σ : St} {H:Hp} {s:Shared} {a:Addr} {kvs:List (Key × V)} {A:Around} {E:Value->Shared->Prop}
end
section
variable {X:Cx} {pins:List (Addr × Obj)} {σ : St} {H:Hp} {s:Shared} {a:Addr} {y:V} {u:Value} {A:Around} {E:Value->Shared->Prop}
end
section
variable {κ : Type} [DecidableEq κ]
end
theorem ObjOk.is_there {P:Program} {w:World} {H:Hp} {h:Heap} {a:Addr} {o:HO} (x:ObjOk P w H h a o):∃ ob,h.get? a=some ob:=by
 cases o with
 | lst xs=>obtain ⟨_,_,_,_,e⟩:=x;exact ⟨_,e⟩
 | tup xs=>obtain ⟨_,_,_,p⟩:=x;obtain ⟨o,e,_⟩:=p;exact ⟨_,e⟩
 | dK kvs=>obtain ⟨_,_,_,_,o,_,_,e,_⟩:=x;exact ⟨_,e⟩
 | dT kvs=>obtain ⟨_,_,_,_,o,_,_,e,_⟩:=x;exact ⟨_,e⟩
 | set S n=>
  obtain ⟨o,_,_,_,e,_⟩:=x;exact ⟨_,e⟩
 | ins C dx fs=>obtain ⟨_,_,_,e,_⟩:=x;exact ⟨_,e⟩
 | own y=>exact x
 | xd fs=>obtain ⟨b,n,_⟩:=x;obtain ⟨c,e,_⟩:=JfJ n;exact ⟨_,e⟩
 | rng lo hi=>obtain ⟨_,_,_,e⟩:=x;exact ⟨_,e⟩
 | frz ob u=>exact ⟨_,x.1⟩
 | tbl ps=>exact ⟨_,x⟩
 | met f y=>exact ⟨_,x⟩
 | ext φ=>exact x.2.1
theorem HOk.isnone {P:Program} {w:World} {H:Hp} {h:Heap} {a:Addr} (x:HOk P w H h) (e:h.get? a=none):H a=none:=by
 cases q:H a with
 | none=>rfl
 | some u=>
  obtain ⟨b,z⟩:=(x a u q).is_there;rw [e] at z;cases z
structure Fly (l:List Env) (H':Hp) (h0:Heap) (ea:Addr) (cls a0:Value) (B h:Heap):Prop where
 fly:Heap.FlyingW B l ea cls a0 h
 free:H' ea=none
 new:h0.get? ea=none
 kept:∀ b o,h.get? b=some o->((∃ o',h0.get? b=some o')\/∃ u,H' b=some u)->b∉frs l->B.get? b=some o
def CX1 (P:Program) (w:World):CXT:=fun outer H s E e s'=>
 ∃ (ea:Addr) (cls a0:Value) (B:Heap) (H':Hp),e=.ref ea/\s'.os=s.os/\AllBare s'.gens/\Un (frs outer) [] H H' s.heap s'.heap/\HOk P w H' s'.heap /\
  Fly outer H' s.heap ea cls a0 B s'.heap/\E cls none H'
section
variable {P:Program} {w:World} {l l':List Env} {H H':Hp} {h0 h h' B:Heap} {ea:Addr} {cls a0:Value}
theorem Fly.next (u:Un (frs l) [] H H' h0 h) (hok:HOk P w H' h) (F:Fly l H' h0 ea cls a0 B h) (fr:∀ b∈frs l,H' b=none) (k:B.StaysIn h') (sl:h.UpToSlots h') :
  HOk P w H' h'/\Un (frs l) [] H H' h0 h'/\∀ b o,h.get? b=some o->((∃ o',h0.get? b=some o')\/∃ u,H' b=some u)->b∉frs l->h'.get? b=some o:=by
 have c:∀ b o,h.get? b=some o->((∃ o',h0.get? b=some o')\/∃ u,H' b=some u)->b∉frs l->h'.get? b=some o:=fun b o q r n=>k b o (F.kept b o q r n);have d:∀ b o,b∈frs l->h.get? b=some o->∃ g,h'.get? b=some { o with slots:=g }:=fun b o m q=>by
  obtain ⟨_,o',p,x⟩:=F.fly.2.2.1.mem m;rw [q] at p;cases p;exact sl b o q x
 refine ⟨fun a o e=>?_,⟨fun b o q n t _=>?_,fun b o q n m _=>?_,u.free,fun b o q z=>?_,u.tups,u.frzs,u.tbls⟩,c⟩
 ·have s:∀ b u,H' b=some u->b∉frs l:=fun b u q m=>by
   rw [fr b m] at q;cases q
  refine (hok a o e).stay (fun b v f q=>?_) (fun _ r=>r) (fun _ _ r=>r);rcases f with rfl | f
  ·exact c _ _ q (.inr ⟨_,e⟩) (s _ _ e)
  ·exact c _ _ q (.inr ⟨_,f⟩) (s _ _ f)
 ·exact c b o (u.keep b o q n t (by simp)) (.inl ⟨o,q⟩) t
 ·obtain ⟨y,i⟩:=u.slot b o q n m (by simp);obtain ⟨g,j⟩:=d b _ m i;exact ⟨g,j⟩
 ·obtain ⟨o',i⟩:=u.there b o q (by simp);by_cases m:b∈frs l
  ·obtain ⟨g,j⟩:=d b _ m i;exact ⟨_,j⟩
  ·exact ⟨o',c b o' i (.inl ⟨o,q⟩) m⟩
end
section
variable {X:Cx} {pins:List (Addr × Obj)} {σ : St} {H H':Hp} {s:Shared} {h h' B:Heap} {ea:Addr} {cls a0:Value}
theorem Inv.out (I:Inv X pins σ H s) (hex:X.ex=[]) (u:Un (frs X.stack) [] H H' s.heap h'):Un X.fs [] X.H₀ H' X.s₀.heap h':=by
 have J:=I.base;rw [hex] at J;have r:∀ b o,X.s₀.heap.get? b=some o->b≠X.env.locals:=fun b o q z=>by
  have g:=Heap.lt_size q;have l:=I.ok.above;rw [z] at g;exact absurd (Nat.lt_of_lt_of_le g l) (Nat.lt_irrefl _)
 have j:∀ b o,X.s₀.heap.get? b=some o->b∉X.fs->b∉frs X.stack:=fun b o q c m=>by
  rcases mem_cons.mp (I.stkSub b m) with z | z
  ·exact r b o q z
  ·exact c z
 refine ⟨fun b o q n c _=>?_,fun b o q n m _=>?_,fun b o q n _=>?_,fun b o q _=>?_,fun b f q=>u.tups b f (J.tups b f q),fun b o v q=>u.frzs b o v (J.frzs b o v q),fun b p q=>?_⟩
 ·exact u.keep b o (J.keep b o q n c (by simp)) (J.free b o q n (by simp)) (j b o q c) (by simp)
 ·obtain ⟨t,a⟩:=J.slot b o q n m (by simp);obtain ⟨k,e⟩:=u.any a (J.free b o q n (by simp)) (by simp);exact ⟨k,e⟩
 ·obtain ⟨d,a⟩:=J.there b o q (by simp);exact u.free b d a (J.free b o q n (by simp)) (by simp)
 ·obtain ⟨d,a⟩:=J.there b o q (by simp);exact u.there b d a (by simp)
 ·obtain ⟨i,a⟩:=J.tbls b p q;obtain ⟨h,e⟩:=u.tbls b _ a;exact ⟨i++h,by rw [e,Array.append_assoc]⟩
theorem Inv.stkFree' (I:Inv X pins σ H s) (u:Un (frs X.stack) [] H H' s.heap h):∀ b∈frs X.stack,H' b=none:=fun b m=>by
 obtain ⟨_,o,q,_⟩:=I.stack.mem m;exact u.free b o q (I.stkFree b m) (by simp)
end
section
variable {P:Program} {w:World} {K:W.Frag} {mg:Str->Option Value} {base:Heap} {N:List Str} {qual:Str} {scope:Scope} {f:Addr} {cdv:Value} {A:Around} {outer:List Env} {s0:Shared} {H0:Hp} {E:XK}
theorem pass1:JbX (CX1 P w) (cxOf (CX1 P w) P w K mg base N qual scope f cdv A outer s0 H0 E) E:=by
 intro G σ H s e t I L;obtain ⟨i,cls,a0,B,D,rfl,n,T,u,k,F,O⟩:=L;have C:=I.stkFree' u;show wpAny (model P w) (A.deeper (envOfC qual scope s0.heap.objs.size f cdv)) (leaving (envOfC qual scope s0.heap.objs.size f cdv) (.ref i)) (fun _ g=>CX1 P w outer H0 s0 E (.ref i) g) (fun R g=>CX1 P w outer H0 s0 E R g) t;refine wpAny_leaves_onW (base:=B) (cls:=cls) (a0:=a0) I.ok.frames rfl F.fly fun U h p=>?_;obtain ⟨l,Q,X⟩:=F.next u k C h.1 p;have j:s0.heap.get? i=none:=by
  cases q:s0.heap.get? i with
  | none=>rfl
  | some o=>
   obtain ⟨a,S⟩:=I.base.there i o q (by intro z;cases z);have:=F.new;rw [S] at this;cases this
 refine ⟨i,cls,a0,B,D,rfl,n.trans I.os,T,I.out rfl Q,l,⟨h,F.free,j,fun b o q r W=>?_⟩,O⟩;have V:b≠s0.heap.objs.size:=fun z=>by
  rcases r with ⟨a,c⟩ | ⟨v,c⟩
  ·have:=Heap.lt_size c;rw [z] at this;exact absurd this (Nat.lt_irrefl _)
  ·have J:=C s0.heap.objs.size (by
    show s0.heap.objs.size∈frs (envOfC qual scope s0.heap.objs.size f cdv::outer);exact List.mem_filterMap.mpr ⟨_,mem_cons_self ..,rfl⟩)
   rw [z,J] at c;cases c
 have M:b∉frs (envOfC qual scope s0.heap.objs.size f cdv::outer):=fun m=>by
  rcases mem_cons.mp (I.stkSub b m) with z | z
  ·exact V z
  ·exact W z
 have x:(∃ a,s.heap.get? b=some a)\/∃ v,D b=some v:=by
  rcases r with ⟨a,c⟩ | r
  ·exact .inl (I.base.there b a c (by intro z;cases z))
  ·exact .inr r
 have d:∃ a,t.heap.get? b=some a:=by
  rcases x with ⟨a,c⟩ | ⟨v,c⟩
  ·exact u.there b a c (by simp)
  ·exact (k b v c).is_there
 obtain ⟨a,c⟩:=d;have z:=F.kept b a c x M;have y:=h.1 b a z;rw [show U.get? b=some o from q] at y;cases y;exact z
end
theorem passF {P:Program} {w:World} {X:Cx}:JbX (CX1 P w) X E0:=fun _ _ _ _ _ _ _ h=>by
 obtain ⟨_,_,_,_,_,_,_,_,_,_,_,z⟩:=h;exact False.elim z
theorem Jkd {K:W.Frag} {h:Heap} {C:Addr} {bmB:List Value} {newId:String} (X:K.In h) (q:W.excIn K C bmB newId=true) :
  ∃ (bm:List Value) (N:Addr) (nm qn:Str) (bs:List Value) (hdct:Bool) (sn:List Str) (sub:List Value) (ab:Bool) (col:Option Bool) (dd:Option Addr) (k0 k1 k2 k3 k5:Option Value) (mN:Str->Option Value),
   h.get? C=some (excClassObj nm qn C N bs bm hdct sn sub ab col dd k0 k1 k2 k3 k5 newId)/\h.Ns N mN/\mN "__init__"=none/\OwnTail h bmB bm:=by
 unfold W.excIn at q;split at q
 next dd cd sl ho=>
  split at q
  next C' bm k0 k1 k2 k3 n k5 hm hs=>
   have i:((((C'=C/\n=newId)/\cd.hasDel=false)/\W.tailIn K bmB bm=true)/\W.nsOkIn K cd.ns=true)/\W.nsIn K cd.ns "__init__"=some none:=by simpa using q
   obtain ⟨⟨⟨⟨⟨m,f⟩,o⟩,j⟩,e⟩,l⟩:=i;obtain ⟨nm,bs,c,g,qn,k,sn,sub,ab,col,a⟩:=cd;have p:sl=#[k0,k1,k2,k3,some (.builtin n),k5]:=by
    cases sl;exact congrArg Array.mk hs
   subst m;subst f;subst p;have d:c=.ref C'::bm:=hm;subst d;have b:a=false:=o;subst b;exact ⟨bm,g,nm,qn,bs,k,sn,sub,ab,col,dd,k0,k1,k2,k3,k5,_,X _ _ ho, .of_isNs (W.isNs_of_in X e),W.nsMap_none_of_in X e l,W.tail_of_in X j⟩
  next=>cases q
 next=>cases q
section
variable {P:Program} {w:World} {K:W.Frag} {mg:Str->Option Value} {base:Heap} {N:List Str} {qual:Str} {scope:Scope} {f:Addr} {cdv:Value} {A:Around} {outer:List Env} {s0:Shared} {H0:Hp} {E:XK}
theorem Jlj {pins:List (Addr × Obj)} {σ : St} {H:Hp} {s:Shared} {h':Heap} {e:Addr} {cls:Value} {us:List Value}
  (I:Inv (cxOf (CX1 P w) P w K mg base N qual scope f cdv A outer s0 H0 E) pins σ H s) (hm:Heap.MadeExcOf s.heap h' e cls us) (q:E cls none H) :
  (cxOf (CX1 P w) P w K mg base N qual scope f cdv A outer s0 H0 E).xe (.ref e) { s with heap:=h' }:=by
 show wpAny (model P w) (A.deeper (envOfC qual scope s0.heap.objs.size f cdv)) (leaving (envOfC qual scope s0.heap.objs.size f cdv) (.ref e)) (fun _ i=>CX1 P w outer H0 s0 E (.ref e) i) (fun U i=>CX1 P w outer H0 s0 E U i) { s with heap:=h' };have S:=I.stkFree;have J:∀ j∈(envOfC qual scope s0.heap.objs.size f cdv::outer), ∀ b,j.frame=some b->b∈frs (envOfC qual scope s0.heap.objs.size f cdv::outer):=fun j T b x=>List.mem_filterMap.mpr ⟨j,T,x⟩;refine wpAny_leaves_madeW (base:=W.hideAll s.heap (frs (envOfC qual scope s0.heap.objs.size f cdv::outer))) (h:=s.heap) (cls:=cls) (args:=us) I.ok.frames rfl (fun b o z=>W.of_hideAll _ z) (W.funFrames_hide I.stack J) hm fun D t B _ _ C=>?_;have k:H e=none:=I.hok.isnone hm.new;have c:∀ b o,s.heap.get? b=some o->b∉frs (envOfC qual scope s0.heap.objs.size f cdv::outer)->D.get? b=some o:=fun b o z n=>B.1 b o (W.hideAll_get _ z n);have u:Un (frs (envOfC qual scope s0.heap.objs.size f cdv::outer)) [] H H s.heap D:=by
  refine ⟨fun b o z _ n _=>c b o z n,fun b o z _ m _=>?_,fun _ _ _ n _=>n,fun b o z _=>?_,fun _ _ z=>z,fun _ _ _ z=>z,fun _ Z z=>⟨#[],by rw [z];simp⟩⟩
  ·obtain ⟨_,g,d,L⟩:=I.stack.mem m;rw [z] at d;cases d;exact C b o (hm.keeps b o z) L
  ·by_cases m:b∈frs (envOfC qual scope s0.heap.objs.size f cdv::outer)
   ·obtain ⟨_,g,d,L⟩:=I.stack.mem m;rw [z] at d;cases d;obtain ⟨Y,Q⟩:=C b o (hm.keeps b o z) L;exact ⟨_,Q⟩
   ·exact ⟨o,c b o z m⟩
 have F:∀ b v,H b=some v->b∉frs (envOfC qual scope s0.heap.objs.size f cdv::outer):=fun b v z m=>by
  rw [S b m] at z;cases z
 have G:HOk P w H D:=fun a o z=>by
  refine (I.hok a o z).stay (fun b v x p=>?_) (fun _ r=>r) (fun _ _ r=>r);rcases x with rfl | x
  ·exact c _ _ p (F _ _ z)
  ·exact c _ _ p (F _ _ x)
 have l:s0.heap.get? e=none:=by
  cases z:s0.heap.get? e with
  | none=>rfl
  | some o=>
   obtain ⟨g,V⟩:=I.base.there e o z (by intro z;cases z);have:=hm.new;rw [V] at this;cases this
 refine ⟨e,cls, .ref t,_,H,rfl,I.os,I.bare,I.out rfl u,G,⟨B,k,l,fun b o z r X=>?_⟩,q⟩;have R:∃ g,s.heap.get? b=some g:=by
  rcases r with ⟨g,d⟩ | ⟨v,d⟩
  ·exact I.base.there b g d (by intro z;cases z)
  ·exact (I.hok b v d).is_there
 have M:b∉frs (envOfC qual scope s0.heap.objs.size f cdv::outer):=fun m=>by
  rcases mem_cons.mp (I.stkSub b m) with y | y
  ·rcases r with ⟨g,d⟩ | ⟨v,d⟩
   ·have O:=Heap.lt_size d;rw [y] at O;exact absurd O (Nat.lt_irrefl _)
   ·exact F b v d m
  ·exact X y
 obtain ⟨g,d⟩:=R;have p:=c b g d M;rw [show D.get? b=some o from z] at p;cases p;exact W.hideAll_get _ d M
def JjS (E:XK) (C:Addr) (ta:TA):TS:=fun _ σ H=>ta σ H fun vs H1=>vs.length<=sizeLine/\E (.ref C) none H1
theorem Jb0 {x:Str} {np cpos pos:Pos} {e:Expr} {es:List Expr} {C:Addr} {B newId initId:String} {bmB:List Value} {ta:TA} (FB:ExcBaseFacts B newId initId bmB) (hx:W.excIn K C bmB newId=true)
  (hg:Gl (cxOf (CX1 P w) P w K mg base N qual scope f cdv A outer s0 H0 E) x) (hm:mg x=some (.ref C)) (ha:PA (cxOf (CX1 P w) P w K mg base N qual scope f cdv A outer s0 H0 E) (e::es) ta)
  (he:starEach (e::es) (envOfC qual scope s0.heap.objs.size f cdv)=(false,eval e (envOfC qual scope s0.heap.objs.size f cdv))::starEach es (envOfC qual scope s0.heap.objs.size f cdv):=by rfl)
  (hpl:(backTo cpos (starEach es (envOfC qual scope s0.heap.objs.size f cdv))).any (·.1)=false:=by rfl) (hdb:(x == ("__debug__" : Str))=false:=by decide) :
  PS (cxOf (CX1 P w) P w K mg base N qual scope f cdv A outer s0 H0 E) (.Raise (some (.Call (.Name x np) (e::es) [] cpos)) none pos) (JjS E C ta):=by
 intro a s σ H D I h;obtain ⟨bm,m,nm,k,bs,hdct,sn,sub,ab,col,dd,k0,k1,k2,k3,k5,mN,j,g,b,T⟩:=Jkd I.mod.kin hx;have i:(A.deeper (envOfC qual scope s0.heap.objs.size f cdv)).handled=none:=I.ok.hd rfl;refine wpAny_Raise_call_subT (C:=C) (nm:=nm) (q:=k) (N:=m) (bs:=bs) (bm:=bm) (hdct:=hdct) (sn:=sn) (sub:=sub) (ab:=ab) (col:=col) (dd:=dd) (k0:=k0) (k1:=k1) (k2:=k2) (k3:=k3) (k5:=k5)
  FB (mN:=mN) (T.hasType FB.hasBase) i ?_ b (Jdp I hg hm ⟨rfl,?_⟩ hdb)
 ·show (backTo cpos (starEach (e::es) (envOfC qual scope s0.heap.objs.size f cdv))).any (·.1)=false;rw [he];show (false||(backTo cpos (starEach es (envOfC qual scope s0.heap.objs.size f cdv))).any (·.1))=false;rw [hpl];rfl
 ·have z:=ha cpos a s σ H _ I h;show wpAny _ _ (evalArgs (.ref C) true (backTo cpos (starEach (e::es) (envOfC qual scope s0.heap.objs.size f cdv))) []) _ _ _;have d:=he;rw [he];refine Calls.evalArgs_plain ?_;have c:wpAny (model P w) (A.deeper (envOfC qual scope s0.heap.objs.size f cdv)) (spliced (backTo cpos (starEach (e::es) (envOfC qual scope s0.heap.objs.size f cdv)))) _ _ s:=z;rw [he] at c;refine thn c fun o p ζ=>?_;obtain ⟨u,n,I1,r,l,q⟩:=ζ;exact ⟨rfl,by rw [<- r.length];exact l,I1.bk _ _ j,g.keeps I1.bk,T.keeps I1.bk,fun t e hm=>Jlj I1 hm q⟩
end
def xCall (sp:Sp) (dvs:List V) (t:TA):St->Hp->VK->XK->Prop:=fun σ H Q E=>t σ H fun vs H1=>sp (vs++dvs) H1 Q E
section
variable {X:Cx} {k:Nat} {f C:Addr} {fd:FuncData} {ps:List Str} {sp:Sp} {dvs:List V} {ds:List Value} {E:XK} {x m:Str} {p pos apos:Pos} {e o:Expr} {es:List Expr} {ta:TE} {t:TA}
end
section
variable {X:Cx} {pins:List (Addr × Obj)} {σ : St} {H H':Hp} {s s':Shared} {h' B:Heap} {ea:Addr} {cls a0:Value}
theorem Inv.track {a:Addr} {o:HO} (I:Inv X pins σ H s) (hn:H a=none) (h1:X.s₀.heap.get? a=none) (h2:a≠X.env.locals) (h3:∀ x c,X.env.cells.lookup x=some c->c≠a) (h4:∀ p∈X.pn++pins,p.1≠a)
  (ok:ObjOk X.prog X.w (upd H a o) s.heap a o):Inv X pins σ (upd H a o) s:=by
 have d:∀ b u,H b=some u->b≠a:=fun b u q=>Jah q hn;refine ⟨I.ok,I.os,I.bare,⟨I.base.keep,I.base.slot,fun b f q n k=>?_,I.base.there,fun b i q=>?_,fun b f u q=>?_,fun b l q=>?_⟩,I.loc,I.cell,?_,fun x c e=>?_,fun p g=>?_,fun b u q=>?_,I.len⟩
 ·have : b≠a:=fun z=>by rw [z,h1] at q;cases q
  rw [Jag this];exact I.base.free b f q n k
 ·have z:=I.base.tups b i q;rw [Jag (d _ _ z)];exact z
 ·have z:=I.base.frzs b f u q;rw [Jag (d _ _ z)];exact z
 ·obtain ⟨j,z⟩:=I.base.tbls b l q;exact ⟨j,by rw [Jag (d _ _ z)];exact z⟩
 ·rw [Jag (Ne.symm h2)];exact I.free
 ·rw [Jag (h3 x c e)];exact I.freeC x c e
 ·obtain ⟨e,n,r⟩:=I.pin p g;exact ⟨e,by rw [Jag (h4 p g)];exact n,r⟩
 ·by_cases h:b=a
  ·subst h;rw [Jak] at q;cases q;exact ok
  ·rw [Jag h] at q;exact (I.hok b u q).stay (fun _ _ _ z=>z) (fun c z=>by rw [Jag (d _ _ z)];exact z) (fun c i z=>by rw [Jag (d _ _ z)];exact z)
def ExcO (e C:Addr):HO:=.ext fun h=>∃ ox vs,h.get? e=some ox/\ox.cls=.ref C/\ox.data=.fields vs
end
structure JhE (K:W.Frag) (C D:Addr):Prop where
 cl:W.hasDictIn K D=true
 ty:W.typeIn K (.ref D)=some (.type "type")
 ex:W.mroIn K D (.type "BaseException")=some true
 ab:W.mroIn K C (.ref D)=some true
section
variable {X:Cx} {ce:Expr} {epos pos hpos np:Pos} {x n:Str} {b0:Stmt} {suite:List Stmt} {D:Addr} {t:St->Hp->VK->XK->Prop} {ts:TS}
def JlM (K:W.Frag) (D:Addr) (i:Nat) (t:St->Hp->VK->XK->Prop) (ts:TS):TS:=fun Dn σ H=>t σ H (fun _ H1=>Dn.nx σ H1) fun cls _ H1=>∃ C,cls=.ref C/\JhE K C D /\
 ∀ ea,H1 ea=none->ts { nx:=fun σ' H'=>Dn.nx (σ'.set i none) H',rt:=Dn.rt,bk:=fun σ' H'=>Dn.bk (σ'.set i none) H',ct:=fun σ' H'=>Dn.ct (σ'.set i none) H' } (σ.set i (some (.ref ea))) (upd H1 ea (ExcO ea C))
end
inductive D where
 | non | bl (b:Bool) | int (i:Int) | str (x:Str) | tup (xs:List D) | lst (xs:List D)
mutual
def Rep (K:W.Frag) (H:Hp):D->V->Prop
 | .non,v=>v=.non
 | .bl b,v=>v=.bl b
 | .int i,v=>v=.int i
 | .str x,v=>v=.str x
 | .tup ds,v=>∃ a xs,v=.ref a/\SqT K H a xs/\RepL K H ds xs
 | .lst ds,v=>∃ a xs,v=.ref a/\SqL K H a xs/\RepL K H ds xs
def RepL (K:W.Frag) (H:Hp):List D->List V->Prop
 | [],vs=>vs=[]
 | d::ds,vs=>∃ v r,vs=v::r/\Rep K H d v/\RepL K H ds r
end
mutual
def eqD:D->D->Bool
 | .non, .non=>true
 | .bl a, .bl b=>a == b
 | .int a, .int b=>a == b
 | .bl a, .int b=>(if a then 1 else 0) == b
 | .int a, .bl b=>a == (if b then 1 else 0)
 | .str a, .str b=>a == b
 | .tup xs, .tup ys=>eqL xs ys
 | .lst xs, .lst ys=>eqL xs ys
 | _,_=>false
def eqL:List D->List D->Bool
 | [],[]=>true
 | x::xs,y::ys=>eqD x y&&eqL xs ys
 | _,_=>false
end
mutual
def depD:D->Nat
 | .tup xs=>depL xs+1
 | .lst xs=>depL xs+1
 | _=>0
def depL:List D->Nat
 | []=>0
 | x::xs=>max (depD x) (depL xs)
end
theorem JeJ:∀ {xs ys:List D},eqL xs ys=true->xs.length=ys.length
 | [],[],_=>rfl
 | [],_::_,h=>by simp [eqL] at h
 | _::_,[],h=>by simp [eqL] at h
 | x::xs,y::ys,h=>by
  simp only [eqL,Bool.and_eq_true] at h;simp only [length_cons,JeJ h.2]
mutual
theorem JdL:∀ d:D,eqD d d=true
 | .non=>by simp [eqD]
 | .bl b=>by simp [eqD]
 | .int i=>by simp [eqD]
 | .str x=>by simp [eqD]
 | .tup xs=>by simp only [eqD];exact JeY xs
 | .lst xs=>by simp only [eqD];exact JeY xs
theorem JeY:∀ d:List D,eqL d d=true
 | []=>by simp [eqL]
 | x::xs=>by simp only [eqL,Bool.and_eq_true];exact ⟨JdL x,JeY xs⟩
end
theorem RepL.length {K:W.Frag} {H:Hp}:∀ {ds:List D} {vs:List V},RepL K H ds vs->ds.length=vs.length
 | [],vs,h=>by
  simp only [RepL] at h;rw [h];rfl
 | d::ds,vs,h=>by
  simp only [RepL] at h;obtain ⟨v,r,rfl,_,h2⟩:=h;simp only [length_cons,RepL.length h2]
theorem RepL.get {K:W.Frag} {H:Hp}:∀ {ds:List D} {vs:List V} {i:Nat} {d:D},RepL K H ds vs->ds[i]?=some d->∃ v,vs[i]?=some v/\Rep K H d v
 | [],_,_,_,_,e=>by simp at e
 | d::ds,vs,i,d',h,e=>by
  simp only [RepL] at h;obtain ⟨v,r,rfl,h1,h2⟩:=h;cases i with
  | zero=>simp at e;subst e;exact ⟨v,rfl,h1⟩
  | succ i=>
   obtain ⟨v',e',h'⟩:=RepL.get h2 (by simpa using e);exact ⟨v',by simpa using e',h'⟩
theorem SqL.same {K:W.Frag} {H H':Hp} {a:Addr} {xs:List V} (e:Same H H') (h:SqL K H a xs):SqL K H' a xs:=e.seq h
theorem SqT.same {K:W.Frag} {H H':Hp} {a:Addr} {xs:List V} (e:Same H H') (h:SqT K H a xs):SqT K H' a xs:=by
 rcases h with (h | ⟨o,h⟩) | h
 ·exact .inl (.inl (e _ _ h))
 ·exact .inl (.inr ⟨o,e _ _ h⟩)
 ·exact .inr h
mutual
theorem Rep.same {K:W.Frag} {H H':Hp} (e:Same H H'):∀ {d:D} {v:V},Rep K H d v->Rep K H' d v
 | .non,_,h=>by simpa only [Rep] using h
 | .bl _,_,h=>by simpa only [Rep] using h
 | .int _,_,h=>by simpa only [Rep] using h
 | .str _,_,h=>by simpa only [Rep] using h
 | .tup ds,_,h=>by
  simp only [Rep] at h ⊢;obtain ⟨a,xs,h1,h2,h3⟩:=h;exact ⟨a,xs,h1,h2.same e,RepL.same e h3⟩
 | .lst ds,_,h=>by
  simp only [Rep] at h ⊢;obtain ⟨a,xs,h1,h2,h3⟩:=h;exact ⟨a,xs,h1,h2.same e,RepL.same e h3⟩
theorem RepL.same {K:W.Frag} {H H':Hp} (e:Same H H'):∀ {d:List D} {v:List V},RepL K H d v->RepL K H' d v
 | [],_,h=>by simpa only [RepL] using h
 | x::xs,_,h=>by
  simp only [RepL] at h ⊢;obtain ⟨v,r,h1,h2,h3⟩:=h;exact ⟨v,r,h1,Rep.same e h2,RepL.same e h3⟩
end
section
variable {X:Cx} {pins:List (Addr × Obj)} {σ : St} {H:Hp} {s:Shared}
theorem Inv.list_tuple (I:Inv X pins σ H s) {a:Addr} {xs ys:List V} (h:SqL X.K H a xs) (h':SqT X.K H a ys):False:=by
 obtain ⟨_,_,p,_⟩:=I.list h;obtain ⟨_,_,q,_⟩:=I.tuple h';obtain ⟨o,_,d,e,_⟩:=p;obtain ⟨f,c,b,_⟩:=q;rw [d] at c;cases c;rw [e] at b;exact absurd b ⋯
mutual
theorem Inv.rep_inj (I:Inv X pins σ H s):∀ {d e:D} {v:V},Rep X.K H d v->Rep X.K H e v->d=e
 | .non,e,v,h,h'=>by
  simp only [Rep] at h;subst h;cases e <;> simp [Rep] at h' ⊢
 | .bl _,e,v,h,h'=>by
  simp only [Rep] at h;subst h;cases e <;> simp [Rep] at h' ⊢
  exact h'
 | .int _,e,v,h,h'=>by
  simp only [Rep] at h;subst h;cases e <;> simp [Rep] at h' ⊢
  exact h'
 | .str _,e,v,h,h'=>by
  simp only [Rep] at h;subst h;cases e <;> simp [Rep] at h' ⊢
  exact h'
 | .tup ds,e,v,h,h'=>by
  simp only [Rep] at h;obtain ⟨a,xs,rfl,h2,h3⟩:=h;cases e with
  | tup es=>
   simp only [Rep] at h';obtain ⟨a',ys,q,g2,g3⟩:=h';cases q;have:=I.tuple_inj h2 g2;subst this;rw [Inv.repL_inj I h3 g3]
  | lst es=>
   simp only [Rep] at h';obtain ⟨a',ys,q,g2,g3⟩:=h';cases q;exact (I.list_tuple g2 h2).elim
  | _=>simp [Rep] at h'
 | .lst ds,e,v,h,h'=>by
  simp only [Rep] at h;obtain ⟨a,xs,rfl,h2,h3⟩:=h;cases e with
  | lst es=>
   simp only [Rep] at h';obtain ⟨a',ys,q,g2,g3⟩:=h';cases q;have:=I.list_inj h2 g2;subst this;rw [Inv.repL_inj I h3 g3]
  | tup es=>
   simp only [Rep] at h';obtain ⟨a',ys,q,g2,g3⟩:=h';cases q;exact (I.list_tuple h2 g2).elim
  | _=>simp [Rep] at h'
theorem Inv.repL_inj (I:Inv X pins σ H s):∀ {d e:List D} {v:List V},RepL X.K H d v->RepL X.K H e v->d=e
 | [],e,v,h,h'=>by
  simp only [RepL] at h;subst h;cases e <;> simp [RepL] at h' ⊢
 | x::xs,e,v,h,h'=>by
  simp only [RepL] at h;obtain ⟨u,r,rfl,h1,h2⟩:=h;cases e with
  | nil=>simp [RepL] at h'
  | cons y ys=>
   simp only [RepL] at h';obtain ⟨u',r',q,g1,g2⟩:=h';cases q;rw [Inv.rep_inj I h1 g1,Inv.repL_inj I h2 g2]
end
end
def JcI {α β : Type} (f : α->β->Bool):List α->List β->Bool
 | [],[]=>true
 | x::xs,y::ys=>f x y&&JcI f xs ys
 | _,_=>false
def atB {α β : Type} (f : α->β->Bool) (xs:List α) (ys:List β) (j:Nat):Bool:=match xs[j]?,ys[j]? with
 | some x,some y=>f x y
 | _,_=>true
theorem JcJ {α β : Type} (f : α->β->Bool):∀ (xs:List α) (ys:List β),
  ((List.range (min xs.length ys.length)).all (atB f xs ys)&&(xs.length == ys.length))=JcI f xs ys
 | [],[]=>by simp [JcI]
 | [],_::_=>by simp [JcI]
 | _::_,[]=>by simp [JcI]
 | x::xs,y::ys=>by
  have ih:=JcJ f xs ys;simp only [JcI,length_cons];rw [<- ih,Nat.succ_min_succ,List.range_succ_eq_map,List.all_cons,List.all_map];have e:((List.range (min xs.length ys.length)).all (atB f (x::xs) (y::ys) ∘ Nat.succ))=(List.range (min xs.length ys.length)).all (atB f xs ys):=by
   congr 1
  rw [e];have e0:atB f (x::xs) (y::ys) 0=f x y:=by unfold atB;simp
  rw [e0,Bool.and_assoc]
  congr 2
  simp
theorem Jge:∀ xs ys:List D,eqL xs ys=JcI eqD xs ys
 | [],[]=>by simp [eqL,JcI]
 | [],_::_=>by simp [eqL,JcI]
 | _::_,[]=>by simp [eqL,JcI]
 | x::xs,y::ys=>by simp only [eqL,JcI,Jge xs ys]
theorem JgN:∀ {ds:List D} {d:D},d∈ds->depD d<=depL ds
 | [],_,h=>by simp at h
 | x::xs,d,h=>by
  simp only [depL];rcases mem_cons.mp h with rfl | h
  ·exact Nat.le_max_left ..
  ·exact Nat.le_trans (JgN h) (Nat.le_max_right ..)
def flatD:D->Bool
 | .tup _=>false
 | .lst _=>false
 | _=>true
def valD:D->V
 | .bl b=>.bl b
 | .int i=>.int i
 | .str x=>.str x
 | _=>.non
theorem Jfe {K:W.Frag} {H:Hp} {d:D} {v:V} (f:flatD d=true) (h:Rep K H d v):v=valD d:=by
 cases d <;> simp_all [flatD,Rep,valD]
theorem JgR {d:D} (f:flatD d=true):flatV (valD d)=true:=by
 cases d <;> simp_all [flatD,valD,flatV]
theorem Jkc {d e:D} (f:flatD d=true) (g:flatD e=true):eqV (valD d) (valD e)=eqD d e:=by
 cases d <;> cases e <;> simp_all [flatD,valD,eqV,eqD]
section
variable {X:Cx} {pins:List (Addr × Obj)} {σ : St} {H:Hp} {s:Shared}
theorem in1_units (A:Around):A.in1.units=A.units+1:=rfl
def EqP (X:Cx) (H:Hp) (s:Shared) (n:Nat):Prop:=∀ (d e:D) (A:Around) (x y:V) (u v:Value),depD d<=n->Rep X.K H d x->Rep X.K H e y->RelV x u->RelV y v->A.units+n<cLine->SeqAt.EqAt A s u v (eqD d e)
theorem JgV {n:Nat} (ih:EqP X H s n) {ds es:List D} {xs ys:List V} {its jts:List Value} (h3:RepL X.K H ds xs) (g3:RepL X.K H es ys) (vi:Vals xs its) (vj:Vals ys jts) (hds:depL ds<=n) {A:Around} (hA:A.units+n<cLine) :
  ∀ j (p1:j<its.toArray.size) (p2:j<jts.toArray.size),SeqAt.EqAt A s its.toArray[j] jts.toArray[j] (atB eqD ds es j):=by
 intro j p1 p2;have g:its.length=ds.length:=by rw [h3.length,vi.length]
 have f:jts.length=es.length:=by rw [g3.length,vj.length]
 have a:j<ds.length:=by rw [<- g];simpa using p1
 have b:j<es.length:=by rw [<- f];simpa using p2
 obtain ⟨u,p,h⟩:=h3.get (List.getElem?_eq_getElem a);obtain ⟨v,d,m⟩:=g3.get (List.getElem?_eq_getElem b);obtain ⟨i,k,c⟩:=vi.get p;obtain ⟨t,q,l⟩:=vj.get d;have r:its.toArray[j]=i:=by
  have:=k;rw [List.getElem?_eq_getElem (by simpa using p1)] at this;simpa using this
 have e:jts.toArray[j]=t:=by
  have:=q;rw [List.getElem?_eq_getElem (by simpa using p2)] at this;simpa using this
 rw [r,e];have o:atB eqD ds es j=eqD ds[j] es[j]:=by
  unfold atB;rw [List.getElem?_eq_getElem a,List.getElem?_eq_getElem b]
 rw [o];exact ih _ _ _ _ _ _ _ (Nat.le_trans (JgN (List.getElem_mem a)) hds) h m c l hA
theorem JlP (I:Inv X pins σ H s) {n:Nat} (ih:EqP X H s n) {ds es:List D} {a b:Addr} {xs ys:List V} (h2:SqT X.K H a xs) (h3:RepL X.K H ds xs) (g2:SqT X.K H b ys) (g3:RepL X.K H es ys) (hds:depL ds<=n) {A:Around} (hA:A.units+(n+1)<cLine) :
  SeqAt.RcAt A s (.ref a) (.ref b) (eqD (.tup ds) (.tup es))/\SeqAt.RcNeAt A s (.ref a) (.ref b) (!eqD (.tup ds) (.tup es)):=by
 obtain ⟨c,e,g,_⟩:=I.tuple h2;obtain ⟨d,i,f,_⟩:=I.tuple g2;have j:c.length=ds.length:=by rw [h3.length,e.length]
 have k:d.length=es.length:=by rw [g3.length,i.length]
 have h:=JgV ih h3 g3 e i hds (A:=A.in1) (by rw [in1_units];ac_nf);have l:eqD (.tup ds) (.tup es)=((List.range (min c.toArray.size d.toArray.size)).all (atB eqD ds es)&&c.toArray.size == d.toArray.size):=by
  simp only [eqD,Jge];rw [<- JcJ];simp only [size_toArray,j,k]
 rw [l];exact ⟨SeqAt.RcAt.tuples g f ∅ h,SeqAt.RcNeAt.tuples g f ∅ h⟩
theorem Jlk (I:Inv X pins σ H s) {n:Nat} (ih:EqP X H s n) {ds es:List D} {a b:Addr} {xs ys:List V} (h2:SqL X.K H a xs) (h3:RepL X.K H ds xs) (g2:SqL X.K H b ys) (g3:RepL X.K H es ys) (hds:depL ds<=n) {A:Around} (hA:A.units+(n+1)<cLine) :
  SeqAt.RcAt A s (.ref a) (.ref b) (eqD (.lst ds) (.lst es))/\SeqAt.RcNeAt A s (.ref a) (.ref b) (!eqD (.lst ds) (.lst es)):=by
 obtain ⟨e,k,h,_⟩:=I.list h2;obtain ⟨j,m,g,_⟩:=I.list g2;have d:e.length=ds.length:=by rw [h3.length,k.length]
 have f:j.length=es.length:=by rw [g3.length,m.length]
 have l:=JgV ih h3 g3 k m hds (A:=A.in1) (by rw [in1_units];ac_nf);by_cases c:ds.length=es.length
 ·have i:eqD (.lst ds) (.lst es)=(List.range e.toArray.size).all (atB eqD ds es):=by
   simp only [eqD,Jge];rw [<- JcJ];simp [d,c]
  rw [i];exact ⟨SeqAt.RcAt.lists h.isList g.isList (by simp [d,f,c]) ∅ l,SeqAt.RcNeAt.lists h.isList g.isList (by simp [d,f,c]) ∅ l⟩
 ·have i:eqD (.lst ds) (.lst es)=false:=by
   cases q:eqD (.lst ds) (.lst es) with
   | false=>rfl
   | true=>simp only [eqD] at q;exact absurd (JeJ q) c
  rw [i];exact ⟨SeqAt.RcAt.lists_lengths h.isList g.isList (by simp [d,f,c]) ∅,SeqAt.RcNeAt.lists_lengths h.isList g.isList (by simp [d,f,c]) ∅⟩
theorem JcW {K:W.Frag} {d:D} {x:V} (h:Rep K H d x):(flatD d=true/\x=valD d)\/(∃ ds a xs,d=.tup ds/\x=.ref a/\SqT K H a xs/\RepL K H ds xs)\/∃ ds a xs,d=.lst ds/\x=.ref a/\SqL K H a xs/\RepL K H ds xs:=by
 cases d with
 | tup ds=>simp only [Rep] at h;obtain ⟨a,xs,b,e,c⟩:=h;exact .inr (.inl ⟨ds,a,xs,rfl,b,e,c⟩)
 | lst ds=>simp only [Rep] at h;obtain ⟨a,xs,b,e,c⟩:=h;exact .inr (.inr ⟨ds,a,xs,rfl,b,e,c⟩)
 | _=>exact .inl ⟨rfl,Jfe rfl h⟩
theorem JcN (I:Inv X pins σ H s) {d e:D} {x y:V} {u v:Value} (hd:Rep X.K H d x) (he:Rep X.K H e y) (ru:RelV x u) (rv:RelV y v) (m:flatD d=!flatD e) {A:Around} (hA:A.units<cLine) :
  eqD d e=false/\SeqAt.EqAt A s u v false/\SeqAt.RcAt A s u v false/\SeqAt.RcNeAt A s u v true:=by
 rcases JcW hd with ⟨fd,rfl⟩ | ⟨ds,a,xs,rfl,rfl,h2,h3⟩ | ⟨ds,a,xs,rfl,rfl,h2,h3⟩
 ·rcases JcW he with ⟨fe,rfl⟩ | ⟨es,b,ys,rfl,rfl,g2,g3⟩ | ⟨es,b,ys,rfl,rfl,g2,g3⟩
  ·rw [fd,fe] at m;cases m
  ·obtain rfl:v=Value.ref b:=rv;obtain ⟨f,g,c,_⟩:=I.tuple g2;refine ⟨by cases d <;> simp [eqD,flatD] at fd ⊢,?_⟩;cases d <;> simp only [valD,RelV] at ru <;> first | (simp [flatD] at fd;done) | skip
   ·subst ru;exact ⟨SeqAt.EqAt.none_tuple c hA,SeqAt.RcAt.none_tuple c hA,SeqAt.RcNeAt.none_tuple c hA⟩
   ·subst ru;exact ⟨SeqAt.EqAt.bool_tuple _ c hA,SeqAt.RcAt.bool_tuple _ c hA,SeqAt.RcNeAt.bool_tuple _ c hA⟩
   ·obtain ⟨t,rfl⟩:=ru;exact ⟨SeqAt.EqAt.int_tuple _ _ c hA,SeqAt.RcAt.int_tuple _ _ c hA,SeqAt.RcNeAt.int_tuple _ _ c hA⟩
   ·obtain ⟨t,rfl⟩:=ru;exact ⟨SeqAt.EqAt.str_tuple _ _ c hA,SeqAt.RcAt.str_tuple _ _ c hA,SeqAt.RcNeAt.str_tuple _ _ c hA⟩
  ·obtain rfl:v=Value.ref b:=rv;obtain ⟨f,g,c,_⟩:=I.list g2;have c:=c.isList;refine ⟨by cases d <;> simp [eqD,flatD] at fd ⊢,?_⟩;cases d <;> simp only [valD,RelV] at ru <;> first | (simp [flatD] at fd;done) | skip
   ·subst ru;exact ⟨SeqAt.EqAt.none_list c hA,SeqAt.RcAt.none_list c hA,SeqAt.RcNeAt.none_list c hA⟩
   ·subst ru;exact ⟨SeqAt.EqAt.bool_list _ c hA,SeqAt.RcAt.bool_list _ c hA,SeqAt.RcNeAt.bool_list _ c hA⟩
   ·obtain ⟨t,rfl⟩:=ru;exact ⟨SeqAt.EqAt.int_list _ _ c hA,SeqAt.RcAt.int_list _ _ c hA,SeqAt.RcNeAt.int_list _ _ c hA⟩
   ·obtain ⟨t,rfl⟩:=ru;exact ⟨SeqAt.EqAt.str_list _ _ c hA,SeqAt.RcAt.str_list _ _ c hA,SeqAt.RcNeAt.str_list _ _ c hA⟩
 ·rcases JcW he with ⟨fe,rfl⟩ | ⟨es,b,ys,rfl,rfl,g2,g3⟩ | ⟨es,b,ys,rfl,rfl,g2,g3⟩
  ·obtain rfl:u=Value.ref a:=ru;obtain ⟨f,g,c,_⟩:=I.tuple h2;refine ⟨by cases e <;> simp [eqD,flatD] at fe ⊢,?_⟩;cases e <;> simp only [valD,RelV] at rv <;> first | (simp [flatD] at fe;done) | skip
   ·subst rv;exact ⟨SeqAt.EqAt.tuple_none c hA,SeqAt.RcAt.tuple_none c hA,SeqAt.RcNeAt.tuple_none c hA⟩
   ·subst rv;exact ⟨SeqAt.EqAt.tuple_bool _ c hA,SeqAt.RcAt.tuple_bool _ c hA,SeqAt.RcNeAt.tuple_bool _ c hA⟩
   ·obtain ⟨t,rfl⟩:=rv;exact ⟨SeqAt.EqAt.tuple_int _ _ c hA,SeqAt.RcAt.tuple_int _ _ c hA,SeqAt.RcNeAt.tuple_int _ _ c hA⟩
   ·obtain ⟨t,rfl⟩:=rv;exact ⟨SeqAt.EqAt.tuple_str _ _ c hA,SeqAt.RcAt.tuple_str _ _ c hA,SeqAt.RcNeAt.tuple_str _ _ c hA⟩
  ·simp [flatD] at m
  ·simp [flatD] at m
 ·rcases JcW he with ⟨fe,rfl⟩ | ⟨es,b,ys,rfl,rfl,g2,g3⟩ | ⟨es,b,ys,rfl,rfl,g2,g3⟩
  ·obtain rfl:u=Value.ref a:=ru;obtain ⟨f,g,c,_⟩:=I.list h2;have c:=c.isList;refine ⟨by cases e <;> simp [eqD,flatD] at fe ⊢,?_⟩;cases e <;> simp only [valD,RelV] at rv <;> first | (simp [flatD] at fe;done) | skip
   ·subst rv;exact ⟨SeqAt.EqAt.list_none c hA,SeqAt.RcAt.list_none c hA,SeqAt.RcNeAt.list_none c hA⟩
   ·subst rv;exact ⟨SeqAt.EqAt.list_bool _ c hA,SeqAt.RcAt.list_bool _ c hA,SeqAt.RcNeAt.list_bool _ c hA⟩
   ·obtain ⟨t,rfl⟩:=rv;exact ⟨SeqAt.EqAt.list_int _ _ c hA,SeqAt.RcAt.list_int _ _ c hA,SeqAt.RcNeAt.list_int _ _ c hA⟩
   ·obtain ⟨t,rfl⟩:=rv;exact ⟨SeqAt.EqAt.list_str _ _ c hA,SeqAt.RcAt.list_str _ _ c hA,SeqAt.RcNeAt.list_str _ _ c hA⟩
  ·simp [flatD] at m
  ·simp [flatD] at m
theorem seq_eq (I:Inv X pins σ H s) {n:Nat} (ih:EqP X H s n) {d e:D} {x y:V} {u v:Value} (hn:depD d<=n+1) (hd:Rep X.K H d x) (he:Rep X.K H e y) (ru:RelV x u) (rv:RelV y v) (fd:flatD d=false) (fe:flatD e=false) {A:Around} (hA:A.units+(n+1)<cLine) :
  SeqAt.EqAt A s u v (eqD d e)/\SeqAt.RcAt A s u v (eqD d e)/\SeqAt.RcNeAt A s u v (!eqD d e):=by
 have k:=hd;have j:=he;rcases JcW hd with ⟨f,_⟩ | ⟨ds,a,xs,rfl,rfl,h2,h3⟩ | ⟨ds,a,xs,rfl,rfl,h2,h3⟩
 ·rw [f] at fd;cases fd
 ·obtain rfl:u=Value.ref a:=ru;have i:depL ds<=n:=by simp only [depD] at hn;ac_nf
  rcases JcW he with ⟨f,_⟩ | ⟨es,b,ys,rfl,rfl,g2,g3⟩ | ⟨es,b,ys,rfl,rfl,g2,g3⟩
  ·rw [f] at fe;cases fe
  ·obtain rfl:v=Value.ref b:=rv;have R:=JlP I ih h2 h3 g2 g3 i hA;refine ⟨?_,R.1,R.2⟩;by_cases c:a=b
   ·subst c;rw [I.rep_inj k j,JdL];exact SeqAt.EqAt.same _
   ·exact SeqAt.EqAt.of_refs c R.1
  ·obtain rfl:v=Value.ref b:=rv;obtain ⟨l,_,h,_⟩:=I.tuple h2;obtain ⟨m,_,g,_⟩:=I.list g2;exact ⟨SeqAt.EqAt.tuple_list h g.isList ∅,SeqAt.RcAt.tuple_list h g.isList ∅,SeqAt.RcNeAt.tuple_list h g.isList ∅⟩
 ·obtain rfl:u=Value.ref a:=ru;have i:depL ds<=n:=by simp only [depD] at hn;ac_nf
  rcases JcW he with ⟨f,_⟩ | ⟨es,b,ys,rfl,rfl,g2,g3⟩ | ⟨es,b,ys,rfl,rfl,g2,g3⟩
  ·rw [f] at fe;cases fe
  ·obtain rfl:v=Value.ref b:=rv;obtain ⟨l,_,h,_⟩:=I.list h2;obtain ⟨m,_,g,_⟩:=I.tuple g2;exact ⟨SeqAt.EqAt.list_tuple h.isList g ∅,SeqAt.RcAt.list_tuple h.isList g ∅,SeqAt.RcNeAt.list_tuple h.isList g ∅⟩
  ·obtain rfl:v=Value.ref b:=rv;have R:=Jlk I ih h2 h3 g2 g3 i hA;refine ⟨?_,R.1,R.2⟩;by_cases c:a=b
   ·subst c;rw [I.rep_inj k j,JdL];exact SeqAt.EqAt.same _
   ·exact SeqAt.EqAt.of_refs c R.1
theorem Inv.eqP (I:Inv X pins σ H s):∀ n,EqP X H s n
 | 0=>fun d e A x y u v hn hd he ru rv hA=>by
  have fd:flatD d=true:=by
   cases d <;> simp [depD,flatD] at hn ⊢
  cases fe:flatD e with
  | true=>
   have ex:=Jfe fd hd;have ey:=Jfe fe he;subst ex ey;rw [<- Jkc fd fe];exact JjE ru rv (JgR fd) (JgR fe)
  | false=>
   obtain ⟨e1,e2,_⟩:=JcN I hd he ru rv (by rw [fd,fe];rfl) (A:=A) ∅;rw [e1];exact e2
 | n+1=>fun d e A x y u v hn hd he ru rv hA=>by
  cases fd:flatD d with
  | true=>
   have h0:depD d<=n:=by cases d <;> simp [depD,flatD] at fd ⊢
   exact Inv.eqP I n d e A x y u v h0 hd he ru rv ∅
  | false=>
   cases fe:flatD e with
   | true=>
    obtain ⟨e1,e2,_⟩:=JcN I hd he ru rv (by rw [fd,fe];rfl) (A:=A) ∅;rw [e1];exact e2
   | false=>exact (seq_eq I (Inv.eqP I n) hn hd he ru rv fd fe hA).1
def rEqU (K:W.Frag):R2:=fun x y H Q=>match x,y with
 | .int i, .int j=>Q (.bl (decide (i=j))) H
 | .str i, .str j=>Q (.bl (decide (i=j))) H
 | .bl i, .bl j=>Q (.bl (decide (i=j))) H
 | .non, .non=>Q (.bl true) H
 | x,y=>∃ d e,Rep K H d x/\Rep K H e y/\depD d<=50/\(flatD d&&flatD e)=false/\Q (.bl (eqD d e)) H
def rNeU (K:W.Frag):R2:=fun x y H Q=>match x,y with
 | .int i, .int j=>Q (.bl (!decide (i=j))) H
 | .str i, .str j=>Q (.bl (!decide (i=j))) H
 | .bl i, .bl j=>Q (.bl (!decide (i=j))) H
 | .non, .non=>Q (.bl false) H
 | x,y=>∃ d e,Rep K H d x/\Rep K H e y/\depD d<=50/\(flatD d&&flatD e)=false/\Q (.bl (!eqD d e)) H
theorem Jcx (hu:X.A.units+64<cLine):OpR X (compareOp .Eq) (rEqU X.K):=fun a s σ H x y v u Q I b c q=>by
 unfold rEqU at q;split at q
 ·rename_i i j;exact op_eq a s σ H _ _ v u Q I b c ⟨rfl,by rw [show decide (V.int i=V.int j)=decide (i=j) from by simp];exact q⟩
 ·rename_i i j;exact op_eq a s σ H _ _ v u Q I b c ⟨rfl,by rw [show decide (V.str i=V.str j)=decide (i=j) from by simp];exact q⟩
 ·rename_i i j;exact op_eq a s σ H _ _ v u Q I b c ⟨rfl,by rw [show decide (V.bl i=V.bl j)=decide (i=j) from by simp];exact q⟩
 ·exact op_eq a s σ H _ _ v u Q I b c ⟨rfl,by simpa using q⟩
 ·obtain ⟨d,e,g,f,m,l,q⟩:=q;show wpAny (model X.prog X.w) X.A (richCompare .Eq v u) (EP X a σ Q) X.xe s;cases fd:flatD d with
  | true=>
   cases fe:flatD e with
   | true=>rw [fd,fe] at l;cases l
   | false=>
    obtain ⟨h,_,k,_⟩:=JcN I g f b c (by rw [fd,fe];rfl) (A:=X.A) ∅;rw [h] at q;exact k _ _ _ _ ⟨V.bl _,H,I,rfl,q⟩
  | false=>
   cases fe:flatD e with
   | true=>
    obtain ⟨h,_,k,_⟩:=JcN I g f b c (by rw [fd,fe];rfl) (A:=X.A) ∅;rw [h] at q;exact k _ _ _ _ ⟨V.bl _,H,I,rfl,q⟩
   | false=>exact (seq_eq I (I.eqP 49) m g f b c fd fe ∅).2.1 _ _ _ _ ⟨V.bl _,H,I,rfl,q⟩
theorem Jdc (hu:X.A.units+64<cLine):OpR X (compareOp .NotEq) (rNeU X.K):=fun a s σ H x y v u Q I b c q=>by
 unfold rNeU at q;split at q
 ·rename_i i j;exact op_ne a s σ H _ _ v u Q I b c ⟨rfl,by rw [show decide (V.int i=V.int j)=decide (i=j) from by simp];exact q⟩
 ·rename_i i j;exact op_ne a s σ H _ _ v u Q I b c ⟨rfl,by rw [show decide (V.str i=V.str j)=decide (i=j) from by simp];exact q⟩
 ·rename_i i j;exact op_ne a s σ H _ _ v u Q I b c ⟨rfl,by rw [show decide (V.bl i=V.bl j)=decide (i=j) from by simp];exact q⟩
 ·exact op_ne a s σ H _ _ v u Q I b c ⟨rfl,by simpa using q⟩
 ·obtain ⟨d,e,g,f,m,l,q⟩:=q;show wpAny (model X.prog X.w) X.A (richCompare .NotEq v u) (EP X a σ Q) X.xe s;cases fd:flatD d with
  | true=>
   cases fe:flatD e with
   | true=>rw [fd,fe] at l;cases l
   | false=>
    obtain ⟨h,_,_,k⟩:=JcN I g f b c (by rw [fd,fe];rfl) (A:=X.A) ∅;rw [h] at q;exact k _ _ _ _ ⟨V.bl _,H,I,rfl,q⟩
  | false=>
   cases fe:flatD e with
   | true=>
    obtain ⟨h,_,_,k⟩:=JcN I g f b c (by rw [fd,fe];rfl) (A:=X.A) ∅;rw [h] at q;exact k _ _ _ _ ⟨V.bl _,H,I,rfl,q⟩
   | false=>exact (seq_eq I (I.eqP 49) m g f b c fd fe ∅).2.2 _ _ _ _ ⟨V.bl _,H,I,rfl,q⟩
end
def DivOk (j:Int):Prop:=j≠0/\j.natAbs.log2<9000
section
variable {X:Cx}
def rAddU (K:W.Frag):R2:=fun x y H Q=>match x,y with
 | .int i, .int j=>Q (.int (i+j)) H
 | .str i, .str j=>i.length+j.length<=sizeLine/\Q (.str (i++j)) H
 | .ref a, .ref b=>rCat (.ref a) (.ref b) H Q\/rCatT K (.ref a) (.ref b) H Q
 | _,_=>False
theorem Ja1:OpR X (binaryOp .Add) (rAddU X.K):=fun a s σ H x y v u Q I c b q=>by
 unfold rAddU at q;split at q
 ·exact Jlo a s σ H _ _ v u Q I c b ⟨_,_,rfl,rfl,q⟩
 ·exact Jht a s σ H _ _ v u Q I c b ⟨_,_,rfl,rfl,q.1,q.2⟩
 ·rcases q with q | q
  ·exact Jlp a s σ H _ _ v u Q I c b q
  ·exact Jky a s σ H _ _ v u Q I c b q
 ·exact q.elim
def rMulU:R2:=fun x y H Q=>match x,y with
 | .int i, .int j=>IntMulOk i j/\Q (.int (i*j)) H
 | _,_=>False
theorem JkA:OpR X (binaryOp .Mult) (rI IntMulOk fun i j=>.int (i*j)):=opI fun _ _ _ _ _ _ _ a q=>mul_int q a
theorem JkB:OpR X (binaryOp .Mult) rMulU:=fun a s σ H x y v u Q I c b q=>by
 unfold rMulU at q;split at q
 ·exact JkA a s σ H _ _ v u Q I c b ⟨_,_,rfl,rfl,q.1,q.2⟩
 ·exact q.elim
def Jiy:R2:=fun x y H Q=>match x,y with
 | .int i, .int j=>DivOk j/\Q (.int (i.fdiv j)) H
 | _,_=>False
theorem Jjg:OpR X (binaryOp .FloorDiv) (rI (fun _ j=>DivOk j) fun i j=>.int (i.fdiv j)):=opI fun _ _ _ _ _ _ _ a q=>floordiv_int a.1 q (.inl (PyProof.noPylong_of_log2 a.2))
theorem Jas:OpR X (binaryOp .FloorDiv) Jiy:=fun a s σ H x y v u Q I c b q=>by
 unfold Jiy at q;split at q
 ·exact Jjg a s σ H _ _ v u Q I c b ⟨_,_,rfl,rfl,q.1,q.2⟩
 ·exact q.elim
def rModU:R2:=fun x y H Q=>match x,y with
 | .int i, .int j=>j≠0/\Q (.int (i.fmod j)) H
 | _,_=>False
theorem JaA:OpR X (binaryOp .Mod) rModU:=fun a s σ H x y v u Q I c b q=>by
 unfold rModU at q;split at q
 ·exact Jkz a s σ H _ _ v u Q I c b ⟨_,_,rfl,rfl,q.1,q.2⟩
 ·exact q.elim
def rPowU:R2:=fun x y H Q=>match x,y with
 | .int i, .int j=>CPow i j/\Q (.int (i ^ j.toNat)) H
 | _,_=>False
theorem Jfd:OpR X (binaryOp .Pow) rPowU:=fun a s σ H x y v u Q I c b q=>by
 unfold rPowU at q;split at q
 ·exact Jlu a s σ H _ _ v u Q I c b ⟨_,_,rfl,rfl,q.1,q.2⟩
 ·exact q.elim
def rCmpU (p:Int->Int->Bool):R2:=fun x y H Q=>match x,y with
 | .int i, .int j=>Q (.bl (p i j)) H
 | _,_=>False
theorem Jgu {op:CmpOp} {p:Int->Int->Bool} (h:OpR X (compareOp op) (rI0 fun i j=>.bl (p i j))):OpR X (compareOp op) (rCmpU p):=fun a s σ H x y v u Q I c b q=>by
 unfold rCmpU at q;split at q
 ·exact h a s σ H _ _ v u Q I c b ⟨_,_,rfl,rfl,q⟩
 ·exact q.elim
theorem JeP:OpR X (compareOp .Lt) (rCmpU fun i j=>decide (i<j)):=Jgu op_lt
theorem Jg0:OpR X (compareOp .Gt) (rCmpU fun i j=>decide (j<i)):=Jgu op_gt
theorem JjK:OpR X (compareOp .GtE) (rCmpU fun i j=>decide (j<=i)):=Jgu op_ge
def SqA (K:W.Frag) (H:Hp) (a:Addr) (xs:List V):Prop:=SqL K H a xs\/SqT K H a xs
def rIxU (K:W.Frag):R2:=fun x y H Q=>match x,y with
 | .ref p, .int i=>∃ xs v,SqA K H p xs/\atI xs i=some v/\Q v H
 | .str z, .int i=>∃ c,z.length<=sizeLine/\atI z.cps.toList i=some c/\Q (.str ⟨#[c]⟩) H
 | _,_=>False
theorem ix_U:IxR X (rIxU X.K):=fun b a d s σ H x y v u Q I f i q g=>by
 unfold rIxU at q;split at q
 ·obtain ⟨l,w,h | h,e,q⟩:=q
  ·exact Jkk b a d s σ H _ _ v u Q I f i ⟨_,_,_,_,rfl,rfl,h,e,q⟩ g
  ·exact Jle b a d s σ H _ _ v u Q I f i ⟨_,_,_,_,rfl,rfl,h,e,q⟩ g
 ·obtain ⟨c,j,k,q⟩:=q;exact Jld b a d s σ H _ _ v u Q I f i ⟨_,_,_,rfl,rfl,j,k,q⟩ g
 ·exact q.elim
def rLen (K:W.Frag):List V->Hp->VK->Prop:=fun xs H Q=>match xs with
 | [.ref p]=>∃ ys,SqA K H p ys/\Q (.int ys.length) H
 | [.str z]=>z.length<=sizeLine/\Q (.int z.length) H
 | _=>False
theorem Ja8:CallR X (.builtin "len") (rLen X.K):=fun a s σ H d b Q I r q=>by
 unfold rLen at q;split at q
 ·obtain ⟨c,h,q⟩:=q;exact JfB a s σ H _ b Q I r ⟨_,_,rfl,h,q⟩
 ·exact JfC a s σ H _ b Q I r ⟨_,rfl,q.1,q.2⟩
 ·exact q.elim
def rAbs:List V->Hp->VK->Prop:=fun xs H Q=>match xs with
 | [.int i]=>Q (.int (if i<0 then -i else i)) H
 | _=>False
theorem Jc4:CallR X (.builtin "abs") rAbs:=fun a s σ H c b Q I r q=>by
 unfold rAbs at q;split at q
 ·exact Ji0 a s σ H _ b Q I r ⟨_,rfl,q⟩
 ·exact q.elim
def rMin:List V->Hp->VK->Prop:=fun xs H Q=>match xs with
 | [.int i, .int j]=>Q (.int (if j<i then j else i)) H
 | _=>False
theorem JhK (hc:X.calm=true):CallR X (.builtin "min") rMin:=fun a s σ H c b Q I r q=>by
 unfold rMin at q;split at q
 ·exact JhJ hc a s σ H _ b Q I r ⟨_,_,rfl,q⟩
 ·exact q.elim
def isiB (t T:String):Bool:=t == T||(t == "bool"&&T == "int")
def tyN (K:W.Frag) (H:Hp) (x:V) (t:String):Prop:=match x with
 | .int _=>t="int"
 | .str _=>t="str"
 | .bl _=>t="bool"
 | .non=>t="NoneType"
 | .ref a=>(t="list"/\∃ xs,SqL K H a xs)\/(t="tuple"/\∃ xs,SqT K H a xs)
 | _=>False
theorem kit_b (K:W.Frag) {t T:String} (ht:t∈["int","str","bool","NoneType","list","tuple"]) (hT:T∈["int","str","bool","list","tuple"]):W.kitOne K (.type t) (.type T)=some (isiB t T):=by
 simp only [mem_cons,not_mem_nil,or_false] at ht hT;rcases ht with rfl | rfl | rfl | rfl | rfl | rfl <;> rcases hT with rfl | rfl | rfl | rfl | rfl <;> with_unfolding_all rfl
def rIsi (K:W.Frag):List V->Hp->VK->Prop:=fun xs H Q=>match xs with
 | [x, .ty T]=>T∈["int","str","bool","list","tuple"]/\∃ t,tyN K H x t/\Q (.bl (isiB t T)) H
 | _=>False
theorem JaM:CallR X (.builtin "isinstance") (rIsi X.K):=fun g s σ H n v Q I r q=>by
 unfold rIsi at q;split at q
 ·rename_i x T;obtain ⟨e,t,d,q⟩:=q;obtain ⟨u,c,rfl,f,m⟩:=vals2 r;obtain rfl:c=Value.type T:=m;have b:∀ j,EP X g σ Q (.bool (isiB t T)) { s with toks:=j }:=fun j=>⟨V.bl _,H,I.tok j,rfl,q⟩;unfold tyN at d;split at d
  ·subst d;obtain ⟨_,rfl⟩:=f;exact W.kia_one W.kitx_int I.kIn True.intro (kit_b _ ⋯ e) (fun z=>nomatch z) b
  ·subst d;obtain ⟨_,rfl⟩:=f;exact W.kia_one W.kitx_str I.kIn True.intro (kit_b _ ⋯ e) (fun z=>nomatch z) b
  ·subst d;cases (show u=Value.bool _ from f);exact W.kia_one W.kitx_bool I.kIn True.intro (kit_b _ ⋯ e) (fun z=>nomatch z) b
  ·subst d;cases (show u=Value.none from f);exact W.kia_one W.kitx_none I.kIn True.intro (kit_b _ ⋯ e) (fun z=>nomatch z) b
  ·rename_i a;cases (show u=Value.ref a from f);rcases d with ⟨rfl,ys,h⟩ | ⟨rfl,ys,h⟩
   ·obtain ⟨i,_,p,_⟩:=I.list h;obtain ⟨o,_,k,l,_⟩:=p;exact W.kia_one W.kitx_list I.kIn ⟨o,k,l⟩ (kit_b _ ⋯ e) (fun z=>nomatch z) b
   ·obtain ⟨i,_,p,_⟩:=I.tuple h;obtain ⟨o,k,l,_⟩:=p;exact W.kia_one W.kitx_tuple I.kIn ⟨o,k,l⟩ (kit_b _ ⋯ e) (fun z=>nomatch z) b
  ·exact d.elim
 ·exact q.elim
end
section
variable {X:Cx} {tg:Expr}
def iAny (K:W.Frag) (tl:TE):TI:=fun σ H R=>tl σ H fun x H1=>∃ a,x=.ref a/\(((∃ xs,SqL K H1 a xs)/\R (Itl K a) H1)\/((∃ xs,SqT K H1 a xs)/\R (Itt K a) H1))
theorem pi_U {l:Expr} {tl:TE} (hl:PE X l tl):PI X tg l (iAny X.K tl):=fun f s σ H R I h=>by
 refine thn (hl f s σ H _ I h) fun v c ζ=>?_;obtain ⟨x,i,I1,k,a,m,q⟩:=ζ;subst m;cases k;rcases q with ⟨⟨xs,hq⟩,q⟩ | ⟨⟨xs,hq⟩,q⟩
 ·obtain ⟨d,j,p,n⟩:=I1.list hq;refine wpAny_pyIter_list p.isList ?_;refine ⟨c.heap.objs.size,[c.heap.objs.size],_,_,i,rfl,I1.kept (t':=c.toks) fun b o e=>Heap.get?_push_of_some _ e,JiR a _,⟨_,Heap.get?_push_size _ rfl,rfl,rfl⟩,fun b g=>?_,q⟩;have e:b=c.heap.objs.size:=by simpa using g
  subst e;exact I1.fpOk (Nat.le_refl _) (I1.hok.fresh (Nat.le_refl _))
 ·obtain ⟨d,j,p,n⟩:=I1.tuple hq;refine wpAny_pyIter_tuple (show c.heap.IsTuple a d.toArray from p) ?_;refine ⟨c.heap.objs.size,[c.heap.objs.size],_,_,i,rfl,I1.kept (t':=c.toks) fun b o e=>Heap.get?_push_of_some _ e,JhD a _,⟨_,Heap.get?_push_size _ rfl,rfl,rfl⟩,fun b g=>?_,q⟩;have e:b=c.heap.objs.size:=by simpa using g
  subst e;exact I1.fpOk (Nat.le_refl _) (I1.hok.fresh (Nat.le_refl _))
theorem Jkf {K:W.Frag} {a:Addr} {xs:List V} {g:TG} {tb:TS} {D:Ends} {σ : St} {H:Hp} (hA:SqA K H a xs) (Pv:Nat->St->Hp->Prop) (h0:Pv 0 σ H) (hl:∀ i σ H',i<=xs.length->Pv i σ H'->Same H H')
  (hs:∀ i x σ H,xs[i]?=some x->Pv i σ H->g x σ H fun σ2 H2=>tb { D with nx:=Pv (i+1),ct:=Pv (i+1),bk:=D.nx } σ2 H2) (hd:∀ σ H,Pv xs.length σ H->D.nx σ H) :
  ((∃ xs,SqL K H a xs)/\∃ W:Nat->Nat->St->Hp->Prop,(∃ m,W 0 m σ H)/\∀ i m σ H,W i m σ H ->
   ((Itl K a).stop i H/\D.nx σ H)\/((Itl K a).go i H/\∃ N:St->Hp->Prop,(∀ σ' H',N σ' H'->∃ m',m'<m/\W (i+1) m' σ' H')/\∀ x H',(Itl K a).yld i H x H'->g x σ H' fun σ2 H2=>tb { D with nx:=N,ct:=N,bk:=D.nx } σ2 H2)) \/
  ((∃ xs,SqT K H a xs)/\∃ W:Nat->Nat->St->Hp->Prop,(∃ m,W 0 m σ H)/\∀ i m σ H,W i m σ H ->
   ((Itt K a).stop i H/\D.nx σ H)\/((Itt K a).go i H/\∃ N:St->Hp->Prop,(∀ σ' H',N σ' H'->∃ m',m'<m/\W (i+1) m' σ' H')/\∀ x H',(Itt K a).yld i H x H'->g x σ H' fun σ2 H2=>tb { D with nx:=N,ct:=N,bk:=D.nx } σ2 H2)):=by
 rcases hA with hA | hA
 ·exact .inl ⟨⟨xs,hA⟩,Ji3 (xs:=xs) Pv h0 (fun i σ H' c b=>hA.same (hl i σ H' c b)) hs hd⟩
 ·exact .inr ⟨⟨xs,hA⟩,Jkg (xs:=xs) Pv h0 (fun i σ H' c b=>hA.same (hl i σ H' c b)) hs hd⟩
end
structure FunD (K:W.Frag) (x qual:Str) (st:Stmt) (dV:Value) (f:Addr) (fd:FuncData):Prop where
 ex:∃ (oc:Value) (od:Option Addr) (kV doc pm:Value) (an:Option Addr) (cdv ct:Value) (osl:Array (Option Value)),
  fd=W.fnOf x qual (Jam st) (Jal st) (Jae st) dV kV doc pm an cdv ct/\K.lookup f=some ⟨oc,od, .func fd,osl⟩/\W.codeIn K cdv qual=true
 kp:W.keepIn K (.ref f)=true
section
variable {P:Program} {w:World} {K:W.Frag} {mg:Str->Option Value} {base:Heap}
theorem FunD.okn {x qual:Str} {st:Stmt} {dV:Value} {f:Addr} {fd:FuncData} {N ps:List Str} {k:Nat} {sp:Sp} (F:FunD K x qual st dV f fd) (S:Jan N ps (Jae st)) (len:∀ vs H Q E,sp vs H Q E->vs.length=ps.length)
  (hbody:∀ (cdv:Value) (A:Around) (outer:List Env) (s:Shared) (H:Hp) (vs:List V) (Q:VK) (E:XK),Room k (A.deeper (envOfC qual (Jae st) s.heap.objs.size f cdv))->sp vs H Q E ->
   ∃ t,PSs (cxOf (CX1 P w) P w K mg base N qual (Jae st) f cdv A outer s H E).nox (Jal st) t/\t { nx:=fun _ H'=>Q .non H',rt:=Q } (start N vs) H):FnOk P w K mg base (CX1 P w) (k+1) f fd ps sp:=by
 obtain ⟨i,m,kV,d,l,j,cdv,n,e,rfl,g,a⟩:=F.ex;refine fn_of g a S len fun A outer s H vs Q E c b=>?_;obtain ⟨t,h,q⟩:=hbody cdv A outer s H vs Q E c b;exact ⟨t,h.nox,q⟩
theorem FunD.okx {x qual:Str} {st:Stmt} {dV:Value} {f:Addr} {fd:FuncData} {N ps:List Str} {k:Nat} {sp:Sp} (F:FunD K x qual st dV f fd) (S:Jan N ps (Jae st)) (len:∀ vs H Q E,sp vs H Q E->vs.length=ps.length)
  (hbody:∀ (cdv:Value) (A:Around) (outer:List Env) (s:Shared) (H:Hp) (vs:List V) (Q:VK) (E:XK),Room k (A.deeper (envOfC qual (Jae st) s.heap.objs.size f cdv))->sp vs H Q E ->
   ∃ t,PSs (cxOf (CX1 P w) P w K mg base N qual (Jae st) f cdv A outer s H E) (Jal st) t/\t { nx:=fun _ H'=>Q .non H',rt:=Q } (start N vs) H):FnOk P w K mg base (CX1 P w) (k+1) f fd ps sp:=by
 obtain ⟨h,l,kV,d,j,i,cdv,m,e,rfl,g,a⟩:=F.ex;exact fn_of g a S len fun A outer s H vs Q E c b=>hbody cdv A outer s H vs Q E c b
theorem FunD.binds {x qual:Str} {st:Stmt} {dV:Value} {f:Addr} {fd:FuncData} {ps:List Str} (F:FunD K x qual st dV f fd)
  (h:∀ (kV doc pm:Value) (an:Option Addr) (cdv ct:Value) (us:List Value),us.length=ps.length->bindArgs (W.fnOf x qual (Jam st) (Jal st) (Jae st) dV kV doc pm an cdv ct) ⟨us,[]⟩=pure (ps.zip us)):Binds K fd ps []:=by
 obtain ⟨e,c,kV,doc,pm,an,cdv,ct,a,rfl,d,b⟩:=F.ex;exact .all (h kV doc pm an cdv ct)
theorem Jao {x qual:Str} {st:Stmt} {dV:Value} {f:Addr} {oc:Value} {od an:Option Addr} {osl:Array (Option Value)} {kV doc pm cdv ct:Value} (l:K.lookup f=some ⟨oc,od, .func (W.fnOf x qual (Jam st) (Jal st) (Jae st) dV kV doc pm an cdv ct),osl⟩)
  (c:W.codeIn K cdv qual=true) (k:W.keepIn K (.ref f)=true):FunD K x qual st dV f (W.fnOf x qual (Jam st) (Jal st) (Jae st) dV kV doc pm an cdv ct):=⟨⟨oc,od,kV,doc,pm,an,cdv,ct,osl,rfl,l,c⟩,k⟩
end
structure Cal (P:Program) (w:World) (K:W.Frag) (mg:Str->Option Value) (base:Heap) (k:Nat) (x:Str) (ps:List Str) (dvs:List V) (sp:Sp):Prop where
 ex:∃ (f:Addr) (fd:FuncData) (ds:List Value),FnOk P w K mg base (CX1 P w) k f fd ps sp/\mg x=some (.ref f)/\W.keepIn K (.ref f)=true/\Binds K fd ps ds/\Vals dvs ds
section
variable {X:Cx} {k k':Nat} {x:Str} {ps:List Str} {dvs:List V} {sp:Sp} {E:XK} {p pos:Pos} {e:Expr} {es:List Expr} {t:TA}
theorem Cal.ev (G:Cal X.prog X.w X.K X.mg X.base k x ps dvs sp) (hr:Room k' X.A) (hk:k<=k') (hg:Gl X x) (hx:JbX (CX1 X.prog X.w) X E) (ha:PA X (e::es) t)
  (hdb:(x == ("__debug__" : Str))=false:=by decide) (he:starEach (e::es) X.env=(false,eval e X.env)::starEach es X.env:=by rfl) (hpl:(backTo pos (starEach es X.env)).any (·.1)=false:=by rfl) :
  PE X (.Call (.Name x p) (e::es) [] pos) (tCall sp dvs E t):=by
 obtain ⟨f,h,g,F,a,c,b,d⟩:=G.ex;exact JkD F (hr.mono hk) hg a c b d hx ha hdb he hpl
theorem Cal.ev0 (G:Cal X.prog X.w X.K X.mg X.base k x ps dvs sp) (hr:Room k' X.A) (hk:k<=k') (hg:Gl X x) (hx:JbX (CX1 X.prog X.w) X E) (hdb:(x == ("__debug__" : Str))=false:=by decide) :
  PE X (.Call (.Name x p) [] [] pos) (tCall sp dvs E tNil):=by
 obtain ⟨f,g,e,F,a,c,b,d⟩:=G.ex;exact Jji F (hr.mono hk) hg a c b d hx hdb
end
end L2
namespace Mth
def g (a b:Int):Int:=(Int.gcd a b:Nat)
theorem JjH (a:Int):g a 0=(a.natAbs:Int):=by unfold g;rw [Int.gcd_zero_right]
theorem g_pos {a b:Int} (h:b≠0):0<g a b:=by
 unfold g;exact Int.natCast_pos.mpr (Int.gcd_pos_of_ne_zero_right a h)
theorem Jcw (a b:Int):g a b∣a:=Int.gcd_dvd_left ..
theorem JbK (a b:Int):g a b∣b:=Int.gcd_dvd_right ..
theorem Jla (a b:Int):g b (a % b)=g a b:=by
 unfold g;rw [Int.gcd_comm b (a % b)];first
  | rw [Int.gcd_emod_left]
  | (rw [Int.emod_def];simp [Int.gcd_comm])
theorem Bd3 (a b:Int):g (if a<0 then -a else a) (if b<0 then -b else b)=g a b:=by
 unfold g;split <;> split <;> simp [Int.neg_gcd,Int.gcd_neg]
theorem JjB (a:Int):0<=(if a<0 then -a else a):=by split <;> ac_nf
theorem g_le {a b:Int} (h:b≠0):g a b<=(b.natAbs:Int):=by
 unfold g;exact Int.ofNat_le.mpr (Nat.le_of_dvd ∅ (Int.natAbs_dvd_natAbs.mpr (by simpa using Int.gcd_dvd_right (a:=a) (b:=b)) |> fun z=>by simpa using z))
theorem fm {x y:Int} (h:0<y):0<=x.fmod y/\x.fmod y<y:=by
 rw [Int.fmod_eq_emod_of_nonneg _ ∅];exact ⟨Int.emod_nonneg _ ∅,Int.emod_lt_of_pos _ h⟩
theorem JhW {x y:Int} (h:0<y):g y (x.fmod y)=g x y:=by
 rw [Int.fmod_eq_emod_of_nonneg _ ∅];exact Jla x y
def by_ (t b:Int):Int:=if b<0 then -(g t b) else g t b
def top (t b:Int):Int:=t.fdiv (by_ t b)
def bot (t b:Int):Int:=b.fdiv (by_ t b)
theorem by_ne {t b:Int} (h:b≠0):by_ t b≠0:=by
 have:=g_pos (a:=t) h;unfold by_;split <;> ac_nf
theorem Jj7 (t b:Int):by_ t b∣t:=by
 unfold by_;split
 ·exact Int.neg_dvd.mpr (Jcw t b)
 ·exact Jcw t b
theorem Jj8 (t b:Int):by_ t b∣b:=by
 unfold by_;split
 ·exact Int.neg_dvd.mpr (JbK t b)
 ·exact JbK t b
theorem JaL {a d:Int} (h:d∣a) (hd:d≠0):a.fdiv d*d=a:=by
 obtain ⟨k,rfl⟩:=h;rw [Int.mul_comm d k,Int.mul_fdiv_cancel _ hd]
theorem Jes {t b:Int} (h:b≠0):top t b*by_ t b=t:=JaL (Jj7 t b) (by_ne h)
theorem JdS {t b:Int} (h:b≠0):bot t b*by_ t b=b:=JaL (Jj8 t b) (by_ne h)
theorem JcQ {t b:Int} (h:b≠0):1<=bot t b:=by
 have c:=JdS (t:=t) h;have d:=g_pos (a:=t) h;by_cases f:b<0
 ·have e:by_ t b = -(g t b):=by unfold by_;rw [if_pos f]
  rw [e] at c;have i:bot t b*g t b = -b:=by rw [Int.mul_neg] at c;ac_nf
  rcases Int.lt_trichotomy (bot t b) 0 with z | z | z
  ·have:=Int.mul_neg_of_neg_of_pos z d;ac_nf
  ·rw [z] at i;ac_nf
  ·ac_nf
 ·have e:by_ t b=g t b:=by unfold by_;rw [if_neg f]
  rw [e] at c;rcases Int.lt_trichotomy (bot t b) 0 with z | z | z
  ·have:=Int.mul_neg_of_neg_of_pos z d;ac_nf
  ·rw [z] at c;ac_nf
  ·ac_nf
theorem cross {t b:Int} (h:b≠0):top t b*b=t*bot t b:=by
 have a:=Jes (t:=t) h;have c:=JdS (t:=t) h
 calc top t b*b=top t b*(bot t b*by_ t b):=by rw [c]
  _=(top t b*by_ t b)*bot t b:=by rw [Int.mul_comm (bot t b),Int.mul_assoc]
  _=t*bot t b:=by rw [a]
theorem Jh8 (t b:Int):(by_ t b).natAbs=Int.gcd t b:=by
 unfold by_ g;split <;> simp
theorem g_low {t b:Int} (h:b≠0):g (top t b) (bot t b)=1:=by
 have a:0<Int.gcd t b:=Int.gcd_pos_of_ne_zero_right t h;have e:Int.gcd (top t b*by_ t b) (bot t b*by_ t b)=Int.gcd (top t b) (bot t b)*(by_ t b).natAbs:=Int.gcd_mul_right ..;rw [Jes h,JdS h,Jh8] at e;have : Int.gcd (top t b) (bot t b)=1:=by
  rcases Nat.lt_trichotomy (Int.gcd (top t b) (bot t b)) 1 with z | z | z
  ·have : Int.gcd (top t b) (bot t b)=0:=by ac_nf
   rw [this] at e;ac_nf
  ·exact z
  ·have:=Nat.mul_le_mul_right (Int.gcd t b) z;ac_nf
 unfold g;rw [this];rfl
theorem Jdn {a b d:Int} (g1:Int.gcd a b=1) (h:b∣a*d):b∣d:=by
 have e:b.natAbs∣a.natAbs*d.natAbs:=by rw [<- Int.natAbs_mul];exact Int.natAbs_dvd_natAbs.mpr h
 have c:Nat.Coprime b.natAbs a.natAbs:=by
  unfold Nat.Coprime;rw [Nat.gcd_comm];exact g1
 exact Int.natAbs_dvd_natAbs.mp (c.dvd_of_dvd_mul_left e)
theorem Jdq {a b c d:Int} (hb:1<=b) (hd:1<=d) (h1:g a b=1) (h2:g c d=1) (e:a*d=c*b):a=c/\b=d:=by
 have f:Int.gcd a b=1:=by unfold g at h1;ac_nf
 have h:Int.gcd c d=1:=by unfold g at h2;ac_nf
 have j:b∣d:=by
  have : b∣a*d:=⟨c,by rw [e,Int.mul_comm]⟩;exact Jdn f this
 have k:d∣b:=by
  have : d∣c*b:=⟨a,by rw [<- e,Int.mul_comm]⟩;exact Jdn h this
 have i:b=d:=Int.dvd_antisymm ∅ ∅ j k;subst i;refine ⟨?_,rfl⟩;exact Int.eq_of_mul_eq_mul_right ∅ e
theorem JlO {t b:Int} (h:b≠0):(top t b).natAbs<=t.natAbs:=by
 have c:=Jes (t:=t) h;have d:(by_ t b).natAbs≠0:=by have:=by_ne (t:=t) h;ac_nf
 have a:=congrArg Int.natAbs c;rw [Int.natAbs_mul] at a;rw [<- a];exact Nat.le_mul_of_pos_right _ ∅
theorem bot_le {t b:Int} (h:b≠0):(bot t b).natAbs<=b.natAbs:=by
 have c:=JdS (t:=t) h;have d:(by_ t b).natAbs≠0:=by have:=by_ne (t:=t) h;ac_nf
 have a:=congrArg Int.natAbs c;rw [Int.natAbs_mul] at a
 calc (bot t b).natAbs<=(bot t b).natAbs*(by_ t b).natAbs:=Nat.le_mul_of_pos_right _ ∅
  _=b.natAbs:=a
theorem JjI {t b:Int} (h:b≠0):(if b<0 then -t else t).fdiv (g (if b<0 then -t else t) (if b<0 then -b else b))=top t b/\(if b<0 then -b else b).fdiv (g (if b<0 then -t else t) (if b<0 then -b else b))=bot t b:=by
 have d:=Jes (t:=t) h;have f:=JdS (t:=t) h;have j:=g_pos (a:=t) h;by_cases c:b<0
 ·have e:by_ t b = -(g t b):=by unfold by_;rw [if_pos c]
  simp only [if_pos c];have i:g (-t) (-b)=g t b:=by unfold g;simp [Int.neg_gcd,Int.gcd_neg]
  rw [i];rw [e,Int.mul_neg] at d f;constructor
  ·have : -t=top t b*g t b:=by ac_nf
   rw [this,Int.mul_fdiv_cancel _ ∅]
  ·have : -b=bot t b*g t b:=by ac_nf
   rw [this,Int.mul_fdiv_cancel _ ∅]
 ·have e:by_ t b=g t b:=by unfold by_;rw [if_neg c]
  simp only [if_neg c];unfold top bot;rw [e];exact ⟨rfl,rfl⟩
theorem Jks {n k:Nat} (h:n<2 ^ k) (hk:k<9000):n.log2<9000:=by
 by_cases z:n=0
 ·rw [z];decide
 ·exact Nat.lt_trans ((Nat.log2_lt z).mpr h) hk
def Sz (n:Nat) (i:Int):Prop:=i.natAbs<2 ^ n
theorem Sz.mono {m n:Nat} {i:Int} (h:Sz m i) (k:m<=n):Sz n i:=Nat.lt_of_lt_of_le h (Nat.pow_le_pow_right ⋯ k)
theorem Sz.mul {m n:Nat} {i j:Int} (h:Sz m i) (k:Sz n j):Sz (m+n) (i*j):=by
 unfold Sz at *;rw [Int.natAbs_mul,Nat.pow_add];exact Nat.mul_lt_mul'' h k
theorem Sz.add {n:Nat} {i j:Int} (h:Sz n i) (k:Sz n j):Sz (n+1) (i+j):=by
 unfold Sz at *;have:=Int.natAbs_add_le i j;rw [Nat.pow_succ];ac_nf
theorem Sz.neg {n:Nat} {i:Int} (h:Sz n i):Sz n (-i):=by
 unfold Sz at *;rw [Int.natAbs_neg];exact h
theorem Sz.top {n:Nat} {t b:Int} (hb:b≠0) (h:Sz n t):Sz n (Mth.top t b):=Nat.lt_of_le_of_lt (JlO hb) h
theorem Sz.bot {n:Nat} {t b:Int} (hb:b≠0) (h:Sz n b):Sz n (Mth.bot t b):=Nat.lt_of_le_of_lt (bot_le hb) h
theorem Sz.lit {n:Nat} {i:Int} (h1 : -(2 ^ n)<i) (h2:i<2 ^ n):Sz n i:=by
 unfold Sz;have e:((2 ^ n:Nat):Int)=2 ^ n:=by simp
 ac_nf
end Mth
namespace Mth
theorem Jcf {a b:Int} (h:g a b=1):Int.gcd a b=1:=by unfold g at h;ac_nf
theorem JdM {a b:Int} (h:Int.gcd a b=1):g a b=1:=by unfold g;rw [h];rfl
theorem JbY {t x y:Int} (h1:Int.gcd t x=1) (h2:Int.gcd t y=1):Int.gcd t (x*y)=1:=by
 unfold Int.gcd at *;rw [Int.natAbs_mul];exact Nat.Coprime.mul_right h1 h2
theorem JeH {x y:Int} (h:∀ k:Int,k∣x->k∣y->k∣1):Int.gcd x y=1:=by
 have:=h (Int.gcd x y:Nat) (Int.gcd_dvd_left ..) (Int.gcd_dvd_right ..);have z:=Int.natAbs_dvd_natAbs.mpr this;simp at z;exact z
theorem JeI {k x y:Int} (h:Int.gcd x y=1) (h1:k∣x) (h2:k∣y):k∣1:=by
 have z:=Int.dvd_coe_gcd h1 h2;rw [h] at z;exact z
theorem Jb3 {t u x:Int} (h:Int.gcd t x=1) (d:u∣t):Int.gcd u x=1:=JeH fun k a b=>JeI h (Int.dvd_trans a d) b
theorem JaT {x y:Int} (h:Int.gcd x y=1):Int.gcd y x=1:=by rw [Int.gcd_comm];exact h
theorem JhM {a b c d:Int} (h1:Int.gcd a b=1) (h2:Int.gcd d b=1):Int.gcd (a*d+c*b) b=1:=by
 have : Int.gcd b (a*d)=1:=JbY (JaT h1) (JaT h2);refine JeH fun k g f=>JeI this f ?_;have : k∣(a*d+c*b)-c*b:=Int.dvd_sub g (Int.dvd_mul_of_dvd_right f);have e:(a*d+c*b)-c*b=a*d:=by ac_nf
 rwa [e] at this
theorem JbZ {a d:Int} (h:d∣a) (hd:1<=d) (ha:1<=a):1<=a.fdiv d:=by
 have e:=JaL h ∅;rcases Int.lt_trichotomy (a.fdiv d) 0 with z | z | z
 ·have:=Int.mul_neg_of_neg_of_pos z (show 0<d by ac_nf);ac_nf
 ·rw [z] at e;ac_nf
 ·ac_nf
theorem JcM {b d s:Int} (hs:s=g b d) (p:1<=s):Int.gcd (b.fdiv s) (d.fdiv s)=1:=by
 have a:b.fdiv s*s=b:=JaL (by rw [hs];exact Jcw ..) ∅;have f:d.fdiv s*s=d:=JaL (by rw [hs];exact JbK ..) ∅;have e:Int.gcd (b.fdiv s*s) (d.fdiv s*s)=Int.gcd (b.fdiv s) (d.fdiv s)*s.natAbs:=Int.gcd_mul_right ..;rw [a,f] at e;have c:Int.gcd b d=s.natAbs:=by rw [hs];unfold g;simp
 rw [c] at e;rcases Nat.lt_trichotomy (Int.gcd (b.fdiv s) (d.fdiv s)) 1 with z | z | z
 ·have : Int.gcd (b.fdiv s) (d.fdiv s)=0:=by ac_nf
  rw [this] at e;ac_nf
 ·exact z
 ·have:=Nat.mul_le_mul_right s.natAbs z;ac_nf
theorem JkJ {a b c d:Int} (hb:1<=b) (hd:1<=d) (h1:g a b=1) (h2:g c d=1) {s t r:Int} (hs:s=g b d) (ht:t=a*d.fdiv s+c*b.fdiv s) (hr:r=g t s) :
  t.fdiv r=top (a*d+c*b) (b*d)/\b.fdiv s*d.fdiv r=bot (a*d+c*b) (b*d):=by
 have o:1<=s:=by rw [hs];have:=g_pos (a:=b) (b:=d) ∅;ac_nf
 have z:1<=r:=by rw [hr];have:=g_pos (a:=t) (b:=s) ∅;ac_nf
 have w:s∣b:=by rw [hs];exact Jcw ..
 have m:s∣d:=by rw [hs];exact JbK ..
 have K:r∣t:=by rw [hr];exact Jcw ..
 have B:r∣s:=by rw [hr];exact JbK ..
 have A:r∣d:=Int.dvd_trans B m;have q:=JaL w ∅;have j:=JaL m ∅;have x:=JaL K ∅;have y:=JaL A ∅;have L:=JaL B ∅;have M:=JbZ w o hb;have N:=JbZ m o hd;have I:=JbZ A z hd;have h:=JcM hs o;have v:Int.gcd (t.fdiv r) (s.fdiv r)=1:=JcM hr z;have n:d.fdiv r=d.fdiv s*s.fdiv r:=by
  refine Int.eq_of_mul_eq_mul_right (a:=r) ∅ ?_;rw [y,Int.mul_assoc,L,j]
 have E:Int.gcd a (b.fdiv s)=1:=JaT (Jb3 (JaT (Jcf h1)) ⟨s,q.symm⟩);have F:Int.gcd c (d.fdiv s)=1:=JaT (Jb3 (JaT (Jcf h2)) ⟨s,j.symm⟩);have D:Int.gcd t (b.fdiv s)=1:=by rw [ht];exact JhM E (JaT h)
 have C:Int.gcd t (d.fdiv s)=1:=by rw [ht,Int.add_comm];exact JhM F h
 have l:g (t.fdiv r) (b.fdiv s*d.fdiv r)=1:=JdM (by
  rw [n];have k:t.fdiv r∣t:=⟨r,x.symm⟩;exact JbY (Jb3 D k) (JbY (Jb3 C k) v))
 have e:b*d≠0:=Int.mul_ne_zero ∅ ∅;have i:=g_low (t:=a*d+c*b) e;have f:=JcQ (t:=a*d+c*b) e;have u:=cross (t:=a*d+c*b) e;have p:1<=b.fdiv s*d.fdiv r:=by
  have:=Int.mul_pos (show 0<b.fdiv s by ac_nf) (show 0<d.fdiv r by ac_nf);ac_nf
 have H:t*s=a*d+c*b:=by
  rw [ht,Int.add_mul,Int.mul_assoc,Int.mul_assoc,j,q]
 have G:t.fdiv r*(b*d)=(a*d+c*b)*(b.fdiv s*d.fdiv r):=by
  have J:(t.fdiv r*(b*d))*r=((a*d+c*b)*(b.fdiv s*d.fdiv r))*r:=by
   calc (t.fdiv r*(b*d))*r=(t.fdiv r*r)*(b*d):=by ac_rfl
    _=t*((b.fdiv s*s)*d):=by rw [x,q]
    _=(t*s)*(b.fdiv s*d):=by ac_rfl
    _=(a*d+c*b)*(b.fdiv s*(d.fdiv r*r)):=by rw [H,y]
    _=((a*d+c*b)*(b.fdiv s*d.fdiv r))*r:=by ac_rfl
  exact Int.eq_of_mul_eq_mul_right ∅ J
 refine Jdq p f l i ?_;refine Int.eq_of_mul_eq_mul_right (a:=b*d) e ?_
 calc (t.fdiv r*bot (a*d+c*b) (b*d))*(b*d)=(t.fdiv r*(b*d))*bot (a*d+c*b) (b*d):=by ac_rfl
  _=((a*d+c*b)*bot (a*d+c*b) (b*d))*(b.fdiv s*d.fdiv r):=by rw [G];ac_rfl
  _=(top (a*d+c*b) (b*d)*(b*d))*(b.fdiv s*d.fdiv r):=by rw [u]
  _=(top (a*d+c*b) (b*d)*(b.fdiv s*d.fdiv r))*(b*d):=by ac_rfl
theorem JdV {a d:Int} (h:d∣a) (hd:1<=d):(a.fdiv d).natAbs<=a.natAbs:=by
 have e:=congrArg Int.natAbs (JaL h (show d≠0 by ac_nf));rw [Int.natAbs_mul] at e
 calc (a.fdiv d).natAbs<=(a.fdiv d).natAbs*d.natAbs:=Nat.le_mul_of_pos_right _ ∅
  _=a.natAbs:=e
theorem Sz.fdiv {n:Nat} {a d:Int} (h:Sz n a) (k:d∣a) (hd:1<=d):Sz n (a.fdiv d):=Nat.lt_of_le_of_lt (JdV k hd) h
theorem g_neg {a b:Int}:g (-a) b=g a b:=by unfold g;simp [Int.neg_gcd]
end Mth
namespace Mth
theorem Jjw {a b c d:Int} (hb:1<=b) (hd:1<=d) (h1:g a b=1) (h2:g c d=1) {u v:Int} (hu:u=g a d) (hv:v=g c b) :
  a.fdiv u*c.fdiv v=top (a*c) (b*d)/\b.fdiv v*d.fdiv u=bot (a*c) (b*d):=by
 have m:1<=u:=by rw [hu];have:=g_pos (a:=a) (b:=d) ∅;ac_nf
 have r:1<=v:=by rw [hv];have:=g_pos (a:=c) (b:=b) ∅;ac_nf
 have C:u∣a:=by rw [hu];exact Jcw ..
 have p:u∣d:=by rw [hu];exact JbK ..
 have z:v∣c:=by rw [hv];exact Jcw ..
 have o:v∣b:=by rw [hv];exact JbK ..
 have n:=JaL C ∅;have l:=JaL p ∅;have s:=JaL z ∅;have q:=JaL o ∅;have D:=JbZ o r hb;have E:=JbZ p m hd;have y:=JcM hu m;have w:=JcM hv r;have A:Int.gcd (a.fdiv u) (b.fdiv v)=1:=JaT (Jb3 (JaT (Jb3 (Jcf h1) ⟨u,n.symm⟩)) ⟨v,q.symm⟩);have B:Int.gcd (c.fdiv v) (d.fdiv u)=1:=JaT (Jb3 (JaT (Jb3 (Jcf h2) ⟨v,s.symm⟩)) ⟨u,l.symm⟩);have i:g (a.fdiv u*c.fdiv v) (b.fdiv v*d.fdiv u)=1:=JdM (JaT (JbY (JaT (JbY A y)) (JaT (JbY w B))));have e:b*d≠0:=Int.mul_ne_zero ∅ ∅;have h:=g_low (t:=a*c) e;have f:=JcQ (t:=a*c) e;have k:=cross (t:=a*c) e;have j:1<=b.fdiv v*d.fdiv u:=by
  have:=Int.mul_pos (show 0<b.fdiv v by ac_nf) (show 0<d.fdiv u by ac_nf);ac_nf
 have x:(a.fdiv u*c.fdiv v)*(b*d)=(a*c)*(b.fdiv v*d.fdiv u):=by
  calc (a.fdiv u*c.fdiv v)*(b*d)=(a.fdiv u*c.fdiv v)*((b.fdiv v*v)*(d.fdiv u*u)):=by rw [q,l]
   _=((a.fdiv u*u)*(c.fdiv v*v))*(b.fdiv v*d.fdiv u):=by ac_rfl
   _=(a*c)*(b.fdiv v*d.fdiv u):=by rw [n,s]
 refine Jdq j f i h ?_;refine Int.eq_of_mul_eq_mul_right (a:=b*d) e ?_
 calc ((a.fdiv u*c.fdiv v)*bot (a*c) (b*d))*(b*d)=((a.fdiv u*c.fdiv v)*(b*d))*bot (a*c) (b*d):=by ac_rfl
  _=((a*c)*bot (a*c) (b*d))*(b.fdiv v*d.fdiv u):=by rw [x];ac_rfl
  _=(top (a*c) (b*d)*(b*d))*(b.fdiv v*d.fdiv u):=by rw [k]
  _=(top (a*c) (b*d)*(b.fdiv v*d.fdiv u))*(b*d):=by ac_rfl
theorem Jkt {t b:Int} (h:b<0):top (-t) (-b)=top t b/\bot (-t) (-b)=bot t b:=by
 have a:=JjI (t:=t) (b:=b) ∅;have c:=JjI (t:=-t) (b:=-b) ∅;rw [if_pos h,if_pos h] at a;rw [if_neg ∅,if_neg ∅] at c;exact ⟨c.1.symm.trans a.1,c.2.symm.trans a.2⟩
theorem Jk9 {a b:Int}:g a (-b)=g a b:=by unfold g;simp [Int.gcd_neg]
theorem JjG (a b:Int):g a b=g b a:=by unfold g;rw [Int.gcd_comm]
end Mth
namespace L2
open PySem PySem.Spec PyProof.Rows
section
variable {D:Ends} {σ : St} {H:Hp} {Q:VK} {t u:TS} {ta tb te:TE} {g:TG} {tA:TA} {r:R2} {E:XK} {sp:Sp} {K:W.Frag}
theorem y83y:tSeq t u D σ H=t { D with nx:=u D } σ H:=rfl
theorem y72y:tNext D σ H=D.nx σ H:=rfl
theorem y2by:tAsg te g D σ H=te σ H fun x H1=>g x σ H1 D.nx:=rfl
theorem y6dy {i:Nat} {v:V} {R:St->Hp->Prop}:gName i v σ H R=R (σ.set i (some v)) H:=rfl
theorem y80y:tRet te D σ H=te σ H D.rt:=rfl
theorem y81y:tRetN D σ H=D.rt .non H:=rfl
theorem y47y:tDrop te D σ H=te σ H fun _ H1=>D.nx σ H1:=rfl
theorem y2ey {v:V}:tC v σ H Q=Q v H:=rfl
theorem y79y:tOp r ta tb σ H Q=ta σ H fun x H1=>tb σ H1 fun y H2=>r x y H2 Q:=rfl
theorem y93y {f:V->Hp->VK->Prop}:tUn f ta σ H Q=ta σ H fun x H1=>f x H1 Q:=rfl
theorem y30y {f:List V->Hp->VK->Prop}:tCB f tA σ H Q=tA σ H fun vs H1=>f vs H1 Q:=rfl
theorem y3cy {R:List V->Hp->Prop}:tCons ta tA σ H R=ta σ H fun x H1=>tA σ H1 fun xs H2=>R (x::xs) H2:=rfl
theorem y73y {R:List V->Hp->Prop}:tNil σ H R=R [] H:=rfl
theorem y2fy {dvs:List V}:tCall sp dvs E tA σ H Q=tA σ H fun vs H1=>sp (vs++dvs) H1 Q E:=rfl
theorem y89y {R:Bool->Hp->Prop}:tTest te σ H R=te σ H fun x H'=>∃ k,x=.bl k/\R k H':=rfl
theorem y23y {R:Bool->Hp->Prop}:tB te σ H R=te σ H fun x H'=>∃ k,x=.bl k/\R k H':=rfl
theorem y29y {a b:TT} {R:Bool->Hp->Prop}:tAnd a b σ H R=a σ H fun c H1=>if c=true then b σ H1 R else R false H1:=rfl
theorem y7ay {a b:TT} {R:Bool->Hp->Prop}:tOr a b σ H R=a σ H fun c H1=>if c=true then R true H1 else b σ H1 R:=rfl
theorem y75y {a:TT} {R:Bool->Hp->Prop}:tNot a σ H R=a σ H fun c H1=>R (!c) H1:=rfl
theorem y2ay:tAndV ta tb σ H Q=ta σ H fun x H1=>∃ c,x=.bl c/\if c=true then tb σ H1 Q else Q (.bl false) H1:=rfl
theorem y7by:tOrV ta tb σ H Q=ta σ H fun x H1=>∃ c,x=.bl c/\if c=true then Q (.bl true) H1 else tb σ H1 Q:=rfl
theorem y77y:tNotV ta σ H Q=ta σ H fun x H1=>∃ c,x=.bl c/\Q (.bl (!c)) H1:=rfl
theorem y5by {c:TT}:tIfS c t u D σ H=c σ H fun b H1=>if b=true then t D σ H1 else u D σ H1:=rfl
theorem y95y {i:Nat}:tVar i σ H Q=∃ v,σ[i]?=some (some v)/\Q v H:=rfl
theorem y26y {i j:Int}:rAddU K (.int i) (.int j) H Q=Q (.int (i+j)) H:=rfl
theorem y27y {i j:Str}:rAddU K (.str i) (.str j) H Q=(i.length+j.length<=sizeLine/\Q (.str (i++j)) H):=rfl
theorem y87y {f:Int->Int->V} {i j:Int}:rI0 f (.int i) (.int j) H Q=Q (f i j) H:=by
 unfold rI0;simp
theorem y71y {f:Int->V} {i:Int}:rU f (.int i) H Q=Q (f i) H:=by
 unfold rU;simp
theorem y6ay {i j:Int}:rMulU (.int i) (.int j) H Q=(IntMulOk i j/\Q (.int (i*j)) H):=rfl
theorem y4cy {i j:Int}:Jiy (.int i) (.int j) H Q=(DivOk j/\Q (.int (i.fdiv j)) H):=rfl
theorem y69y {i j:Int}:rModU (.int i) (.int j) H Q=(j≠0/\Q (.int (i.fmod j)) H):=rfl
theorem y7ey {i j:Int}:rPowU (.int i) (.int j) H Q=(CPow i j/\Q (.int (i ^ j.toNat)) H):=rfl
theorem y33y {p:Int->Int->Bool} {i j:Int}:rCmpU p (.int i) (.int j) H Q=Q (.bl (p i j)) H:=rfl
theorem y4ay {i j:Int}:rEqU K (.int i) (.int j) H Q=Q (.bl (decide (i=j))) H:=rfl
theorem y6fy {i j:Int}:rNeU K (.int i) (.int j) H Q=Q (.bl (!decide (i=j))) H:=rfl
theorem y4by {i j:Str}:rEqU K (.str i) (.str j) H Q=Q (.bl (decide (i=j))) H:=rfl
theorem y70y {i j:Str}:rNeU K (.str i) (.str j) H Q=Q (.bl (!decide (i=j))) H:=rfl
theorem y49y {i j:Bool}:rEqU K (.bl i) (.bl j) H Q=Q (.bl (decide (i=j))) H:=rfl
theorem y6ey {i j:Bool}:rNeU K (.bl i) (.bl j) H Q=Q (.bl (!decide (i=j))) H:=rfl
theorem y8ey:tTup tA σ H Q=tA σ H fun xs H1=>xs.length<=sizeLine/\∀ p,H1 p=none->Q (.ref p) (upd H1 p (.tup xs)):=rfl
theorem y65y:tLst tA σ H Q=tA σ H fun xs H1=>xs.length<=sizeLine/\∀ p,H1 p=none->Q (.ref p) (upd H1 p (.lst xs)):=rfl
theorem y61y {x:V} {T:String}:rIsi K [x, .ty T] H Q=(T∈["int","str","bool","list","tuple"]/\∃ t,tyN K H x t/\Q (.bl (isiB t T)) H):=rfl
theorem y25y {i:Int}:rAbs [.int i] H Q=Q (.int (if i<0 then -i else i)) H:=rfl
theorem y68y {i j:Int}:rMin [.int i, .int j] H Q=Q (.int (if j<i then j else i)) H:=rfl
theorem y90y {i:Int} {s:String}:tyN K H (.int i) s=(s="int"):=rfl
theorem y92y {i:Str} {s:String}:tyN K H (.str i) s=(s="str"):=rfl
theorem y8fy {i:Bool} {s:String}:tyN K H (.bl i) s=(s="bool"):=rfl
theorem y91y {s:String}:tyN K H .non s=(s="NoneType"):=rfl
end
theorem JgL:bootBuiltins "abs"=some (.builtin "abs"):=by decide +kernel
theorem Jbs:bootBuiltins "len"=some (.builtin "len"):=by decide +kernel
theorem Jk3:bootBuiltins "min"=some (.builtin "min"):=by decide +kernel
theorem Jk5:bootBuiltins "sum"=some (.builtin "sum"):=by decide +kernel
theorem Jfz:bootBuiltins "sorted"=some (.builtin "sorted"):=by decide +kernel
theorem Ja6:bootBuiltins "isinstance"=some (.builtin "isinstance"):=by decide +kernel
theorem Jk2:bootBuiltins "all"=some (.builtin "all"):=by decide +kernel
theorem JhG:bootBuiltins "int"=some (.type "int"):=by decide +kernel
theorem Jk4:bootBuiltins "str"=some (.type "str"):=by decide +kernel
theorem Jj5:bootBuiltins "bool"=some (.type "bool"):=by decide +kernel
theorem JhH:bootBuiltins "list"=some (.type "list"):=by decide +kernel
theorem JdK:bootBuiltins "tuple"=some (.type "tuple"):=by decide +kernel
theorem Jj6:bootBuiltins "dict"=some (.type "dict"):=by decide +kernel
theorem JiZ:bootBuiltins "range"=some (.type "range"):=by decide +kernel
theorem yby:isiB "int" "int"=true:=by decide
theorem ydy:isiB "int" "str"=false:=by decide
theorem yay:isiB "int" "bool"=false:=by decide
theorem ycy:isiB "int" "list"=false:=by decide
theorem yey:isiB "int" "tuple"=false:=by decide
theorem y15y:isiB "str" "int"=false:=by decide
theorem y17y:isiB "str" "str"=true:=by decide
theorem y14y:isiB "str" "bool"=false:=by decide
theorem y16y:isiB "str" "list"=false:=by decide
theorem y18y:isiB "str" "tuple"=false:=by decide
theorem y6y:isiB "bool" "int"=true:=by decide
theorem y8y:isiB "bool" "str"=false:=by decide
theorem y5y:isiB "bool" "bool"=true:=by decide
theorem y7y:isiB "bool" "list"=false:=by decide
theorem y9y:isiB "bool" "tuple"=false:=by decide
theorem y1y:isiB "NoneType" "int"=false:=by decide
theorem y3y:isiB "NoneType" "str"=false:=by decide
theorem y0y:isiB "NoneType" "bool"=false:=by decide
theorem y2y:isiB "NoneType" "list"=false:=by decide
theorem y4y:isiB "NoneType" "tuple"=false:=by decide
theorem y10y:isiB "list" "int"=false:=by decide
theorem y12y:isiB "list" "str"=false:=by decide
theorem yfy:isiB "list" "bool"=false:=by decide
theorem y11y:isiB "list" "list"=true:=by decide
theorem y13y:isiB "list" "tuple"=false:=by decide
theorem y1ay:isiB "tuple" "int"=false:=by decide
theorem y1cy:isiB "tuple" "str"=false:=by decide
theorem y19y:isiB "tuple" "bool"=false:=by decide
theorem y1by:isiB "tuple" "list"=false:=by decide
theorem y1dy:isiB "tuple" "tuple"=true:=by decide
theorem y1fy:("int"∈["int","str","bool","list","tuple"])=True:=by simp
theorem y21y:("str"∈["int","str","bool","list","tuple"])=True:=by simp
theorem y1ey:("bool"∈["int","str","bool","list","tuple"])=True:=by simp
theorem y20y:("list"∈["int","str","bool","list","tuple"])=True:=by simp
theorem y22y:("tuple"∈["int","str","bool","list","tuple"])=True:=by simp
theorem y24y {CX:CXT} {P:Program} {w:World} {K:W.Frag} {mg:Str->Option Value} {base:Heap} {N:List Str} {qual:Str} {scope:Scope} {f:Addr} {cd:Value} {A:Around} {outer:List Env} {s:Shared} {H:Hp} {E:XK}:(cxOf CX P w K mg base N qual scope f cd A outer s H E).K=K:=rfl
def ForR (lo:Int) (n:Nat) (g:TG) (tb:TS) (D:Ends) (σ : St) (H:Hp):Prop:=∃ W:Nat->Nat->St->Hp->Prop,(∃ m,W 0 m σ H)/\∀ i m σ H,W i m σ H ->
 ((Itr lo n).stop i H/\D.nx σ H)\/((Itr lo n).go i H/\∃ N:St->Hp->Prop,(∀ σ' H',N σ' H'->∃ m',m'<m/\W (i+1) m' σ' H')/\∀ x H',(Itr lo n).yld i H x H'->g x σ H' fun σ2 H2=>tb { D with nx:=N,ct:=N,bk:=D.nx } σ2 H2)
def ForA (K:W.Frag) (a:Addr) (g:TG) (tb:TS) (D:Ends) (σ : St) (H:Hp):Prop :=
 ((∃ xs,SqL K H a xs)/\∃ W:Nat->Nat->St->Hp->Prop,(∃ m,W 0 m σ H)/\∀ i m σ H,W i m σ H ->
  ((Itl K a).stop i H/\D.nx σ H)\/((Itl K a).go i H/\∃ N:St->Hp->Prop,(∀ σ' H',N σ' H'->∃ m',m'<m/\W (i+1) m' σ' H')/\∀ x H',(Itl K a).yld i H x H'->g x σ H' fun σ2 H2=>tb { D with nx:=N,ct:=N,bk:=D.nx } σ2 H2)) \/
 ((∃ xs,SqT K H a xs)/\∃ W:Nat->Nat->St->Hp->Prop,(∃ m,W 0 m σ H)/\∀ i m σ H,W i m σ H ->
  ((Itt K a).stop i H/\D.nx σ H)\/((Itt K a).go i H/\∃ N:St->Hp->Prop,(∀ σ' H',N σ' H'->∃ m',m'<m/\W (i+1) m' σ' H')/\∀ x H',(Itt K a).yld i H x H'->g x σ H' fun σ2 H2=>tb { D with nx:=N,ct:=N,bk:=D.nx } σ2 H2))
theorem y4fy {ta:TA} {g:TG} {tb:TS} {D:Ends} {σ : St} {H:Hp}:tFor (iRng1 ta) g tb D σ H=ta σ H fun vs H1=>∃ j:Int,vs=[.int j]/\-(2 ^ 62)<=j/\j<2 ^ 62/\ForR 0 j.toNat g tb D σ H1:=rfl
theorem y50y {ta:TA} {g:TG} {tb:TS} {D:Ends} {σ : St} {H:Hp}:tFor (iRng2 ta) g tb D σ H=ta σ H fun vs H1=>∃ i j:Int,vs=[.int i, .int j]/\(-(2 ^ 62)<=i/\i<2 ^ 62/\-(2 ^ 62)<=j/\j<2 ^ 62)/\ForR i (j-i).toNat g tb D σ H1:=rfl
theorem y51y {K:W.Frag} {tl:TE} {g:TG} {tb:TS} {D:Ends} {σ : St} {H:Hp}:tFor (iAny K tl) g tb D σ H=tl σ H fun x H1=>∃ a,x=.ref a/\ForA K a g tb D σ H1:=rfl
theorem ForR.by {lo:Int} {n:Nat} {g:TG} {tb:TS} {D:Ends} {σ : St} {H:Hp} (Pv:Nat->St->Hp->Prop) (h0:Pv 0 σ H)
  (hs:∀ i σ H,i<n->Pv i σ H->g (.int (lo+i)) σ H fun σ2 H2=>tb { D with nx:=Pv (i+1),ct:=Pv (i+1),bk:=D.nx } σ2 H2) (hd:∀ σ H,Pv n σ H->D.nx σ H):ForR lo n g tb D σ H:=JhU Pv h0 hs hd
theorem ForA.by {K:W.Frag} {a:Addr} {xs:List V} {g:TG} {tb:TS} {D:Ends} {σ : St} {H:Hp} (hA:SqA K H a xs) (Pv:Nat->St->Hp->Prop) (h0:Pv 0 σ H) (hl:∀ i σ H',i<=xs.length->Pv i σ H'->Same H H')
  (hs:∀ i x σ H,xs[i]?=some x->Pv i σ H->g x σ H fun σ2 H2=>tb { D with nx:=Pv (i+1),ct:=Pv (i+1),bk:=D.nx } σ2 H2) (hd:∀ σ H,Pv xs.length σ H->D.nx σ H):ForA K a g tb D σ H:=Jkf hA Pv h0 hl hs hd
theorem Jd6 {H:Hp} {o:HO} {R:V->Hp->Prop} (h:∀ p H1,Same H H1->H1 p=some o->R (.ref p) H1):∀ p,H p=none->R (.ref p) (upd H p o):=fun p a=>
 h p _ (fun b u q=>by rw [Jag (Jah q a)];exact q) Jak
theorem newS {H H':Hp} {p:Addr} {o:HO} (h:H p=none) (e:upd H p o=H'):Same H H':=fun b u q=>by rw [<- e,Jag (Jah q h)];exact q
theorem newE {H H':Hp} {p:Addr} {o:HO} (e:upd H p o=H'):H' p=some o:=by rw [<- e,Jak]
theorem JeT {n:Nat} {i:Int} (h:Mth.Sz n i):Builtin.Int.intBits i<=n:=by
 unfold Builtin.Int.intBits;split
 ·exact Nat.zero_le _
 ·rename_i z;have : i.natAbs.log2<n:=(Nat.log2_lt (by simpa using z)).mpr h;ac_nf
theorem mulOk {m n:Nat} {i j:Int} (h:Mth.Sz m i) (k:Mth.Sz n j) (hm:m<=2 ^ 20:=by decide) (hn:n<=2 ^ 20:=by decide):IntMulOk i j:=IntMulOk.of_bits (Nat.le_trans (JeT h) hm) (Nat.le_trans (JeT k) hn)
theorem JjJ {i j:Int} (h:Mth.Sz 64 j):IntMulOk i j:=IntMulOk.of_right (JeT h)
theorem divOk {n:Nat} {j:Int} (h:j≠0) (k:Mth.Sz n j) (hn:n<9000:=by decide):DivOk j:=⟨h,Mth.Jks k hn⟩
theorem len0:([]:List V).length<=sizeLine:=by decide
theorem len2 {a b:V}:[a,b].length<=sizeLine:=by show 2<=sizeLine;decide
theorem len3 {a b c:V}:[a,b,c].length<=sizeLine:=by show 3<=sizeLine;decide
theorem len5 {a b c d e:V}:[a,b,c,d,e].length<=sizeLine:=by show 5<=sizeLine;decide
theorem JaV {j:Int} (h:decide (j≠0/\j.natAbs<2 ^ 64)=true):DivOk j:=by
 have z:=of_decide_eq_true h;exact divOk z.1 (n:=64) z.2
theorem JaW {i j:Int} (h:decide (j.natAbs<2 ^ 64)=true):IntMulOk i j:=by
 have z:j.natAbs<2 ^ 64:=of_decide_eq_true h;exact JjJ z
theorem JaF {i j:Int} (h:decide (i.natAbs<2 ^ 64)=true):IntMulOk i j:=by
 have z:i.natAbs<2 ^ 64:=of_decide_eq_true h;exact IntMulOk.of_left (JeT (n:=64) z)
theorem JaY {i j:Int} (h:decide (0<=j/\j<=1000000/\i.natAbs<2 ^ 64)=true):CPow i j:=by
 have z:0<=j/\j<=1000000/\i.natAbs<2 ^ 64:=of_decide_eq_true h;exact z
def FrV (K:W.Frag) (H:Hp) (v:V) (a b:Int):Prop:=∃ p,v=.ref p/\SqT K H p [.int a, .int b]
theorem FrV.same {K:W.Frag} {H H':Hp} {v:V} {a b:Int} (S:Same H H') (h:FrV K H v a b):FrV K H' v a b:=by
 obtain ⟨p,e,q⟩:=h;exact ⟨p,e,q.same S⟩
theorem FrV.of {K:W.Frag} {H:Hp} {p:Addr} {a b:Int} (h:H p=some (.tup [.int a, .int b])):FrV K H (.ref p) a b:=⟨p,rfl,SqT.of h⟩
theorem ixT0 {K:W.Frag} {H:Hp} {p:Addr} {x:V} {r:List V} {Q:VK} (h:SqT K H p (x::r)) (q:Q x H):rIxU K (.ref p) (.int 0) H Q:=⟨_,x, .inr h,JdR (j:=0) rfl,q⟩
theorem ixT1 {K:W.Frag} {H:Hp} {p:Addr} {x y:V} {r:List V} {Q:VK} (h:SqT K H p (x::y::r)) (q:Q y H):rIxU K (.ref p) (.int 1) H Q:=⟨_,y, .inr h,JdR (j:=1) rfl,q⟩
theorem ixF0 {K:W.Frag} {H:Hp} {v:V} {a b:Int} {Q:VK} (h:FrV K H v a b) (q:Q (.int a) H):rIxU K v (.int 0) H Q:=by
 obtain ⟨p,rfl,z⟩:=h;exact ixT0 z q
theorem ixF1 {K:W.Frag} {H:Hp} {v:V} {a b:Int} {Q:VK} (h:FrV K H v a b) (q:Q (.int b) H):rIxU K v (.int 1) H Q:=by
 obtain ⟨p,rfl,z⟩:=h;exact ixT1 z q
theorem FrV.rep {K:W.Frag} {H:Hp} {v:V} {a b:Int} (h:FrV K H v a b):Rep K H (.tup [.int a, .int b]) v:=by
 obtain ⟨p,rfl,z⟩:=h;simp only [Rep,RepL];exact ⟨p,_,rfl,z,_,_,rfl,rfl,_,_,rfl,rfl,rfl⟩
theorem eqF {K:W.Frag} {H:Hp} {x y:V} {a b c d:Int} {Q:VK} (h:FrV K H x a b) (g:FrV K H y c d) (q:Q (.bl (decide (a=c)&&decide (b=d))) H):rEqU K x y H Q:=by
 have e:eqD (.tup [.int a, .int b]) (.tup [.int c, .int d])=(decide (a=c)&&decide (b=d)):=by
  simp only [eqD,eqL,Bool.and_true]
  congr 1 <;> simp [BEq.beq]
 have f:=h.rep;have i:=g.rep;obtain ⟨p,rfl,_⟩:=h;obtain ⟨j,rfl,_⟩:=g;exact ⟨_,_,f,i,by simp [depD,depL],rfl,by rw [e];exact q⟩
theorem neF {K:W.Frag} {H:Hp} {x y:V} {a b c d:Int} {Q:VK} (h:FrV K H x a b) (g:FrV K H y c d) (q:Q (.bl (!(decide (a=c)&&decide (b=d)))) H):rNeU K x y H Q:=by
 have e:eqD (.tup [.int a, .int b]) (.tup [.int c, .int d])=(decide (a=c)&&decide (b=d)):=by
  simp only [eqD,eqL,Bool.and_true]
  congr 1 <;> simp [BEq.beq]
 have f:=h.rep;have i:=g.rep;obtain ⟨p,rfl,_⟩:=h;obtain ⟨j,rfl,_⟩:=g;exact ⟨_,_,f,i,by simp [depD,depL],rfl,by rw [e];exact q⟩
theorem ixT {K:W.Frag} {H:Hp} {p:Addr} {xs:List V} {i:Nat} {v:V} {Q:VK} (h:SqT K H p xs) (e:xs[i]?=some v) (q:Q v H):rIxU K (.ref p) (.int (i:Int)) H Q:=⟨xs,v, .inr h,JdR e,q⟩
theorem ixL {K:W.Frag} {H:Hp} {p:Addr} {xs:List V} {i:Nat} {v:V} {Q:VK} (h:SqL K H p xs) (e:xs[i]?=some v) (q:Q v H):rIxU K (.ref p) (.int (i:Int)) H Q:=⟨xs,v, .inl h,JdR e,q⟩
section
open PySem.W PySem.Builtin PySem.Builtin.ObjectAttr PySem.Builtin.Getset_descriptor
variable {prog:Program} {w:World} {A:Around} {E:Value->Shared->Prop} {s:Shared} {K:Frag} {x D:Addr} {ox:Obj}
end
section
variable {X:Cx}
def JkY (r r' r'':R2) (ta tb tc td:TE):TE:=fun σ H Q=>ta σ H fun x H1=>tb σ H1 fun y H2=>r x y H2 fun z H3=>∃ k,z=.bl k /\
 (if k=true then tc σ H3 fun w' H4=>r' y w' H4 fun z' H5=>∃ k',z'=.bl k'/\(if k'=true then td σ H5 fun u' H6=>r'' w' u' H6 Q else Q (.bl false) H5) else Q (.bl false) H3)
def rFmt:V->Hp->VK->Prop:=fun x H Q=>match x with
 | .int i=>i.natAbs.log2<1920/\Q (.str (toString i)) H
 | _=>False
def TJ:=St->Hp->Str->VK->Prop
def jNil:TJ:=fun _ H acc Q=>acc.length<=sizeLine/\Q (.str acc) H
def jCons (te:TE) (t:TJ):TJ:=fun σ H acc Q=>te σ H fun x H1=>∃ y,x=.str y/\(acc++y).length<=sizeLine/\t σ H1 (acc++y) Q
def tFstr (t:TJ):TE:=fun σ H Q=>t σ H Str.empty Q
def rStrI:List V->Hp->VK->Prop:=fun xs H Q=>match xs with
 | [.int i]=>i.natAbs.log2<1920/\Q (.str (toString i)) H
 | _=>False
end
section
variable {En:Ends} {σ : St} {H:Hp} {Q:VK} {t u:TS} {ta tb te tc td:TE} {g:TG} {gs:TGs} {tA:TA} {E:XK} {sp:Sp} {K:W.Frag}
theorem y85y {r:V->Option Int->Option Int->Hp->VK->Prop} {tl th:TO}:tSl r te tl th σ H Q=te σ H fun x H1=>tl σ H1 fun l H2=>th σ H2 fun u H3=>r x l u H3 Q:=rfl
theorem y7dy {R:Option Int->Hp->Prop}:tPart te σ H R=te σ H fun x H1=>∃ i,x=.int i/\R (some i) H1:=rfl
theorem y74y {R:Option Int->Hp->Prop}:JkZ σ H R=R none H:=rfl
theorem y31y {r r':R2}:JlK r r' ta tb tc σ H Q=ta σ H fun x H1=>tb σ H1 fun y H2=>r x y H2 fun z H3=>∃ k,z=.bl k/\(if k=true then tc σ H3 fun w' H4=>r' y w' H4 Q else Q (.bl false) H3):=rfl
theorem y32y {r r' r'':R2}:JkY r r' r'' ta tb tc td σ H Q=ta σ H fun x H1=>tb σ H1 fun y H2=>r x y H2 fun z H3=>∃ k,z=.bl k /\
 (if k=true then tc σ H3 fun w' H4=>r' y w' H4 fun z' H5=>∃ k',z'=.bl k'/\(if k'=true then td σ H5 fun u' H6=>r'' w' u' H6 Q else Q (.bl false) H5) else Q (.bl false) H3):=rfl
theorem y55y {tj:TJ}:tFstr tj σ H Q=tj σ H Str.empty Q:=rfl
theorem y63y {tj:TJ} {acc:Str}:jCons te tj σ H acc Q=te σ H fun x H1=>∃ y,x=.str y/\(acc++y).length<=sizeLine/\tj σ H1 (acc++y) Q:=rfl
theorem y64y {acc:Str}:jNil σ H acc Q=(acc.length<=sizeLine/\Q (.str acc) H):=rfl
theorem y4ey {i:Int}:rFmt (.int i) H Q=(i.natAbs.log2<1920/\Q (.str (toString i)) H):=rfl
theorem y86y {i:Int}:rStrI [.int i] H Q=(i.natAbs.log2<1920/\Q (.str (toString i)) H):=rfl
theorem y8cy {D0:Addr} {i:Nat} {tx:St->Hp->VK->XK->Prop} {ts:TS}:JlM K D0 i tx ts En σ H=tx σ H (fun _ H1=>En.nx σ H1) fun cls _ H1=>∃ C,cls=.ref C/\JhE K C D0 /\
 ∀ ea,H1 ea=none->ts { nx:=fun σ' H'=>En.nx (σ'.set i none) H',rt:=En.rt,bk:=fun σ' H'=>En.bk (σ'.set i none) H',ct:=fun σ' H'=>En.ct (σ'.set i none) H' } (σ.set i (some (.ref ea))) (upd H1 ea (ExcO ea C)):=rfl
theorem y96y {dvs:List V} {Qx:VK} {Ex:XK}:xCall sp dvs tA σ H Qx Ex=tA σ H fun vs H1=>sp (vs++dvs) H1 Qx Ex:=rfl
theorem y7fy {C:Addr}:JjS E C tA En σ H=tA σ H fun vs H1=>vs.length<=sizeLine/\E (.ref C) none H1:=rfl
end
def Its (x:Str):It:=⟨fun i _=>i<x.cps.size,fun i H v H'=>H'=H/\∃ c,x.cps[i]?=some c/\v=.str ⟨#[c]⟩,fun i _=>i=x.cps.size⟩
theorem Jf1 {P:Program} {w:World} {K:W.Frag} {tg:Expr} {it:Addr} {x:Str} {n:String} {St:Nat->Heap->Prop} (hn:["enumerate","zip","dict_itemiterator","dict_reverseitemiterator","odict_iterator","itertools.zip_longest","itertools.pairwise"].contains n=false)
  (hst:∀ i h,St i h->∃ o vs,h.get? it=some o/\o.cls=.type n/\o.data=.fields vs) (mk:∀ A:Around,A.handled=none->Walks P w A it [it] [it] x.cps.size (SignAt x) St)
  (hself:∀ (A:Around) (i:Nat) (s:Shared) (Q:Value->Shared->Prop) (E:Value->Shared->Prop),St i s.heap->Q (.ref it) s->wpAny (model P w) A (pyIter (.ref it)) Q E s):Turn P w K tg (Its x) [it] it St where
 mem:=by simp
 obj:=fun i h g b a=>by
  obtain rfl:b=it:=by simpa using a
  obtain ⟨o,vs,e,_,d⟩:=hst i h g;exact ⟨o,e,fun v z=>by rw [d] at z;cases z⟩
 keep:=fun i h j g k=>(mk {} rfl).frame i h j g fun b a o e=>k b a o e
 item:=by
  intro X F L q p i f s σ H E I m g G;subst F L q;obtain ⟨y,B,U,M,N,C⟩:=m it (by simp);refine (mk X.A (I.ok.hd p)).item i s _ _ G g fun v j D O l t=>?_;obtain ⟨c,u,r,rfl⟩:=O;have I1:Inv X f σ H { s with heap:=j,toks:=D }:=I.turned (fun b o a e=>t b o (by simpa using a) e) y B M N C;obtain ⟨o,vs,S,R,T⟩:=hst _ _ l;exact ⟨_,rfl,go_of (s:={ s with heap:=j,toks:=D }) S R T hn ⟨.str ⟨#[c]⟩,H,I1,⟨u,rfl⟩,⟨rfl,c,r,rfl⟩,l,fun b a=>(m b a).1⟩⟩
 done:=by
  intro X F L q p i f s σ H E I m g G;subst F L q;obtain ⟨y,B,U,M,N,C⟩:=m it (by simp);have J:i=x.cps.size:=G;subst J;exact (mk X.A (I.ok.hd p)).done s _ _ g fun j D t=>⟨rfl,I.turned (fun b o a e=>t b o (by simpa using a) e) y B M N C⟩
 self:=hself
section
variable {X:Cx} {tg:Expr}
def iStr (tl:TE):TI:=fun σ H R=>tl σ H fun x H1=>∃ z,x=.str z/\R (Its z) H1
theorem Jly {l:Expr} {tl:TE} (hl:PE X l tl):PI X tg l (iStr tl):=fun f s σ H R I h=>by
 refine thn (hl f s σ H _ I h) fun v d ζ=>?_;obtain ⟨x,k,I1,m,z,p,q⟩:=ζ;subst p;obtain ⟨t,rfl⟩:=m;have key:∀ (n:String),(n="str_ascii_iterator"\/n="str_iterator")->PIE X f σ tg R (.ref d.heap.objs.size) { d with heap:=d.heap.push { cls:=.type n,data:=.fields #[.str z t, .int 0 0] } }:=fun n y=>by
  have u:Turn X.prog X.w X.K tg (Its z) [d.heap.objs.size] d.heap.objs.size (fun i h=>h.IsStrIter d.heap.objs.size n z t i):=by
   rcases y with rfl | rfl
   ·exact Jf1 (n:="str_ascii_iterator") ⋯ (fun i h g=>let ⟨o,a,b,c⟩:=g;⟨o,_,a,b,c⟩) (fun A j=>Walks.strAscii j _ z t) fun A i s Q E g q=>wpAny_pyIter_striter_ascii g q
   ·exact Jf1 (n:="str_iterator") ⋯ (fun i h g=>let ⟨o,a,b,c⟩:=g;⟨o,_,a,b,c⟩) (fun A j=>Walks.strWide j _ z t) fun A i s Q E g q=>wpAny_pyIter_striter_wide g q
  refine ⟨d.heap.objs.size,[d.heap.objs.size],_,_,k,rfl,I1.kept (t':=d.toks) fun b o e=>Heap.get?_push_of_some _ e,u,⟨_,Heap.get?_push_size _ rfl,rfl,rfl⟩,fun b r=>?_,q⟩;obtain rfl:b=d.heap.objs.size:=by simpa using r
  exact I1.fpOk (Nat.le_refl _) (I1.hok.fresh (Nat.le_refl _))
 cases ha:z.cps.all (· < 128)
 ·exact wpAny_pyIter_wide ha (key _ (.inr rfl))
 ·exact wpAny_pyIter_ascii ha (key _ (.inl rfl))
end
abbrev Cx.inc (X:Cx) (N':List Str) (scope:Scope) (cl:List (Str × Addr)) (fp:List Addr) (s2:Shared) (H2:Hp) (C:Addr):Cx :=
 { X with N:=N',s₀:=s2,H₀:=H2,env:=compEnvC scope cl C X.env,outer:=X.stack,ex:=fp,fn:=fun _=>false,pn:=[],xe:=fun _ _=>False }
section
variable {X:Cx} {pins:List (Addr × Obj)} {σ : St} {H2:Hp} {s2:Shared} {N':List Str} {scope:Scope} {cl:List (Str × Addr)} {fp:List Addr} {C:Addr}
theorem Inv.incOk (I:Inv X pins σ H2 s2) (hf:∀ b∈fp,FpOk X pins H2 b) (hfp:∀ b∈fp,b<s2.heap.objs.size) (hk:scope.kind=.function) (hC:s2.heap.objs.size<=C) (hcl:∀ x c,cl.lookup x=some c->X.env.cells.lookup x=some c)
  (hhas:∀ y,((relabel scope X.env).names.lookup y=some .cell\/(relabel scope X.env).names.lookup y=some .free)->∃ c,cl.lookup y=some c):(X.inc N' scope cl fp s2 H2 C).Ok where
 mod:=I.ok.mod
 kind:=hk
 glob:=I.ok.glob
 blt:=I.ok.blt
 above:=hC
 inj:=fun x y c f i=>I.ok.inj x y c (hcl x c f) (hcl y c i)
 has:=fun y d=>hhas y d
 cab:=fun x c h=>by cases h
 hd:=I.ok.hd
 frames:=I.ok.frames
 stk:=.inl rfl
 exf:=fun b a=>⟨Nat.ne_of_lt (Nat.lt_of_lt_of_le (hfp b a) hC),fun x c e=>(hf b a).2.2.2.2.1 x c (hcl x c e)⟩
 bs:=I.bs
 bsz:=Nat.le_trans I.ok.bsz I.sz
 noex:=fun b o e a=>by
  rcases (hf b a).2.2.2.1 with z | z
  ·exact I.ok.noex b o e z
  ·exact absurd (Nat.lt_of_lt_of_le (Nat.lt_of_lt_of_le (Heap.lt_size e) I.ok.bsz) z) (Nat.lt_irrefl _)
 exfs:=fun b a g=>by
  rcases mem_cons.mp (I.stkSub b g) with z | z
  ·exact (hf b a).2.1 z
  ·exact (hf b a).2.2.1 z
 funs:=I.stack
 frf:=I.stkFree
def JaB (cs:List (Nat × Str)) (σ : St):St:=cs.map fun p=>(σ[p.1]?).join
theorem Inv.capsLoc {s4:Shared} {m:Str->Option Value} {own:List Str} {cs:List (Nat × Str)} (I:Inv X pins σ H2 s2) (ok:(X.inc (own++cs.map (·.2)) scope cl fp s2 H2 C).Ok) (kept:∀ c v,(∃ x,cl.lookup x=some c)->s2.heap.IsCell c v->s4.heap.IsCell c v)
  (hcl:∀ x c,cl.lookup x=some c->X.env.cells.lookup x=some c) (hcs:∀ p∈cs,X.N[p.1]?=some p.2/\X.env.scope.names.lookup p.2=some .cell/\(relabel scope X.env).names.lookup p.2=some .cell) :
  ∀ (i:Nat) (x:Str) (v:V),(own++cs.map (·.2))[i]?=some x->(List.replicate own.length none++JaB cs σ)[i]?=some (some v)->∃ u,RelV v u/\Look (compEnvC scope cl C X.env) s4.heap m x u:=fun i x v t e=>by
  by_cases h:i<own.length
  ·rw [List.getElem?_append_left (by simpa using h),List.getElem?_replicate,if_pos h] at e;cases e
  ·have b:(JaB cs σ)[i-own.length]?=some (some v):=by rw [List.getElem?_append_right (by simp;ac_nf)] at e;simpa using e
   have a:(cs.map (·.2))[i-own.length]?=some x:=by
    rwa [List.getElem?_append_right ∅] at t
   unfold JaB at b;rw [List.getElem?_map] at a b;cases q:cs[i-own.length]? with
   | none=>rw [q] at a;cases a
   | some p=>
    rw [q] at a b;obtain rfl:p.2=x:=by simpa using a
    have d:(σ[p.1]?).join=some v:=by simpa using b
    have g : σ[p.1]?=some (some v):=by
     cases z : σ[p.1]? with
     | none=>rw [z] at d;cases d
     | some o=>rw [z] at d;exact congrArg some d
    obtain ⟨r,l,j⟩:=hcs p (List.mem_of_getElem? q);obtain ⟨y,_,s⟩:=I.loc;obtain ⟨u,n,w⟩:=s p.1 p.2 v r g (.inr (.inl l));refine ⟨u,n, .inr ⟨.inl j,?_⟩⟩;obtain ⟨c,f⟩:=ok.has p.2 (.inl j);refine ⟨c,f,?_⟩;rcases w with ⟨k,_⟩ | ⟨_,c',e',hcell⟩
    ·have k:X.env.scope.names.lookup p.2=some .local:=k;rw [l] at k;cases k
    ·rw [hcl _ _ f] at e';cases e';exact kept _ _ ⟨_,f⟩ hcell
theorem Inv.incStart {s4:Shared} {m:Str->Option Value} {own:List Str} {cs:List (Nat × Str)} (I:Inv X pins σ H2 s2) (ok:(X.inc (own++cs.map (·.2)) scope cl fp s2 H2 C).Ok) (kept:∀ b o,s2.heap.get? b=some o->s4.heap.get? b=some o) (hos:s4.os=s2.os) (hg:s4.gens=s2.gens) (hm:s4.heap.Ns C m)
  (hC:s2.heap.objs.size<=C) (hcl:∀ x c,cl.lookup x=some c->X.env.cells.lookup x=some c)
  (hcs:∀ p∈cs,X.N[p.1]?=some p.2/\X.env.scope.names.lookup p.2=some .cell/\(relabel scope X.env).names.lookup p.2=some .cell) :
  Inv (X.inc (own++cs.map (·.2)) scope cl fp s2 H2 C) [] (List.replicate own.length none++JaB cs σ) H2 s4 where
 ok:=ok
 os:=hos
 bare:=by rw [hg];exact I.bare
 base:=Un.kept kept
 loc:=⟨m,hm,fun i x v g h _=>I.capsLoc (m:=m) ok (fun c v _ ⟨o,a,d⟩=>⟨o,kept _ _ a,d⟩) hcl hcs i x v g h⟩
 cell:=fun x c e=>by
  obtain ⟨v,o,a,d⟩:=I.cell x c (hcl x c e);exact ⟨v,o,kept _ _ a,d⟩
 free:=I.hok.fresh hC
 freeC:=fun x c e=>I.freeC x c (hcl x c e)
 pin:=fun p f=>by simp at f
 hok:=I.hok.kept kept
 len:=by simp [JaB]
theorem Inv.incAgain {s':Shared} {H':Hp} {σ':St} {pl:List (Addr × Obj)} {own:List Str} {cs:List (Nat × Str)} (I:Inv X pins σ H2 s2) (J:Inv (X.inc (own++cs.map (·.2)) scope cl fp s2 H2 C) pl σ' H' s')
  (hf:∀ b∈fp,FpOk X pins H2 b) (hcl:∀ x c,cl.lookup x=some c->X.env.cells.lookup x=some c) (hcs:∀ p∈cs,X.N[p.1]?=some p.2/\X.env.scope.names.lookup p.2=some .cell/\(relabel scope X.env).names.lookup p.2=some .cell) :
  Inv (X.inc (own++cs.map (·.2)) scope cl fp s2 H2 C) [] (List.replicate own.length none++JaB cs σ) H' s' where
 ok:=J.ok
 os:=J.os
 bare:=J.bare
 base:=J.base
 loc:=by
  obtain ⟨m,a,_⟩:=J.loc;refine ⟨m,a,fun i x v j k _=>I.capsLoc (m:=m) J.ok (fun c v ⟨x,d⟩ ⟨o,e,g⟩=>?_) hcl hcs i x v j k⟩;have f:c∉fp:=fun z=>(hf c z).2.2.2.2.1 x c (hcl x c d) rfl;by_cases a:c∈frs X.stack
  ·obtain ⟨l,z⟩:=J.base.slot c o e (I.freeC x c (hcl x c d)) a f;exact ⟨_,z,g⟩
  ·exact ⟨o,J.base.keep c o e (I.freeC x c (hcl x c d)) a f,g⟩
 cell:=J.cell
 free:=J.free
 freeC:=J.freeC
 pin:=fun p h=>by simp at h
 hok:=J.hok
 len:=by simp [JaB]
end
section
variable {prog:Program} {w:World} {A:Around} {E:Value->Shared->Prop} {R:Result->Shared->Prop} {s:Shared}
theorem Jhg {elt target iter:Expr} {scope:Scope} {pos:Pos} {it acc:Value} {env:Env} (J:Nat->Shared->Prop)
  (turn:∀ n s,J n s->wpAny (model prog w) A (pyNext it) (fun r s1=>match r with
   | none=>R (.ok .next) s1
   | some v=>wpAny (model prog w) A (letOwnedTupleGo target it v) (fun _ s2=>wpAny (model prog w) A (assign target env v) (fun _ s3=>wpAny (model prog w) A (eval elt env) (fun x s4=>
     wpAny (model prog w) A (call (.builtin "list.append") [acc,x]) (fun _ s5=>∃ m,m<n/\J m s5) (fun _ _=>False) s4) (fun _ _=>False) s3) (fun _ _=>False) s2) (fun _ _=>False) s1) (fun _ _=>False) s) (n:Nat) (h:J n s) :
  codeAny (model prog w) A (.compLoop (.ListComp elt [⟨target,iter,[],0⟩] scope pos) 0 it acc env) R s:=by
 refine codeAny_loop rfl J (fun n s c=>?_) n h;show wpAny _ A ((compTurn (.ListComp elt [⟨target,iter,[],0⟩] scope pos) 0 it acc env).onRaise (fun y=>do noteFrame y env;theTreesLotGoes y)) _ _ s
 (refine wpAny_noted ?_;rw [compTurn_list])
 refine wpAny_bind (wpAny_standAt (wpAny_bind (wpAny_mono (turn n s c) (fun r s1 a=>?_) fun _ _ z=>z.elim)));cases r with
 | none=>exact wpAny_pure a
 | some v=>
  refine wpAny_bind (wpAny_mono a (fun _ s2 e=>wpAny_bind (wpAny_mono e (fun _ s3 b=>?_) fun _ _ z=>z.elim)) fun _ _ z=>z.elim);refine wpAny_bind (wpAny_tests_nil ?_);exact wpAny_bind (wpAny_bind (wpAny_mono b (fun x s4 d=>(wpAny_bind (wpAny_mono d (fun _ s5 f=>(wpAny_pure (wpAny_pure ⟨rfl,f⟩))) fun _ _ z=>z.elim))) fun _ _ z=>z.elim))
end
def tComp (k:Nat) (cs:List (Nat × Str)) (wi:TI) (g:TG) (te:TE):TE:=fun σ H Q=>wi σ H fun J H1=>∃ W:Nat->Nat->List V->Hp->Prop,(∃ m,W 0 m [] H1)/\∀ i m ys H2,W i m ys H2->ys.length<=sizeLine /\
  ((J.stop i H2/\∀ p,H2 p=none->Q (.ref p) (upd H2 p (.lst ys))) \/
   (J.go i H2/\∀ x H3,J.yld i H2 x H3->g x (List.replicate k none++JaB cs σ) H3 fun σ4 H4=>te σ4 H4 fun y H5=>∃ m',m'<m/\W (i+1) m' (ys++[y]) H5))
theorem lstP {us:List Value} {v:Value}:(us.toArray.push v)=(us++[v]).toArray:=by simp
section
variable {X:Cx} {tg:Expr}
theorem Jeg {iter elt:Expr} {scope:Scope} {pos:Pos} {own:List Str} {cl:List (Str × Addr)} {cs:List (Nat × Str)} {wi:TI} {g:TG} {te:TE} (hc:X.calm=true) (hi:PI X tg iter wi)
  (hg:∀ fp s2 H2 C,PG (X.inc (own++cs.map (·.2)) scope cl fp s2 H2 C) tg g) (he:∀ fp s2 H2 C,PE (X.inc (own++cs.map (·.2)) scope cl fp s2 H2 C) elt te)
  (hclos:closureFor scope X.env=pure cl) (hcell:∀ y∈scope.names,y.2≠.cell) (hkind:scope.kind=.function) (hnames:∀ y∈scope.names,y.2=.local->scope.names.lookup y.1=some .local)
  (hcl:∀ x c,cl.lookup x=some c->X.env.cells.lookup x=some c) (hhas:∀ y,((relabel scope X.env).names.lookup y=some .cell\/(relabel scope X.env).names.lookup y=some .free)->∃ c,cl.lookup y=some c)
  (hcs:∀ p∈cs,X.N[p.1]?=some p.2/\X.env.scope.names.lookup p.2=some .cell/\(relabel scope X.env).names.lookup p.2=some .cell)
  (hs:∀ x,foldedSetIterable iter X.env x=pure x:=by intro _;rfl):PE X (.ListComp elt [⟨tg,iter,[],0⟩] scope pos) (tComp own.length cs wi g te):=by
 intro E s σ H Q I h;rw [eval_ListComp];refine wpAny_comprehension_free (use:=none) rfl hs hclos hkind hnames (thn (hi E s σ H _ I h) fun v s1 h1=>thn h1 fun b8 s2 h2=>?_);obtain ⟨it,fp,tn,J,H2,rfl,I2,T,Z,V,W,⟨m0,w0⟩,a5⟩:=h2;have F:∀ b∈fp,b<s2.heap.objs.size:=fun b d=>by
  obtain ⟨o,e,_⟩:=T.obj _ _ Z b d;exact Heap.lt_size e
 refine wpAny_newObj_type (wpAny_newFunctionEnv hcell (by intro y hy;simp at hy) (fun h4 m k=>?_) hkind);dsimp only at m k ⊢;generalize hH3:s2.heap.push { cls:=.type "list",dict:=none,data:=.seq ([]:List Value).toArray }=H3 at m k ⊢;have a7:H3.objs.size=s2.heap.objs.size+1:=by rw [<- hH3,Heap.size_push]
 have hC:s2.heap.objs.size<=H3.objs.size:=by ac_nf
 have t:s2.heap.objs.size≠H3.objs.size:=by ac_nf
 have a0:∀ b o,s2.heap.get? b=some o->h4.get? b=some o:=fun b o e=>k.extBut b o (by have:=Heap.lt_size e;exact Nat.ne_of_lt (Nat.lt_of_lt_of_le this hC)) (Heap.get?_push_of_some _ (hH3 ▸ Heap.get?_push_of_some _ e));have a9:h4.get? s2.heap.objs.size=some { cls:=.type "list",data:=.seq ([]:List Value).toArray }:=k.extBut _ _ t (Heap.get?_push_of_some _ (hH3 ▸ Heap.get?_push_size _ rfl));obtain ⟨D,f⟩:∃ D,D=s2.heap.objs.size:=⟨_,rfl⟩;obtain ⟨C,b5⟩:∃ C,C=H3.objs.size:=⟨_,rfl⟩;rw [<- b5] at a7 m k hC t ⊢;rw [<- f] at F a7 hC t a9 ⊢;have K:=I2.incOk (N':=own++cs.map (·.2)) (C:=C) V (fun b d=>by rw [<- f];exact F b d) hkind (by rw [<- f];exact hC) hcl hhas;have I4:Inv (X.inc (own++cs.map (·.2)) scope cl fp s2 H2 C) [] (List.replicate own.length none++JaB cs σ) H2 { s2 with heap:=h4,toks:=s2.toks+([]:List (Str × Value)).length } :=
  I2.incStart (s4:={ s2 with heap:=h4,toks:=s2.toks+([]:List (Str × Value)).length }) K a0 rfl rfl m (by rw [<- f];exact hC) hcl hcs
 have Dfree:H2 D=none:=I2.hok.fresh (Nat.le_of_eq f.symm);have G:∀ b o,s2.heap.get? b=some o->b≠D:=fun b o e=>by
  rw [f];exact Nat.ne_of_lt (Heap.lt_size e)
 have b4:∀ b o,s2.heap.get? b=some o->b≠C:=fun b o e=>Nat.ne_of_lt (Nat.lt_of_lt_of_le (by rw [f];exact Heap.lt_size e) hC);have Dfs:D∉frs X.stack:=fun hm=>by
  obtain ⟨_,o,e,_⟩:=I2.stack.mem hm;exact G _ _ e rfl
 have P:∀ {σ':St} {H':Hp} {s':Shared} {us:List Value} {n:Nat} {pl:List (Addr × Obj)},Inv (X.inc (own++cs.map (·.2)) scope cl fp s2 H2 C) pl σ' H' s'->s'.heap.get? D=some { cls:=.type "list",data:=.seq us.toArray n }->H' D=none ->
   Inv (X.inc (own++cs.map (·.2)) scope cl fp s2 H2 C) [(D,{ cls:=.type "list",data:=.seq us.toArray n })] σ' H' s':=fun {σ' H' s' us n pl} J' e n'=>J'.pins_of fun p Y=>by
  rcases mem_singleton.mp Y with rfl
  exact ⟨e,n',t,Dfs,fun v z=>by cases z⟩
 have B:∀ {H':Hp} {o:Obj},(∀ b∈fp,H' b=none)->∀ b∈fp,FpOk (X.inc (own++cs.map (·.2)) scope cl fp s2 H2 C) [(D,o)] H' b:=fun {H' o} hn b d=>by
  refine ⟨hn b d,(K.exf b d).1,K.exfs b d, .inl d,(K.exf b d).2,fun p Y=>?_⟩;rcases mem_singleton.mp Y with rfl
  exact Nat.ne_of_gt (F b d)
 have L:∀ s3:Shared,s3={ s2 with heap:=h4,toks:=s2.toks+([]:List (Str × Value)).length } ->
   codeAny (model X.prog X.w) X.A (.compLoop (.ListComp elt [⟨tg,iter,[],0⟩] scope pos) 0 (.ref it) (.ref D) (compEnvC scope cl C X.env)) (compPost (model X.prog X.w) X.A X.xe none (EP X E σ Q) (.ref D) C) s3:=by
  rintro s3 rfl;refine Jhg (fun n s'=>∃ i ys us S H',Inv (X.inc (own++cs.map (·.2)) scope cl fp s2 H2 C) [(D,{ cls:=.type "list",data:=.seq us.toArray S })] (List.replicate own.length none++JaB cs σ) H' s'/\tn i s'.heap/\(∀ b∈fp,H' b=none)/\Vals ys us/\W i n ys H') ?_ m0
   ⟨0,[],[],0,H2,P (us:=[]) (n:=0) I4 a9 Dfree,T.keep _ _ _ Z fun b d o e=>a0 b o e,fun b d=>(V b d).1, .nil,w0⟩
  rintro n s5 ⟨i,ys,us,S,R,I5,a4,a6,vy,w5⟩;obtain ⟨hz,⟨a2,qn⟩ | ⟨go,a3⟩⟩:=a5 i n ys R w5
  ·refine wpAny_mono (T.done (X.inc (own++cs.map (·.2)) scope cl fp s2 H2 C) rfl rfl rfl hc i _ s5 _ R (fun _ _=>False) I5 (B a6) a4 a2) (fun r s6 z=>?_) fun _ _ z=>z;obtain ⟨rfl,I6⟩:=z;obtain ⟨m6,b6,_⟩:=id I6.loc;refine ⟨m6,b6,fun h7 b0=>?_⟩;obtain ⟨pD,pN,_,_,_⟩:=I6.pin (D,{ cls:=.type "list",data:=.seq us.toArray S }) (by simp);have j:∀ b,b≠C->h7.get? b=s6.heap.get? b:=fun b d=>b0.2 b d;have U:=b4;have u7:Un (frs X.stack) fp H2 R s2.heap h7:=⟨fun b o e n1 n2 n3=>(j b (U b o e)).trans (I6.base.keep b o e n1 n2 n3),fun b o e n1 n2 n3=>by
     obtain ⟨sl,z⟩:=I6.base.slot b o e n1 n2 n3;exact ⟨sl,(j b (U b o e)).trans z⟩,I6.base.free,fun b o e n1=>by
     obtain ⟨o',z⟩:=I6.base.there b o e n1;exact ⟨o',(j b (U b o e)).trans z⟩,I6.base.tups,I6.base.frzs,I6.base.tbls⟩
   have Cfree:R C=none:=I6.free;have a8:HOk X.prog X.w R h7:=fun a o e=>by
    refine (I6.hok a o e).stay (fun c v b1 q=>(j c ?_).trans q) (fun _ q=>q) fun _ _ q=>q;rintro rfl;rcases b1 with z | z
    ·rw [<- z] at e;rw [Cfree] at e;cases e
    ·rw [Cfree] at z;cases z
   have I7:Inv X E σ R { s6 with heap:=h7 }:=I2.call' (s':={ s6 with heap:=h7 }) I6.os u7 a8 I6.bare fun b d=>⟨(V b d).2.2.2.1,(V b d).2.1,(V b d).2.2.2.2.1,(V b d).2.2.2.2.2⟩;have I8:=I7.track (a:=D) (o:=.lst ys) pN (Heap.get?_none_of_le (by rw [f];exact I2.sz)) (by rw [f];exact Nat.ne_of_gt I2.lt) (fun x c e z=>by
     obtain ⟨v,o,ho,_⟩:=I2.cell x c e;exact G _ _ ho z) (fun p Y z=>G _ _ (I2.pin p Y).1 z) ⟨hz,us,S,vy,(j D t).trans pD⟩
   exact ⟨.ref D,_,I8,rfl,qn D pN⟩
  ·refine wpAny_mono (T.item (X.inc (own++cs.map (·.2)) scope cl fp s2 H2 C) rfl rfl rfl hc i _ s5 _ R (fun _ _=>False) I5 (B a6) a4 go) (fun r s6 z=>?_) fun _ _ z=>z;obtain ⟨u,rfl,z⟩:=z;refine wpAny_mono z (fun _ s7 ζ=>?_) fun _ _ z=>z;obtain ⟨x,H7,I7,r7,y7,a1,b2⟩:=ζ;have I7':=I7.pinned (B b2) (T.obj _ _ a1);refine wpAny_mono (hg fp s2 H2 C _ s7 _ H7 x u _ I7' r7 (a3 x H7 y7)) (fun _ s8 ζ=>?_) fun _ _ z=>z;obtain ⟨σ8,H8,I8,q8⟩:=ζ;refine wpAny_mono (he fp s2 H2 C _ s8 σ8 H8 _ I8 q8) (fun uy s9 ζ=>?_) fun _ _ z=>z;obtain ⟨y,H9,I9,r9,m',b7,w9⟩:=ζ;obtain ⟨pD,pN,_,_,_⟩:=I9.pin (D,{ cls:=.type "list",data:=.seq us.toArray S }) (by simp);refine append_at (its:=us.toArray) (n:=S) pD (fun b3 O M=>?_) (by rw [size_toArray, <- vy.length];exact hz);have l:∀ b∈fp, ∀ o,s7.heap.get? b=some o->s9.heap.get? b=some o/\H9 b=none:=fun b d o e=>by
    have z:=I9.pin (b,o) (mem_append_right _ (mem_append_right _ (Jca d e)));exact ⟨z.1,z.2.1⟩
   have I9':Inv (X.inc (own++cs.map (·.2)) scope cl fp s2 H2 C) [] (List.replicate own.length none++JaB cs σ) H9 s9:=I2.incAgain I9 V hcl hcs;have I10:Inv (X.inc (own++cs.map (·.2)) scope cl fp s2 H2 C) [] (List.replicate own.length none++JaB cs σ) H9 { s9 with heap:=b3 }:=I9'.turned (it:=D) (t':=s9.toks) (fun b o d e=>(O.2 b d).trans e) pN t (.inr (Nat.le_of_eq f.symm)) (fun x c e z=>by
     obtain ⟨v,o,ho,_⟩:=I2.cell x c (hcl x c e);exact G _ _ ho z) fun p Y=>by simp at Y
   rw [lstP] at M;refine ⟨m',b7,i+1,ys++[y],us++[uy],S+1,H9,P I10 M pN,T.keep _ _ _ a1 fun b d o e=>?_,fun b d=>?_,vy.append (.cons r9 .nil),w9⟩
   ·exact (O.2 b (Nat.ne_of_lt (F b d))).trans (l b d o e).1
   ·obtain ⟨o,e,_⟩:=T.obj _ _ a1 b d;exact (l b d o e).2
 exact codeAny_compStart_list (L _ rfl) (T.self _ 0 _ _ _ (T.keep _ _ _ Z fun b d o e=>a0 b o e) (L _ rfl))
end
section
variable {X:Cx}
def rInU (K:W.Frag):R2:=fun x y H Q=>match x,y with
 | .str i, .str j=>Q (.bl (!(Builtin.Str.occurrences j i 0 j.length 1).isEmpty)) H
 | x,y=>rIn K false x y H Q
theorem JjL:OpR X (compareOp .In) (rInU X.K):=fun a s σ H x y v u Q I c b q=>by
 unfold rInU at q;split at q
 ·exact Jij a s σ H _ _ v u Q I c b ⟨_,_,rfl,rfl,q⟩
 ·exact Jii a s σ H _ _ v u Q I c b q
theorem Jlr {K:W.Frag} (hK:X.K=K):OpR X (compareOp .In) (rInU K):=hK ▸ JjL
theorem ix_UK {K:W.Frag} (hK:X.K=K):IxR X (rIxU K):=hK ▸ ix_U
theorem Jlq {K:W.Frag} (hK:X.K=K) (hu:X.A.units+64<cLine):OpR X (compareOp .Eq) (rEqU K):=hK ▸ Jcx hu
theorem Jlt {K:W.Frag} (hK:X.K=K) (hu:X.A.units+64<cLine):OpR X (compareOp .NotEq) (rNeU K):=hK ▸ Jdc hu
theorem y5dy {K:W.Frag} {i j:Str} {H:Hp} {Q:VK}:rInU K (.str i) (.str j) H Q=Q (.bl (!(Builtin.Str.occurrences j i 0 j.length 1).isEmpty)) H:=rfl
theorem all_range:∀ bs:List Bool,(List.range bs.length).all (fun i=>bs.getD i false)=bs.all id:=fun bs=>by
 rw [Bool.eq_iff_iff];simp only [List.all_eq_true,List.mem_range,id];constructor
 ·intro h x b;obtain ⟨i,a,rfl⟩:=List.mem_iff_getElem.mp b;have:=h i a;simpa [List.getD_eq_getElem?_getD,a] using this
 ·intro h i a;have:=h bs[i] (List.getElem_mem a);simpa [List.getD_eq_getElem?_getD,a] using this
def rAll (K:W.Frag):List V->Hp->VK->Prop:=fun xs H Q=>∃ (p:Addr) (bs:List Bool),xs=[.ref p]/\SqL K H p (bs.map V.bl)/\Q (.bl (bs.all id)) H
theorem JhI (hc:X.calm=true):CallR X (.builtin "all") (rAll X.K):=fun n s σ H F G Q I r q=>by
 obtain ⟨p,c,rfl,C,q⟩:=q;obtain ⟨a,f,h,N⟩:=I.list C;obtain ⟨u,rfl,t⟩:=vals1 r;cases (show u=Value.ref p from t);refine call_all_walk (wpAny_pyIter_list h.isList ?_);have g:p<s.heap.objs.size:=by
  obtain ⟨_,e,_⟩:=h.isList;exact Heap.lt_size e
 refine ⟨s.heap.objs.size,_,_,a.toArray.size,_,_,fun i=>c.getD i false,rfl,Walks.list (by show X.A.handled=none;exact I.ok.hd hc) s.heap.objs.size p (Nat.ne_of_lt g) a.toArray,⟨⟨_,Heap.get?_push_size _ rfl,rfl,rfl⟩,h.isList.push _⟩,?_,?_⟩
 ·intro i v E Q' E' o D;have d:a[i]?=some v:=by simpa using o
  have j:i<c.length:=by
   obtain ⟨M,_⟩:=List.getElem?_eq_some_iff.mp d;have l:=f.length;rw [length_map] at l;ac_nf
  obtain ⟨J,m,w⟩:=f.get (i:=i) (x:=.bl c[i]) (by simp [j]);rw [d] at m;cases m;cases (show v=Value.bool c[i] from w);refine wpAny_truthy_bool ?_;simpa [List.getD_eq_getElem?_getD,j] using D
 ·intro L B k;have l:=f.length;rw [length_map] at l;have y:(List.range a.toArray.size).all (fun i=>c.getD i false)=c.all id:=by rw [size_toArray, <- l];exact all_range c
  rw [y];exact ⟨.bl _,H,I.kept (t':=B) fun b z e=>k b z (by have:=Heap.lt_size e;simp;exact Nat.ne_of_lt this) (Heap.get?_push_of_some _ e),rfl,q⟩
end
theorem hcl0 {X:Cx}:∀ (x:Str) (c:Addr),([]:List (Str × Addr)).lookup x=some c->X.env.cells.lookup x=some c:=fun _ _ h=>by simp at h
theorem hcs0 {X:Cx} {scope:Scope}:∀ p∈([]:List (Nat × Str)),X.N[p.1]?=some p.2/\X.env.scope.names.lookup p.2=some .cell/\(relabel scope X.env).names.lookup p.2=some .cell:=fun _ h=>by simp at h
theorem hhas0 {X:Cx} {scope:Scope} (h:scope.names.all (fun p=>p.2 != .free&&p.2 != .cell)=true):∀ y,((relabel scope X.env).names.lookup y=some .cell\/(relabel scope X.env).names.lookup y=some .free)->∃ c,([]:List (Str × Addr)).lookup y=some c:=fun y a=>by
 exfalso;have j:=List.all_eq_true.mp h;have f:∀ k,(relabel scope X.env).names.lookup y=some k->k≠.cell/\k≠.free:=fun k e=>by
  have m:=PySem.mem_of_lookup e;obtain ⟨⟨n,b⟩,g,i⟩:=mem_map.mp (show (y,k)∈scope.names.map _ from m);have z:=j _ g;simp only [bne_iff_ne,ne_eq,Bool.and_eq_true] at z;have d:(if (b == NameKind.free&&X.env.scope.kind == .function&&X.env.kindOf n == some .cell)=true then (n,NameKind.cell) else (n,b))=(y,k):=i;split at d
  ·rename_i c;rw [Bool.and_eq_true,Bool.and_eq_true] at c;exact absurd (beq_iff_eq.mp c.1.1) z.1
  ·cases d;exact ⟨z.2,z.1⟩
 rcases a with a | a
 ·exact (f _ a).1 rfl
 ·exact (f _ a).2 rfl
def tyD:D->String
 | .non=>"NoneType"
 | .bl _=>"bool"
 | .int _=>"int"
 | .str _=>"str"
 | .tup _=>"tuple"
 | .lst _=>"list"
theorem Rep.tyN {K:W.Frag} {H:Hp} {d:D} {x:V} (h:Rep K H d x):L2.tyN K H x (tyD d):=by
 cases d <;> simp only [Rep] at h
 ·subst h;rfl
 ·subst h;rfl
 ·subst h;rfl
 ·subst h;rfl
 ·obtain ⟨a,b,rfl,q,_⟩:=h;exact .inr ⟨rfl,b,q⟩
 ·obtain ⟨a,b,rfl,q,_⟩:=h;exact .inl ⟨rfl,b,q⟩
mutual
def szD:D->Prop
 | .int i=>Mth.Sz 4000 i
 | .str s=>s.length<=1000
 | .tup xs=>szL xs
 | .lst xs=>szL xs
 | _=>True
def szL:List D->Prop
 | []=>True
 | x::xs=>szD x/\szL xs
end
def lowB (c:Nat):Bool:=decide (97<=c/\c<=122)
def nameS (s:Str):Bool:=(decide (1<=s.length)&&decide (s.length<=8))&&s.cps.toList.all lowB
def nameB:D->Bool
 | .str s=>nameS s
 | _=>false
def Jce:D->Bool
 | .int _=>true
 | _=>false
def fracB:D->Bool
 | .tup [.int a, .int b]=>decide (1<=b)&&decide (Mth.g a b=1)
 | _=>false
def JcO:D->Bool
 | .non=>true
 | d=>fracB d
def JcP (d e:D):Bool:=nameB d&&nameB e&&!eqD d e
def lessD:D->D->Bool
 | .tup [.int a, .int b], .tup [.int c, .int d]=>decide (a*d<c*b)
 | _,_=>false
def JeU (l g:D):Bool:=JcO l&&JcO g&&!lessD g l
def tieB:D->Bool
 | .tup [n,s,e,l,g]=>nameB n&&JcP s e&&JeU l g
 | _=>false
theorem Jhl:(Str.ofString "abcdefghijklmnopqrstuvwxyz").cps.toList=List.range' 97 26:=by decide
theorem Jhj (c:Nat):(!(Builtin.Str.occurrences (Str.ofString "abcdefghijklmnopqrstuvwxyz") ⟨#[c]⟩ 0 (Str.ofString "abcdefghijklmnopqrstuvwxyz").length 1).isEmpty)=lowB c:=by
 rw [StrLaws.found_one,Jhl];unfold lowB
 congr 1
 rw [List.mem_range'];refine propext ⟨fun ⟨i,a,e⟩=>by ac_nf,fun h=>⟨c-97,by ac_nf,by ac_nf⟩⟩
structure KCal (P:Program) (w:World) (K:W.Frag) (mg:Str->Option Value) (base:Heap) (k:Nat) (x:Str) (C:Addr) (ps:List Str) (sp:Sp):Prop where
 ex:∃ (f:Addr) (fd:FuncData),FnOk P w K mg base (CX1 P w) k f fd ps sp/\mg x=some (.ref C)/\Mk K C f/\Binds K fd ps []
structure MCal (P:Program) (w:World) (K:W.Frag) (mg:Str->Option Value) (base:Heap) (k:Nat) (m:Str) (Cs:Addr->Prop) (ps:List Str) (sp:Sp):Prop where
 ex:∃ (f:Addr) (fd:FuncData),FnOk P w K mg base (CX1 P w) k f fd ps sp/\(∀ C,Cs C->Cls K C/\Meth K C m f)/\W.keepIn K (.ref f)=true/\Binds K fd ps []
def JiM (Cs:Addr->Prop) (m:Str) (sp:Sp) (E:XK) (ta:TE) (t:TA):TE:=fun σ H Q=>ta σ H fun x H1=>∃ a C dx fs,x=.ref a/\H1 a=some (.ins C dx fs)/\Cs C/\fs.lookup m=none/\t σ H1 fun vs H2=>sp (x::vs) H2 Q E
section
variable {X:Cx} {k k':Nat} {x mn:Str} {C:Addr} {Cs:Addr->Prop} {ps:List Str} {sp:Sp} {E:XK} {p pos apos:Pos} {e o:Expr} {es:List Expr} {t:TA} {ta:TE}
theorem KCal.ev (G:KCal X.prog X.w X.K X.mg X.base k x C ps sp) (hr:Room k' X.A) (hk:k+1<=k') (hg:Gl X x) (hx:JbX (CX1 X.prog X.w) X E) (ha:PA X (e::es) t)
  (hdb:(x == ("__debug__" : Str))=false:=by decide) (he:starEach (e::es) X.env=(false,eval e X.env)::starEach es X.env:=by rfl) (hpl:(backTo pos (starEach es X.env)).any (·.1)=false:=by rfl) :
  PE X (.Call (.Name x p) (e::es) [] pos) (tMake C sp [] E t):=by
 obtain ⟨f,c,F,a,M,b⟩:=G.ex;exact JkG M F (hr.mono hk) hg a b .nil hx ha hdb he hpl
theorem MCal.m {pl:Sem Bool} (G:MCal X.prog X.w X.K X.mg X.base k mn Cs ps sp) (hr:Room k' X.A) (hk:k<=k') (hx:JbX (CX1 X.prog X.w) X E) (ho:PE X o ta) (ha:PA X (e::es) t)
  (hst:starEach (e::es) X.env=(false,eval e X.env)::starEach es X.env:=by rfl) (hpl:(backTo pos (starEach es X.env)).any (·.1)=false:=by rfl)
  (ht:eval (.Call (.Attribute o mn apos) (e::es) [] pos) X.env=(do
   let ov <- eval o X.env
   standAt apos.atName
   let (f,first) <- holding [ov] (getMethod ov mn pl)
   callWith pos f first (backTo pos (starEach (e::es) X.env)) (backToKw pos (keywordEach [] X.env))):=by rfl) :
  PE X (.Call (.Attribute o mn apos) (e::es) [] pos) (JiM Cs mn sp E ta t):=by
 obtain ⟨f,M,F,d,p,y⟩:=G.ex;intro b s σ H Q I h;refine W.methodCall_KW (pl:=pl) (thn (ho b s σ H _ I h) fun u g ζ=>?_) ht;obtain ⟨x,i,I1,z,a,C,D,B,v,n,c,l,q⟩:=ζ;subst v;obtain rfl:u=Value.ref a:=z;refine JeK I1 n (d C c).1 (d C c).2 l ?_;refine W.callWith_K (first:=[.ref a]) (h₀:=X.base) I.ok.mod.kin p (thn (ha pos b g σ i _ I1 q) fun us L ⟨vs,J,I2,r,j⟩=>⟨I2.kIn,?_⟩) hst hpl;exact Jg5 (us:=.ref a::us) (vs:=.ref a::vs) F (hr.mono hk) y .nil hx I2 (.cons rfl r) (by simpa using j)
theorem MCal.m0 {pl:Sem Bool} (G:MCal X.prog X.w X.K X.mg X.base k mn Cs ps sp) (hr:Room k' X.A) (hk:k<=k') (hx:JbX (CX1 X.prog X.w) X E) (ho:PE X o ta)
  (ht:eval (.Call (.Attribute o mn apos) [] [] pos) X.env=(do
   let ov <- eval o X.env
   standAt apos.atName
   let (f,first) <- holding [ov] (getMethod ov mn pl)
   callWith pos f first (backTo pos (starEach [] X.env)) (backToKw pos (keywordEach [] X.env))):=by rfl) :
  PE X (.Call (.Attribute o mn apos) [] [] pos) (JiM Cs mn sp E ta tNil):=by
 obtain ⟨f,v,F,d,i,m⟩:=G.ex;intro b s σ H Q I h;refine W.methodCall_KW (pl:=pl) (thn (ho b s σ H _ I h) fun u p ζ=>?_) ht;obtain ⟨x,e,I1,n,a,C,t,r,j,g,c,l,q⟩:=ζ;subst j;obtain rfl:u=Value.ref a:=n;refine JeK I1 g (d C c).1 (d C c).2 l ?_;exact W.callWith_K0 (first:=[.ref a]) I1.kIn i (Jg5 (us:=[.ref a]) (vs:=[.ref a]) F (hr.mono hk) m .nil hx I1 (.cons rfl .nil) (show sp ([.ref a]++[]) e Q E from q))
def rMulS:R2:=fun x y H Q=>match x,y with
 | .str z, .int n=>0<n/\n<1000/\z.length<=1000/\∀ z':Str,z'.cps.toList=(List.replicate n.toNat z.cps.toList).flatten->Q (.str z') H
 | x,y=>rMulU x y H Q
theorem JeV:∀ (l:List (Array Nat)) (acc:Array Nat),(l.foldl (· ++ ·) acc).toList=acc.toList++(l.map (·.toList)).flatten
 | [],acc=>by simp
 | x::l,acc=>by
  rw [List.foldl_cons,JeV l];simp
theorem Jik:OpR X (binaryOp .Mult) rMulS:=fun a s σ H x y v u Q I b d q=>by
 unfold rMulS at q;split at q
 ·rename_i z n;obtain ⟨g,k,h,q⟩:=q;obtain ⟨t,rfl⟩:=b;obtain ⟨j,rfl⟩:=d;have i:z.cps.size=z.length:=rfl;have f:z.length*n.toNat<=1000*1000:=Nat.mul_le_mul h ∅;refine PySem.P.mul_str (by simp;ac_nf) (fun _ _=>?_) (fun _ _=>?_) ?_
  ·have : (1000:Int)<=(2 ^ 63-1)/n:=by
    rw [Int.le_ediv_iff_mul_le g];ac_nf
   ac_nf
  ·unfold Builtin.Str.tooLong;simp;have : (1000*1000:Nat)<=sizeLine:=by decide
   ac_nf
  ·rw [if_neg ∅];split
   ·rename_i c;refine ⟨.str z,H,I,⟨_,rfl⟩,q z ?_⟩;rcases Bool.or_eq_true _ _ |>.mp c with c | c
    ·obtain rfl:n=1:=by simpa using c
     simp
    ·have e:z.cps.toList=[]:=by
      have : z.length=0:=by simpa using c
      exact List.eq_nil_of_length_eq_zero (by rw [Array.length_toList];exact this)
     rw [e];simp
   ·refine ⟨?_, .str _,H,I.tok _,⟨_,rfl⟩,q _ ?_⟩
    ·show (Array.size _)<=sizeLine;rw [<- Array.length_toList,JeV];simp;have : (1000*1000:Nat)<=sizeLine:=by decide
     rw [Nat.mul_comm,i];ac_nf
    ·rw [JeV];simp
 ·exact JkB a s σ H _ _ v u Q I b d q
def rIsN:R2:=fun x y H Q=>y=.non/\Q (.bl (decide (x=.non))) H
def rNotN:R2:=fun x y H Q=>y=.non/\Q (.bl (!decide (x=.non))) H
theorem Jed:OpR X (compareOp .Is) rIsN:=Jls
theorem Jfc:OpR X (compareOp .IsNot) rNotN:=JkC
def JlE (K:W.Frag):List V->Hp->VK->Prop:=fun xs H Q=>∃ p ys,xs=[.ref p]/\(SqL K H p ys\/SqT K H p ys)/\∀ l,H l=none->Q (.ref l) (upd H l (.lst ys))
theorem Jhf:CallR X (.type "list") (JlE X.K):=JfD
end
section
variable {K:W.Frag} {H:Hp} {Q:VK}
theorem y60y {x:V}:rIsN x .non H Q=Q (.bl (decide (x=.non))) H:=by simp [rIsN]
theorem y76y {x:V}:rNotN x .non H Q=Q (.bl (!decide (x=.non))) H:=by simp [rNotN]
theorem y66y {C:Addr} {sp:Sp} {dvs:List V} {E:XK} {t:TA} {σ : St}:tMake C sp dvs E t σ H Q=t σ H fun vs H1=>∀ x dx,H1 x=none->H1 dx=none->dx≠x->sp (.ref x::(vs++dvs)) (upd (upd H1 dx (.own x)) x (.ins C dx [])) (fun v H2=>v=.non/\Q (.ref x) H2) E:=rfl
theorem y67y {Cs:Addr->Prop} {mn:Str} {sp:Sp} {E:XK} {ta:TE} {t:TA} {σ : St}:JiM Cs mn sp E ta t σ H Q=ta σ H fun x H1=>∃ a C dx fs,x=.ref a/\H1 a=some (.ins C dx fs)/\Cs C/\fs.lookup mn=none/\t σ H1 fun vs H2=>sp (x::vs) H2 Q E:=rfl
theorem y4dy {ta:TE} {f:Str} {σ : St}:tFld K ta f σ H Q=ta σ H fun x H1=>∃ a C dx fs v,x=.ref a/\H1 a=some (.ins C dx fs)/\Cls K C/\JaU K C f/\fs.lookup f=some v/\Q v H1:=rfl
theorem y84y {ta tv:TE} {f:Str} {σ : St} {En:Ends}:sFld K ta tv f En σ H=tv σ H fun y H1=>ta σ H1 fun x H2=>∃ a C dx fs,x=.ref a/\H2 a=some (.ins C dx fs)/\Cls K C/\JaU K C f/\fs.length<1000/\En.nx σ (upd H2 a (.ins C dx (putF f y fs))):=rfl
theorem y2cy {T:String} {r:V->List V->Hp->VK->Prop} {to:TE} {t:TA} {σ : St}:tBM K T r to t σ H Q=to σ H fun x H1=>tyV K T x H1/\t σ H1 fun vs H2=>r x vs H2 Q:=rfl
theorem y57y {g:TG} {gs:TGs} {v:V} {r:List V} {σ : St} {R:St->Hp->Prop}:gCons g gs (v::r) σ H R=g v σ H fun σ' H'=>gs r σ' H' R:=by
 unfold gCons;refine propext ⟨fun ⟨b,a,e,h⟩=>?_,fun h=>⟨v,r,rfl,h⟩⟩;cases e;exact h
theorem y59y {σ : St} {R:St->Hp->Prop}:gNil [] σ H R=R σ H:=by unfold gNil;simp
theorem FrV.of_rep {x:V} {a b:Int} (h:Rep K H (.tup [.int a, .int b]) x):FrV K H x a b:=by
 simp only [Rep,RepL] at h;obtain ⟨p,c,rfl,q,v,r,rfl,rfl,e,d,rfl,rfl,rfl⟩:=h;exact ⟨p,rfl,q⟩
theorem Jdo {d:D} (h:fracB d=true):∃ a b,d=.tup [.int a, .int b]/\1<=b/\Mth.g a b=1:=by
 unfold fracB at h;split at h
 ·rw [Bool.and_eq_true] at h;exact ⟨_,_,rfl,by simpa using h.1,by simpa using h.2⟩
 ·cases h
theorem JeO {d:D} (h:nameB d=true):∃ z,d=.str z/\nameS z=true:=by
 cases d <;> first | exact ⟨_,rfl,h⟩ | (simp [nameB] at h)
theorem Rep.str {d:Str} {x:V} (h:Rep K H (.str d) x):x=.str d:=by simpa only [Rep] using h
def nonD:D->Bool
 | .non=>true
 | _=>false
theorem Jid {d:D} (h:d≠.non):nonD d=false:=by cases d <;> first | rfl | exact absurd rfl h
theorem Rep.nonV {d:D} {x:V} (hx:Rep K H d x):decide (x=.non)=nonD d:=by
 cases d <;> simp only [Rep] at hx
 ·subst hx;rfl
 ·subst hx;rfl
 ·subst hx;rfl
 ·subst hx;rfl
 ·obtain ⟨a,b,rfl,_⟩:=hx;rfl
 ·obtain ⟨a,b,rfl,_⟩:=hx;rfl
theorem putE {H':Hp} {l:Addr} {o:HO} (e:upd H l o=H'):H' l=some o:=by rw [<- e,Jak]
end
section
variable {En:Ends} {σ : St} {H:Hp} {Q:VK} {ta tb te tc td:TE} {K:W.Frag}
end
def Jbt (cells:List (Str × Addr)):List (Str × NameKind)->List (Str × Addr)->List (Str × Addr)
 | [],acc=>acc
 | (n,k)::r,acc=>Jbt cells r (if k == .free then (n,(cells.lookup n).getD 0)::acc else acc)
theorem Jf9 {env:Env}:∀ (names:List (Str × NameKind)) (acc:List (Str × Addr)),(∀ p∈names,p.2=.free->∃ c,env.cells.lookup p.1=some c) ->
  (forIn names acc fun (p:Str × NameKind) cs=>(if p.2 == .free then do let c <- cellOf env p.1;pure (ForInStep.yield ((p.1,c)::cs)) else pure (ForInStep.yield cs):Sem (ForInStep (List (Str × Addr)))))=(pure (Jbt env.cells names acc):Sem (List (Str × Addr)))
 | [],acc,_=>by simp [Jbt]
 | (n,k)::r,acc,h=>by
  rw [List.forIn_cons];by_cases c:(k == .free)=true
  ·obtain ⟨a,ha⟩:=h (n,k) mem_cons_self (beq_iff_eq.mp c);have e:cellOf env n=pure a:=by unfold cellOf;rw [ha]
   simp only [c,if_true,e,pure_bind];have:=Jf9 (env:=env) r ((n,a)::acc) fun p hp=>h p (mem_cons_of_mem _ hp);simp only [Jbt,c,if_true,ha,Option.getD_some];exact this
  ·have c':(k == .free)=false:=by simpa using c
   simp only [c',Bool.false_eq_true,if_false,pure_bind];have:=Jf9 (env:=env) r acc fun p hp=>h p (mem_cons_of_mem _ hp);simp only [Jbt,c',Bool.false_eq_true,if_false];exact this
theorem Jf8 {scope:Scope} {env:Env} (h:∀ p∈scope.names,p.2=.free->∃ c,env.cells.lookup p.1=some c):closureFor scope env=pure (Jbt env.cells scope.names []):=by
 have:=Jf9 (env:=env) scope.names [] h;unfold closureFor;simp only [pure_bind];refine Eq.trans ?_ (congrArg (fun m:Sem (List (Str × Addr))=>m >>= pure) this |>.trans (by simp));first | rfl | (congr 1)
theorem JcL {cells:List (Str × Addr)}:∀ (names:List (Str × NameKind)) (acc:List (Str × Addr)),(∀ x c,acc.lookup x=some c->cells.lookup x=some c)->(∀ p∈names,p.2=.free->∃ c,cells.lookup p.1=some c) ->
  ∀ x c,(Jbt cells names acc).lookup x=some c->cells.lookup x=some c
 | [],acc,ha,_,x,c,h=>ha x c h
 | (n,k)::r,acc,ha,hf,x,c,h=>by
  simp only [Jbt] at h;refine JcL r _ ?_ (fun p hp=>hf p (mem_cons_of_mem _ hp)) x c h;intro y d hy;by_cases f:(k == .free)=true
  ·rw [if_pos f] at hy;obtain ⟨a,e⟩:=hf (n,k) mem_cons_self (beq_iff_eq.mp f);rw [List.lookup_cons] at hy;by_cases q:(y == n)=true
   ·rw [q] at hy;have q':y=n:=beq_iff_eq.mp q;subst q';have e':cells.lookup y=some a:=e;rw [e'] at hy ⊢;simpa using hy
   ·have q':(y == n)=false:=by simpa using q
    rw [q'] at hy;exact ha y d hy
  ·rw [if_neg f] at hy;exact ha y d hy
theorem JcK {cells:List (Str × Addr)}:∀ (names:List (Str × NameKind)) (acc:List (Str × Addr)) (y:Str),((∃ c,acc.lookup y=some c)\/(y,NameKind.free)∈names)->∃ c,(Jbt cells names acc).lookup y=some c
 | [],acc,y,h=>by
  rcases h with h | h
  ·exact h
  ·simp at h
 | (n,k)::r,acc,y,h=>by
  simp only [Jbt];refine JcK r _ y ?_;rcases h with ⟨c,h⟩ | h
  ·refine .inl ?_;split
   ·rw [List.lookup_cons];cases (y == n)
    ·exact ⟨c,h⟩
    ·exact ⟨_,rfl⟩
   ·exact ⟨c,h⟩
  ·rcases mem_cons.mp h with e | h
   ·cases e;refine .inl ?_;rw [if_pos ⋯,List.lookup_cons];simp
   ·exact .inr h
section
variable {X:Cx} {tg:Expr}
theorem Jjj {iter elt:Expr} {scope:Scope} {pos:Pos} {own:List Str} {cs:List (Nat × Str)} {wi:TI} {g:TG} {te:TE} (hc:X.calm=true) (hi:PI X tg iter wi)
  (hg:∀ fp s2 H2 C,PG (X.inc (own++cs.map (·.2)) scope (Jbt X.env.cells scope.names []) fp s2 H2 C) tg g) (he:∀ fp s2 H2 C,PE (X.inc (own++cs.map (·.2)) scope (Jbt X.env.cells scope.names []) fp s2 H2 C) elt te)
  (hfree:∀ p∈scope.names,p.2=.free->X.env.scope.names.lookup p.1=some .cell) (hcell:∀ y∈scope.names,y.2≠.cell) (hkind:scope.kind=.function) (hnames:∀ y∈scope.names,y.2=.local->scope.names.lookup y.1=some .local)
  (hcs:∀ p∈cs,X.N[p.1]?=some p.2/\X.env.scope.names.lookup p.2=some .cell/\(relabel scope X.env).names.lookup p.2=some .cell)
  (hs:∀ x,foldedSetIterable iter X.env x=pure x:=by intro _;rfl):PE X (.ListComp elt [⟨tg,iter,[],0⟩] scope pos) (tComp own.length cs wi g te):=by
 intro b s σ H Q I h;have l:∀ p∈scope.names,p.2=.free->∃ c,X.env.cells.lookup p.1=some c:=fun p q i=>I.ok.has p.1 (.inl (hfree p q i));refine Jeg hc hi hg he (Jf8 l) hcell hkind hnames (JcL scope.names [] (fun _ _ z=>by simp at z) l) (fun y a=>JcK scope.names [] y (.inr ?_)) hcs hs b s σ H Q I h;have o:∀ k,(k=.cell\/k=.free)->(relabel scope X.env).names.lookup y=some k->(y,NameKind.free)∈scope.names:=fun k i e=>by
  have m:=PySem.mem_of_lookup e;obtain ⟨⟨n,j⟩,f,r⟩:=mem_map.mp (show (y,k)∈scope.names.map _ from m);have d:(if (j == NameKind.free&&X.env.scope.kind == .function&&X.env.kindOf n == some .cell)=true then (n,NameKind.cell) else (n,j))=(y,k):=r;split at d
  ·rename_i c;rw [Bool.and_eq_true,Bool.and_eq_true] at c;have:=beq_iff_eq.mp c.1.1;subst this;cases d;exact f
  ·cases d;rcases i with rfl | rfl
   ·exact absurd rfl (hcell _ f)
   ·exact f
 rcases a with a | a
 ·exact o _ (.inl rfl) a
 ·exact o _ (.inr rfl) a
theorem JdW {scope sc:Scope} (h:scope.names.all (fun p=>p.2 != .free||(sc.names.lookup p.1 == some .cell))=true):∀ p∈scope.names,p.2=.free->sc.names.lookup p.1=some .cell:=fun p a b=>by
 have z:=List.all_eq_true.mp h p a;rw [b] at z;simpa using z
end
theorem hcs1 {X:Cx} {scope:Scope} {i:Nat} {x:Str} (a:X.N[i]?=some x) (b:X.env.scope.names.lookup x=some .cell) (c:(relabel scope X.env).names.lookup x=some .cell) :
  ∀ p∈[(i,x)],X.N[p.1]?=some p.2/\X.env.scope.names.lookup p.2=some .cell/\(relabel scope X.env).names.lookup p.2=some .cell:=fun p d=>by
 rcases mem_singleton.mp d with rfl
 exact ⟨a,b,c⟩
theorem hcs2 {X:Cx} {scope:Scope} {i j:Nat} {x y:Str} (a:X.N[i]?=some x) (b:X.env.scope.names.lookup x=some .cell) (c:(relabel scope X.env).names.lookup x=some .cell)
  (a':X.N[j]?=some y) (b':X.env.scope.names.lookup y=some .cell) (c':(relabel scope X.env).names.lookup y=some .cell) :
  ∀ p∈[(i,x),(j,y)],X.N[p.1]?=some p.2/\X.env.scope.names.lookup p.2=some .cell/\(relabel scope X.env).names.lookup p.2=some .cell:=fun p d=>by
 rcases mem_cons.mp d with rfl | d
 ·exact ⟨a,b,c⟩
 ·rcases mem_singleton.mp d with rfl
  exact ⟨a',b',c'⟩
section
variable {X:Cx} {tg:Expr}
theorem JhV {X:Cx} {scope:Scope} (hcell:∀ y∈scope.names,y.2≠.cell) {y:Str} (hy:(relabel scope X.env).names.lookup y=some .cell\/(relabel scope X.env).names.lookup y=some .free):(y,NameKind.free)∈scope.names:=by
 have f:∀ k,(k=.cell\/k=.free)->(relabel scope X.env).names.lookup y=some k->(y,NameKind.free)∈scope.names:=fun k h e=>by
  have m:=PySem.mem_of_lookup e;obtain ⟨⟨n,d⟩,a,g⟩:=mem_map.mp (show (y,k)∈scope.names.map _ from m);have b:(if (d == NameKind.free&&X.env.scope.kind == .function&&X.env.kindOf n == some .cell)=true then (n,NameKind.cell) else (n,d))=(y,k):=g;split at b
  ·rename_i c;rw [Bool.and_eq_true,Bool.and_eq_true] at c;have:=beq_iff_eq.mp c.1.1;subst this;cases b;exact a
  ·cases b;rcases h with rfl | rfl
   ·exact absurd rfl (hcell _ a)
   ·exact a
 rcases hy with hy | hy
 ·exact f _ (.inl rfl) hy
 ·exact f _ (.inr rfl) hy
end
section
variable {prog:Program} {w:World} {A:Around} {E:Value->Shared->Prop} {R:Result->Shared->Prop} {s:Shared}
theorem Jga {elt target iter tst:Expr} {scope:Scope} {pos:Pos} {it acc:Value} {env:Env} (J:Nat->Shared->Prop)
  (turn:∀ n s,J n s->wpAny (model prog w) A (pyNext it) (fun r s1=>match r with
   | none=>R (.ok .next) s1
   | some v=>wpAny (model prog w) A (letOwnedTupleGo target it v) (fun _ s2=>wpAny (model prog w) A (assign target env v) (fun _ s3=>wpAny (model prog w) A (isTrue tst env (eval tst env)) (fun b s3'=>if b=true then wpAny (model prog w) A (eval elt env) (fun x s4=>
     wpAny (model prog w) A (call (.builtin "list.append") [acc,x]) (fun _ s5=>∃ m,m<n/\J m s5) (fun _ _=>False) s4) (fun _ _=>False) s3' else ∃ m,m<n/\J m s3') (fun _ _=>False) s3) (fun _ _=>False) s2) (fun _ _=>False) s1) (fun _ _=>False) s) (n:Nat) (h:J n s) :
  codeAny (model prog w) A (.compLoop (.ListComp elt [⟨target,iter,[tst],0⟩] scope pos) 0 it acc env) R s:=by
 refine codeAny_loop rfl J (fun n s i=>?_) n h;show wpAny _ A ((compTurn (.ListComp elt [⟨target,iter,[tst],0⟩] scope pos) 0 it acc env).onRaise (fun y=>do noteFrame y env;theTreesLotGoes y)) _ _ s
 (refine wpAny_noted ?_;rw [compTurn_list])
 refine wpAny_bind (wpAny_standAt (wpAny_bind (wpAny_mono (turn n s i) (fun r s1 c=>?_) fun _ _ z=>z.elim)));cases r with
 | none=>exact wpAny_pure c
 | some v=>
  refine wpAny_bind (wpAny_mono c (fun _ s2 e=>wpAny_bind (wpAny_mono e (fun _ s3 d=>?_) fun _ _ z=>z.elim)) fun _ _ z=>z.elim);refine wpAny_bind (wpAny_tests_one (wpAny_mono d (fun b s3' a=>?_) fun _ _ z=>z.elim));cases b with
  | true=>exact wpAny_bind (wpAny_bind (wpAny_mono a (fun x s4 f=>(wpAny_bind (wpAny_mono f (fun _ s5 g=>(wpAny_pure (wpAny_pure ⟨rfl,g⟩))) fun _ _ z=>z.elim))) fun _ _ z=>z.elim))
  | false=>exact wpAny_bind (wpAny_pure (wpAny_pure ⟨rfl,a⟩))
end
def JfZ (k:Nat) (cs:List (Nat × Str)) (wi:TI) (g:TG) (tt:TT) (te:TE):TE:=fun σ H Q=>wi σ H fun J H1=>∃ W:Nat->Nat->List V->Hp->Prop,(∃ m,W 0 m [] H1)/\∀ i m ys H2,W i m ys H2->ys.length<=sizeLine /\
  ((J.stop i H2/\∀ p,H2 p=none->Q (.ref p) (upd H2 p (.lst ys))) \/
   (J.go i H2/\∀ x H3,J.yld i H2 x H3->g x (List.replicate k none++JaB cs σ) H3 fun σ4 H4=>tt σ4 H4 fun b H5=>if b=true then te σ4 H5 fun y H6=>∃ m',m'<m/\W (i+1) m' (ys++[y]) H6 else ∃ m',m'<m/\W (i+1) m' ys H5))
section
variable {X:Cx} {tg:Expr}
theorem JdU {iter elt tst:Expr} {scope:Scope} {pos:Pos} {own:List Str} {cl:List (Str × Addr)} {cs:List (Nat × Str)} {g:TG} {te:TE} {tt:TT} {pins:List (Addr × Obj)} {s2:Shared} {σ : St} {H2:Hp} {it:Addr} {fp:List Addr} {tn:Nat->Heap->Prop} {J:It}
  {W:Nat->Nat->List V->Hp->Prop} {m0:Nat} {QN:List V->Hp->Prop} {RR:Value->Addr->Result->Shared->Prop} {E:Value->Shared->Prop} (hc:X.calm=true)
  (hg:∀ fp s2 H2 C,PG (X.inc (own++cs.map (·.2)) scope cl fp s2 H2 C) tg g) (ht:∀ fp s2 H2 C,PT (X.inc (own++cs.map (·.2)) scope cl fp s2 H2 C) tst tt) (he:∀ fp s2 H2 C,PE (X.inc (own++cs.map (·.2)) scope cl fp s2 H2 C) elt te)
  (hcell:∀ y∈scope.names,y.2≠.cell) (hkind:scope.kind=.function)
  (hcl:∀ x c,cl.lookup x=some c->X.env.cells.lookup x=some c) (hhas:∀ y,((relabel scope X.env).names.lookup y=some .cell\/(relabel scope X.env).names.lookup y=some .free)->∃ c,cl.lookup y=some c)
  (hcs:∀ p∈cs,X.N[p.1]?=some p.2/\X.env.scope.names.lookup p.2=some .cell/\(relabel scope X.env).names.lookup p.2=some .cell)
  (I2:Inv X pins σ H2 s2) (T:Turn X.prog X.w X.K tg J fp it tn) (st2:tn 0 s2.heap) (f2:∀ b∈fp,FpOk X pins H2 b) (w0:W 0 m0 [] H2)
  (turn:∀ i m ys H2,W i m ys H2->ys.length<=sizeLine/\((J.stop i H2/\QN ys H2)\/(J.go i H2/\∀ x H3,J.yld i H2 x H3->g x (List.replicate own.length none++JaB cs σ) H3 fun σ4 H4=>tt σ4 H4 fun b H5=>if b=true then te σ4 H5 fun y H6=>∃ m',m'<m/\W (i+1) m' (ys++[y]) H6 else ∃ m',m'<m/\W (i+1) m' ys H5)))
  (hRR:∀ (D C:Addr) (s6:Shared) (H5:Hp) (ys:List V),(∀ h7,Heap.SameBut C s6.heap h7->Inv X pins σ (upd H5 D (.lst ys)) { s6 with heap:=h7 })->H5 D=none->H5 C=none->D≠C->(∃ m,s6.heap.Ns C m)->s2.heap.objs.size<=C->QN ys H5->RR (.ref D) C (.ok .next) s6) :
  wpAny (model X.prog X.w) X.A (newList []) (fun acc s₃=>wpAny (model X.prog X.w) X.A (newFunctionEnv scope X.env.globals cl [] X.env.qual none .none (some X.env)) (fun cenv s₄=>
   codeAny (model X.prog X.w) X.A (.compStart (.ListComp elt [⟨tg,iter,[tst],0⟩] scope pos) 0 (.ref it) acc { cenv with scope:=relabel scope X.env }) (RR acc cenv.locals) s₄) E s₃) E s2:=by
 have I:∀ b∈fp,b<s2.heap.objs.size:=fun b d=>by
  obtain ⟨o,e,_⟩:=T.obj _ _ st2 b d;exact Heap.lt_size e
 refine wpAny_newObj_type (wpAny_newFunctionEnv hcell (by intro y hy;simp at hy) (fun h4 t k=>?_) hkind);dsimp only at t k ⊢;generalize hH3:s2.heap.push { cls:=.type "list",dict:=none,data:=.seq ([]:List Value).toArray }=H3 at t k ⊢;have a6:H3.objs.size=s2.heap.objs.size+1:=by rw [<- hH3,Heap.size_push]
 have Y:s2.heap.objs.size<=H3.objs.size:=by ac_nf
 have l:s2.heap.objs.size≠H3.objs.size:=by ac_nf
 have a0:∀ b o,s2.heap.get? b=some o->h4.get? b=some o:=fun b o e=>k.extBut b o (by have:=Heap.lt_size e;exact Nat.ne_of_lt (Nat.lt_of_lt_of_le this Y)) (Heap.get?_push_of_some _ (hH3 ▸ Heap.get?_push_of_some _ e));have a8:h4.get? s2.heap.objs.size=some { cls:=.type "list",data:=.seq ([]:List Value).toArray }:=k.extBut _ _ l (Heap.get?_push_of_some _ (hH3 ▸ Heap.get?_push_size _ rfl));obtain ⟨D,h⟩:∃ D,D=s2.heap.objs.size:=⟨_,rfl⟩;obtain ⟨C,b4⟩:∃ C,C=H3.objs.size:=⟨_,rfl⟩;rw [<- b4] at a6 t k Y l ⊢;rw [<- h] at I a6 Y l a8 ⊢;have O:=I2.incOk (N':=own++cs.map (·.2)) (C:=C) f2 (fun b d=>by rw [<- h];exact I b d) hkind (by rw [<- h];exact Y) hcl hhas;have I4:Inv (X.inc (own++cs.map (·.2)) scope cl fp s2 H2 C) [] (List.replicate own.length none++JaB cs σ) H2 { s2 with heap:=h4,toks:=s2.toks+([]:List (Str × Value)).length } :=
  I2.incStart (s4:={ s2 with heap:=h4,toks:=s2.toks+([]:List (Str × Value)).length }) O a0 rfl rfl t (by rw [<- h];exact Y) hcl hcs
 have Dfree:H2 D=none:=I2.hok.fresh (Nat.le_of_eq h.symm);have L:∀ b o,s2.heap.get? b=some o->b≠D:=fun b o e=>by
  rw [h];exact Nat.ne_of_lt (Heap.lt_size e)
 have b3:∀ b o,s2.heap.get? b=some o->b≠C:=fun b o e=>Nat.ne_of_lt (Nat.lt_of_lt_of_le (by rw [h];exact Heap.lt_size e) Y);have Dfs:D∉frs X.stack:=fun hm=>by
  obtain ⟨_,o,e,_⟩:=I2.stack.mem hm;exact L _ _ e rfl
 have B:∀ {σ':St} {H':Hp} {s':Shared} {us:List Value} {n:Nat} {pl:List (Addr × Obj)},Inv (X.inc (own++cs.map (·.2)) scope cl fp s2 H2 C) pl σ' H' s'->s'.heap.get? D=some { cls:=.type "list",data:=.seq us.toArray n }->H' D=none ->
   Inv (X.inc (own++cs.map (·.2)) scope cl fp s2 H2 C) [(D,{ cls:=.type "list",data:=.seq us.toArray n })] σ' H' s':=fun {σ' H' s' us n pl} J' e n'=>J'.pins_of fun p hp=>by
  rcases mem_singleton.mp hp with rfl
  exact ⟨e,n',l,Dfs,fun v z=>by cases z⟩
 have F:∀ {H':Hp} {o:Obj},(∀ b∈fp,H' b=none)->∀ b∈fp,FpOk (X.inc (own++cs.map (·.2)) scope cl fp s2 H2 C) [(D,o)] H' b:=fun {H' o} hn b d=>by
  refine ⟨hn b d,(O.exf b d).1,O.exfs b d, .inl d,(O.exf b d).2,fun p hp=>?_⟩;rcases mem_singleton.mp hp with rfl
  exact Nat.ne_of_gt (I b d)
 have P:∀ s3:Shared,s3={ s2 with heap:=h4,toks:=s2.toks+([]:List (Str × Value)).length } ->
   codeAny (model X.prog X.w) X.A (.compLoop (.ListComp elt [⟨tg,iter,[tst],0⟩] scope pos) 0 (.ref it) (.ref D) (compEnvC scope cl C X.env)) (RR (.ref D) C) s3:=by
  rintro s3 rfl;refine Jga (fun n s'=>∃ i ys us H H',Inv (X.inc (own++cs.map (·.2)) scope cl fp s2 H2 C) [(D,{ cls:=.type "list",data:=.seq us.toArray H })] (List.replicate own.length none++JaB cs σ) H' s'/\tn i s'.heap/\(∀ b∈fp,H' b=none)/\Vals ys us/\W i n ys H') ?_ m0
   ⟨0,[],[],0,H2,B (us:=[]) (n:=0) I4 a8 Dfree,T.keep _ _ _ st2 fun b d o e=>a0 b o e,fun b d=>(f2 b d).1, .nil,w0⟩
  rintro n s5 ⟨i,ys,us,H,H5,I5,a3,a5,vy,w5⟩;obtain ⟨hz,⟨stop,qn⟩ | ⟨go,a2⟩⟩:=turn i n ys H5 w5
  ·refine wpAny_mono (T.done (X.inc (own++cs.map (·.2)) scope cl fp s2 H2 C) rfl rfl rfl hc i _ s5 _ H5 (fun _ _=>False) I5 (F a5) a3 stop) (fun r s6 z=>?_) fun _ _ z=>z;obtain ⟨rfl,I6⟩:=z;obtain ⟨m6,b5,_⟩:=id I6.loc;obtain ⟨pD,S,_,_,_⟩:=I6.pin (D,{ cls:=.type "list",data:=.seq us.toArray H }) (by simp);have Cfree:H5 C=none:=I6.free;refine hRR D C s6 H5 ys (fun h7 a9=>?_) S Cfree l ⟨m6,b5⟩ (by rw [<- h];exact Y) qn;have j:∀ b,b≠C->h7.get? b=s6.heap.get? b:=fun b d=>a9.2 b d;have U:=b3;have u7:Un (frs X.stack) fp H2 H5 s2.heap h7:=⟨fun b o e n1 n2 n3=>(j b (U b o e)).trans (I6.base.keep b o e n1 n2 n3),fun b o e n1 n2 n3=>by
     obtain ⟨sl,z⟩:=I6.base.slot b o e n1 n2 n3;exact ⟨sl,(j b (U b o e)).trans z⟩,I6.base.free,fun b o e n1=>by
     obtain ⟨o',z⟩:=I6.base.there b o e n1;exact ⟨o',(j b (U b o e)).trans z⟩,I6.base.tups,I6.base.frzs,I6.base.tbls⟩
   have a7:HOk X.prog X.w H5 h7:=fun a o e=>by
    refine (I6.hok a o e).stay (fun c v b0 q=>(j c ?_).trans q) (fun _ q=>q) fun _ _ q=>q;rintro rfl;rcases b0 with z | z
    ·rw [<- z] at e;rw [Cfree] at e;cases e
    ·rw [Cfree] at z;cases z
   have I7:Inv X pins σ H5 { s6 with heap:=h7 }:=I2.call' (s':={ s6 with heap:=h7 }) I6.os u7 a7 I6.bare fun b d=>⟨(f2 b d).2.2.2.1,(f2 b d).2.1,(f2 b d).2.2.2.2.1,(f2 b d).2.2.2.2.2⟩;exact I7.track (a:=D) (o:=.lst ys) S (Heap.get?_none_of_le (by rw [h];exact I2.sz)) (by rw [h];exact Nat.ne_of_gt I2.lt) (fun x c e z=>by
     obtain ⟨v,o,ho,_⟩:=I2.cell x c e;exact L _ _ ho z) (fun p hp z=>L _ _ (I2.pin p hp).1 z) ⟨hz,us,H,vy,(j D l).trans pD⟩
  ·refine wpAny_mono (T.item (X.inc (own++cs.map (·.2)) scope cl fp s2 H2 C) rfl rfl rfl hc i _ s5 _ H5 (fun _ _=>False) I5 (F a5) a3 go) (fun r s6 z=>?_) fun _ _ z=>z;obtain ⟨u,rfl,z⟩:=z;refine wpAny_mono z (fun _ s7 ζ=>?_) fun _ _ z=>z;obtain ⟨x,H7,I7,r7,y7,G,b1⟩:=ζ;have I7':=I7.pinned (F b1) (T.obj _ _ G);refine wpAny_mono (hg fp s2 H2 C _ s7 _ H7 x u _ I7' r7 (a2 x H7 y7)) (fun _ s8 ζ=>?_) fun _ _ z=>z;obtain ⟨σ8,H8,I8,q8⟩:=ζ;refine wpAny_mono (ht fp s2 H2 C _ s8 σ8 H8 _ I8 q8) (fun bb Z ζ=>?_) fun _ _ z=>z;obtain ⟨M,I8',a4⟩:=ζ;cases bb with
   | true=>
    refine wpAny_mono (he fp s2 H2 C _ Z σ8 M _ I8' a4) (fun uy s9 ζ=>?_) fun _ _ z=>z;obtain ⟨y,H9,I9,r9,m',a1,w9⟩:=ζ;obtain ⟨pD,S,_,_,_⟩:=I9.pin (D,{ cls:=.type "list",data:=.seq us.toArray H }) (by simp);refine append_at (its:=us.toArray) (n:=H) pD (fun b2 R Q=>?_) (by rw [size_toArray, <- vy.length];exact hz);have f:∀ b∈fp, ∀ o,s7.heap.get? b=some o->s9.heap.get? b=some o/\H9 b=none:=fun b d o e=>by
     have z:=I9.pin (b,o) (mem_append_right _ (mem_append_right _ (Jca d e)));exact ⟨z.1,z.2.1⟩
    have I9':Inv (X.inc (own++cs.map (·.2)) scope cl fp s2 H2 C) [] (List.replicate own.length none++JaB cs σ) H9 s9:=I2.incAgain I9 f2 hcl hcs;have I10:Inv (X.inc (own++cs.map (·.2)) scope cl fp s2 H2 C) [] (List.replicate own.length none++JaB cs σ) H9 { s9 with heap:=b2 }:=I9'.turned (it:=D) (t':=s9.toks) (fun b o d e=>(R.2 b d).trans e) S l (.inr (Nat.le_of_eq h.symm)) (fun x c e z=>by
      obtain ⟨v,o,ho,_⟩:=I2.cell x c (hcl x c e);exact L _ _ ho z) fun p hp=>by simp at hp
    rw [lstP] at Q;refine ⟨m',a1,i+1,ys++[y],us++[uy],H+1,H9,B I10 Q S,T.keep _ _ _ G fun b d o e=>?_,fun b d=>?_,vy.append (.cons r9 .nil),w9⟩
    ·exact (R.2 b (Nat.ne_of_lt (I b d))).trans (f b d o e).1
    ·obtain ⟨o,e,_⟩:=T.obj _ _ G b d;exact (f b d o e).2
   | false=>
    obtain ⟨m',a1,w9⟩:=a4;obtain ⟨pD,S,_,_,_⟩:=I8'.pin (D,{ cls:=.type "list",data:=.seq us.toArray H }) (by simp);have f:∀ b∈fp, ∀ o,s7.heap.get? b=some o->Z.heap.get? b=some o/\M b=none:=fun b d o e=>by
     have z:=I8'.pin (b,o) (mem_append_right _ (mem_append_right _ (Jca d e)));exact ⟨z.1,z.2.1⟩
    have I9':Inv (X.inc (own++cs.map (·.2)) scope cl fp s2 H2 C) [] (List.replicate own.length none++JaB cs σ) M Z:=I2.incAgain I8' f2 hcl hcs;refine ⟨m',a1,i+1,ys,us,H,M,B I9' pD S,T.keep _ _ _ G fun b d o e=>(f b d o e).1,fun b d=>?_,vy,w9⟩;obtain ⟨o,e,_⟩:=T.obj _ _ G b d;exact (f b d o e).2
 exact codeAny_compStart_list (P _ rfl) (T.self _ 0 _ _ _ (T.keep _ _ _ st2 fun b d o e=>a0 b o e) (P _ rfl))
theorem JcV {iter elt tst:Expr} {scope:Scope} {pos spos py:Pos} {y:Str} {j:Nat} {own:List Str} {cs:List (Nat × Str)} {wi:TI} {g:TG} {te:TE} {tt:TT} (hN:X.N.Nodup) (hj:X.N[j]?=some y) (hy:Loc X.env.scope y) (hc:X.calm=true) (hi:PI X tg iter wi)
  (hg:∀ fp s2 H2 C,PG (X.inc (own++cs.map (·.2)) scope (Jbt X.env.cells scope.names []) fp s2 H2 C) tg g) (ht:∀ fp s2 H2 C,PT (X.inc (own++cs.map (·.2)) scope (Jbt X.env.cells scope.names []) fp s2 H2 C) tst tt) (he:∀ fp s2 H2 C,PE (X.inc (own++cs.map (·.2)) scope (Jbt X.env.cells scope.names []) fp s2 H2 C) elt te)
  (hfree:∀ p∈scope.names,p.2=.free->X.env.scope.names.lookup p.1=some .cell) (hcell:∀ y∈scope.names,y.2≠.cell) (hkind:scope.kind=.function) (hnames:∀ y∈scope.names,y.2=.local->scope.names.lookup y.1=some .local)
  (hcs:∀ p∈cs,X.N[p.1]?=some p.2/\X.env.scope.names.lookup p.2=some .cell/\(relabel scope X.env).names.lookup p.2=some .cell)
  (hsw:swapsWith (.ListComp elt [⟨tg,iter,[tst],0⟩] scope pos) (some (.Name y py)) spos.line X.env=pure true:=by rfl)
  (hs:∀ x,foldedSetIterable iter X.env x=pure x:=by intro _;rfl) (hf:X.fn y=true\/X.env.scope.names.lookup y=some .local:=by first | exact .inl rfl | exact .inr rfl) :
  PS X (.Assign [.Name y py] (.ListComp elt [⟨tg,iter,[tst],0⟩] scope pos) spos) (tAsg (JfZ own.length cs wi g tt te) (gName j)):=by
 intro d s σ H D I h;have k:∀ p∈scope.names,p.2=.free->∃ c,X.env.cells.lookup p.1=some c:=fun p m hk=>I.ok.has p.1 (.inl (hfree p m hk));have r:=JcL (cells:=X.env.cells) scope.names [] (fun _ _ z=>by simp at z) k;rw [exec_Assign_Name_used _ _ _ _ hsw];refine wpAny_bind (wpAny_standAt (wpAny_bind ?_));show wpAny _ X.A (do let _ <- comprehension (.ListComp elt [⟨tg,iter,[tst],0⟩] scope pos) scope X.env _ (newList []) false (eval iter X.env) (some (assign (.Name y py) X.env))) _ _ s;refine wpAny_bind (wpAny_mono (wpAny_comprehension_free (use:=some (assign (.Name y py) X.env)) (Q:=fun _ L=>SP X d D .next L) rfl hs (Jf8 k) hkind hnames
  (thn (hi d s σ H _ I h) fun v s1 h1=>thn h1 fun a0 s2 h2=>?_)) (fun _ L hq=>wpAny_pure (wpAny_pure hq)) fun _ _ e=>e)
 obtain ⟨it,fp,tn,J,H2,rfl,I2,T,u,V,W,⟨m0,P⟩,i⟩:=h2;refine JdU (QN:=fun K l=>∀ p,l p=none->D.nx (σ.set j (some (.ref p))) (upd l p (.lst K))) hc hg ht he hcell hkind r (fun z hz=>JcK scope.names [] z (.inr (JhV hcell hz))) hcs I2 T u V P i ?_;intro D' C E l K B S Z dc hm f q;obtain ⟨R,G⟩:=hm;have I8:Inv X d σ (upd l D' (.lst K)) E:=B E.heap (Heap.SameBut.refl _ _);show wpAny _ X.A (assign (.Name y py) X.env (.ref D')) _ _ E;refine wpAny_assign_Name (JfY (v:=.ref D') I8 hN hj hy rfl (fun U I7 t=>?_) hf);obtain ⟨a,M,F⟩:=t;have Y:C≠a:=by
  rcases F with rfl | F
  ·exact Nat.ne_of_gt (Nat.lt_of_lt_of_le I2.lt f)
  ·obtain ⟨v,o,w,_⟩:=I2.cell y a F;exact Nat.ne_of_gt (Nat.lt_of_lt_of_le (Heap.lt_size w) f)
 refine ⟨R,G.sameBut M Y,fun h8 n=>⟨_,_,?_,q D' S⟩⟩;exact I7.turned (it:=C) (t':=U.toks) (fun b o O e=>(n.2 b O).trans e) (by rw [Jag (Ne.symm dc)];exact Z) (Nat.ne_of_gt (Nat.lt_of_lt_of_le I2.lt f)) (.inr (Nat.le_trans I2.sz f)) (fun x c e z=>by
  obtain ⟨v,o,w,_⟩:=I2.cell x c e;exact absurd (Nat.lt_of_lt_of_le (Heap.lt_size w) f) (by rw [z];exact Nat.lt_irrefl _)) (fun p m z=>absurd (Nat.lt_of_lt_of_le (Heap.lt_size (I2.pin p m).1) f) (by rw [z];exact Nat.lt_irrefl _))
end
section
variable {X:Cx} {pins:List (Addr × Obj)} {σ : St} {H:Hp} {s:Shared} {h':Heap}
end
def Itz (K:W.Frag) (a b:Addr):It :=
  ⟨fun i H=>∃ xs ys x y,SqL K H a xs/\SqL K H b ys/\xs[i]?=some x/\ys[i]?=some y,
   fun i H v H'=>∃ p x y,(∀ xs,SqL K H a xs->xs[i]?=some x)/\(∀ ys,SqL K H b ys->ys[i]?=some y)/\H p=none/\v=.ref p/\H'=upd H p (.tup [x,y]),
   fun i H=>∃ xs ys,SqL K H a xs/\SqL K H b ys/\(xs.length<=i\/ys.length<=i)⟩
section
variable {X:Cx} {elts:List Expr} {x1:Nat} {tp:Pos}
def iZip (K:W.Frag) (ta:TA):TI:=fun σ H R=>ta σ H fun vs H1=>∃ a b,vs=[.ref a, .ref b]/\(∃ xs,SqL K H1 a xs)/\(∃ ys,SqL K H1 b ys)/\R (Itz K a b) H1
end
section
variable {σ : St} {H:Hp} {Q:VK} {td ty tv tx:TE} {K:W.Frag} {En:Ends}
theorem y3dy:tDGet td ty σ H Q=td σ H fun x H1=>ty σ H1 fun y H2=>∃ a v,x=.ref a/\DGet H2 a y (some v)/\Q v H2:=rfl
theorem y46y:sDPut td ty tv En σ H=tv σ H fun v H1=>td σ H1 fun x H2=>ty σ H2 fun y H3=>∃ a H4,x=.ref a/\DPut H3 a y v H4/\En.nx σ H4:=rfl
theorem y43y:JlL σ H Q=∀ p,H p=none->Q (.ref p) (upd H p (.dT [])):=rfl
theorem y42y:JjR σ H Q=∀ p,H p=none->Q (.ref p) (upd H p (.dK [])):=rfl
end
theorem hu1 {a b:Nat} (h:a+64<b):a+1<b:=by ac_nf
section
variable {X:Cx}
def rMul0:R2:=fun x y H Q=>match x,y with
 | .str z, .int n=>0<=n/\n<1000/\z.length<=1000/\∀ z':Str,z'.cps.toList=(List.replicate n.toNat z.cps.toList).flatten->Q (.str z') H
 | x,y=>rMulS x y H Q
theorem Jax:OpR X (binaryOp .Mult) rMul0:=fun a s σ H x y v u Q I b c q=>by
 unfold rMul0 at q;split at q
 ·rename_i z n;obtain ⟨g,d,f,q⟩:=q;by_cases e:n=0
  ·subst e;obtain ⟨t,rfl⟩:=b;obtain ⟨h,rfl⟩:=c;exact PySem.P.mul_str_none ⋯ ⋯ ⟨.str _,H,I.tok _,⟨_,rfl⟩,q Str.empty rfl⟩
  ·exact Jik a s σ H _ _ v u Q I b c ⟨by ac_nf,d,f,q⟩
 ·exact Jik a s σ H _ _ v u Q I b c q
end
section
variable {K:W.Frag} {H:Hp} {Q:VK} {σ : St} {td ty:TE}
theorem y6by {i j:Int}:rMul0 (.int i) (.int j) H Q=(IntMulOk i j/\Q (.int (i*j)) H):=rfl
theorem y3ey:JjP td ty σ H Q=td σ H fun x H1=>∃ a,x=.ref a/\IsD H1 a/\ty σ H1 fun y H2=>∃ o,DGet H2 a y o/\Q (o.getD .non) H2:=rfl
end
theorem ForA.byL {K:W.Frag} {a:Addr} {xs:List V} {g:TG} {tb:TS} {D:Ends} {σ : St} {H:Hp} (hA:SqL K H a xs) (Pv:Nat->St->Hp->Prop) (h0:Pv 0 σ H) (hl:∀ i σ H',Pv i σ H'->SqL K H' a xs)
  (hs:∀ i x σ H,xs[i]?=some x->Pv i σ H->g x σ H fun σ2 H2=>tb { D with nx:=Pv (i+1),ct:=Pv (i+1),bk:=D.nx } σ2 H2) (hd:∀ σ H,Pv xs.length σ H->D.nx σ H):ForA K a g tb D σ H:=by
 refine .inl ⟨⟨xs,hA⟩,fun i m σ H=>Pv i σ H/\i<=xs.length/\m=xs.length-i,⟨_,h0,Nat.zero_le _,rfl⟩,?_⟩;rintro i m σ H ⟨b,h,rfl⟩;have d:=hl i σ H b;by_cases c:i<xs.length
 ·refine .inr ⟨⟨xs,xs[i],d,List.getElem?_eq_getElem c⟩,Pv (i+1),fun σ' H' p=>⟨_,Nat.sub_lt_sub_left c (Nat.lt_succ_self i),p,c,rfl⟩,?_⟩;rintro x H' ⟨rfl,f⟩;exact hs i x σ _ (f xs d) b
 ·have e:i=xs.length:=by ac_nf
  subst e;exact .inl ⟨⟨xs,d,Nat.le_refl _⟩,hd σ H b⟩
def ForJ (J:It) (g:TG) (tb:TS) (D:Ends) (σ : St) (H:Hp):Prop:=∃ W:Nat->Nat->St->Hp->Prop,(∃ m,W 0 m σ H)/\∀ i m σ H,W i m σ H ->
 (J.stop i H/\D.nx σ H)\/(J.go i H/\∃ N:St->Hp->Prop,(∀ σ' H',N σ' H'->∃ m',m'<m/\W (i+1) m' σ' H')/\∀ x H',J.yld i H x H'->g x σ H' fun σ2 H2=>tb { D with nx:=N,ct:=N,bk:=D.nx } σ2 H2)
theorem y54y {K:W.Frag} {ta:TA} {g:TG} {tb:TS} {D:Ends} {σ : St} {H:Hp}:tFor (iZip K ta) g tb D σ H=ta σ H fun vs H1=>∃ a b,vs=[.ref a, .ref b]/\(∃ xs,SqL K H1 a xs)/\(∃ ys,SqL K H1 b ys)/\ForJ (Itz K a b) g tb D σ H1:=rfl
theorem compL {K:W.Frag} {cs:List (Nat × Str)} {k:Nat} {g:TG} {te:TE} {σ : St} {a:Addr} {xs:List V} {H1:Hp} {Q:VK} (Pv:Nat->List V->Hp->Prop) (h0:Pv 0 [] H1) (hl:∀ i ys H',i<=xs.length->Pv i ys H'->SqL K H' a xs/\ys.length<=sizeLine)
  (hs:∀ i x ys H2,xs[i]?=some x->Pv i ys H2->g x (List.replicate k none++JaB cs σ) H2 fun σ4 H4=>te σ4 H4 fun y H5=>Pv (i+1) (ys++[y]) H5) (hd:∀ ys H2,Pv xs.length ys H2->∀ p,H2 p=none->Q (.ref p) (upd H2 p (.lst ys))) :
  ∃ W:Nat->Nat->List V->Hp->Prop,(∃ m,W 0 m [] H1)/\∀ i m ys H2,W i m ys H2->ys.length<=sizeLine/\(((Itl K a).stop i H2/\∀ p,H2 p=none->Q (.ref p) (upd H2 p (.lst ys))) \/
   ((Itl K a).go i H2/\∀ x H3,(Itl K a).yld i H2 x H3->g x (List.replicate k none++JaB cs σ) H3 fun σ4 H4=>te σ4 H4 fun y H5=>∃ m',m'<m/\W (i+1) m' (ys++[y]) H5)):=by
 refine ⟨fun i m ys H2=>Pv i ys H2/\i<=xs.length/\m=xs.length-i,⟨_,h0,Nat.zero_le _,rfl⟩,?_⟩;rintro i m ys H2 ⟨b,j,rfl⟩;obtain ⟨d,f⟩:=hl i ys H2 j b;refine ⟨f,?_⟩;by_cases c:i<xs.length
 ·refine .inr ⟨⟨xs,xs[i],d,List.getElem?_eq_getElem c⟩,?_⟩;rintro x H3 ⟨rfl,h⟩;have e:(fun (σ4:St) (H4:Hp)=>te σ4 H4 fun y H5=>Pv (i+1) (ys++[y]) H5)=fun σ4 H4=>te σ4 H4 fun y H5=>∃ m',m'<xs.length-i/\Pv (i+1) (ys++[y]) H5/\i+1<=xs.length/\m'=xs.length-(i+1):=by
   funext σ4 H4
   congr 1
   funext y H5
   exact propext ⟨fun q=>⟨_,Nat.sub_lt_sub_left c (Nat.lt_succ_self i),q,c,rfl⟩,fun ⟨_,_,q,_⟩=>q⟩
  rw [<- e];exact hs i x ys _ (h xs d) b
 ·have e:i=xs.length:=by ac_nf
  subst e;exact .inl ⟨⟨xs,d,Nat.le_refl _⟩,hd ys H2 b⟩
theorem Jk6 {K:W.Frag} {cs:List (Nat × Str)} {k:Nat} {g:TG} {tt:TT} {te:TE} {σ : St} {a:Addr} {xs:List V} {H1:Hp} {Q:VK} (Pv:Nat->List V->Hp->Prop) (h0:Pv 0 [] H1) (hl:∀ i ys H',i<=xs.length->Pv i ys H'->SqL K H' a xs/\ys.length<=sizeLine)
  (hs:∀ i x ys H2,xs[i]?=some x->Pv i ys H2->g x (List.replicate k none++JaB cs σ) H2 fun σ4 H4=>tt σ4 H4 fun b H5=>if b=true then te σ4 H5 fun y H6=>Pv (i+1) (ys++[y]) H6 else Pv (i+1) ys H5) (hd:∀ ys H2,Pv xs.length ys H2->∀ p,H2 p=none->Q (.ref p) (upd H2 p (.lst ys))) :
  ∃ W:Nat->Nat->List V->Hp->Prop,(∃ m,W 0 m [] H1)/\∀ i m ys H2,W i m ys H2->ys.length<=sizeLine/\(((Itl K a).stop i H2/\∀ p,H2 p=none->Q (.ref p) (upd H2 p (.lst ys))) \/
   ((Itl K a).go i H2/\∀ x H3,(Itl K a).yld i H2 x H3->g x (List.replicate k none++JaB cs σ) H3 fun σ4 H4=>tt σ4 H4 fun b H5=>if b=true then te σ4 H5 fun y H6=>∃ m',m'<m/\W (i+1) m' (ys++[y]) H6 else ∃ m',m'<m/\W (i+1) m' ys H5)):=by
 refine ⟨fun i m ys H2=>Pv i ys H2/\i<=xs.length/\m=xs.length-i,⟨_,h0,Nat.zero_le _,rfl⟩,?_⟩;rintro i m ys H2 ⟨d,o,rfl⟩;obtain ⟨j,r⟩:=hl i ys H2 o d;refine ⟨r,?_⟩;by_cases f:i<xs.length
 ·refine .inr ⟨⟨xs,xs[i],j,List.getElem?_eq_getElem f⟩,?_⟩;rintro x H3 ⟨rfl,l⟩;have w:∀ (h:List V) (H5:Hp),Pv (i+1) h H5=∃ m',m'<xs.length-i/\Pv (i+1) h H5/\i+1<=xs.length/\m'=xs.length-(i+1):=fun h H5=>
   propext ⟨fun q=>⟨_,Nat.sub_lt_sub_left f (Nat.lt_succ_self i),q,f,rfl⟩,fun ⟨_,_,q,_⟩=>q⟩
  have n:(fun (y:V) (H6:Hp)=>Pv (i+1) (ys++[y]) H6)=fun y H6=>∃ m',m'<xs.length-i/\Pv (i+1) (ys++[y]) H6/\i+1<=xs.length/\m'=xs.length-(i+1):=by
   funext y H6
   exact w _ _
  have e:(fun (σ4:St) (H4:Hp)=>tt σ4 H4 fun b H5=>if b=true then te σ4 H5 fun y H6=>Pv (i+1) (ys++[y]) H6 else Pv (i+1) ys H5)=fun σ4 H4=>tt σ4 H4 fun b H5=>if b=true then te σ4 H5 fun y H6=>∃ m',m'<xs.length-i/\Pv (i+1) (ys++[y]) H6/\i+1<=xs.length/\m'=xs.length-(i+1) else ∃ m',m'<xs.length-i/\Pv (i+1) ys H5/\i+1<=xs.length/\m'=xs.length-(i+1):=by
   funext σ4 H4
   congr 1
   funext b H5
   by_cases c:b=true
   ·rw [if_pos c,if_pos c, <- n]
   ·rw [if_neg c,if_neg c];exact w ys H5
  have:=hs i x ys _ (l xs j) d;rw [e] at this;exact this
 ·have e:i=xs.length:=by ac_nf
  subst e;exact .inl ⟨⟨xs,j,Nat.le_refl _⟩,hd ys H2 d⟩
end L2
namespace Ch
open PySem
structure TD where
 nm:Str
 st:Str
 en:Str
 lo:Option (Int × Int)
 hi:Option (Int × Int)
structure SD where
 src:Str
 dst:Str
 c:Int × Int
 nm:Str
 fw:Bool
def fwd (t:TD):List SD:=match t.hi with
 | some h=>[⟨t.st,t.en,h,t.nm,true⟩]
 | none=>[]
def bwd (t:TD):List SD:=match t.lo with
 | some l=>[⟨t.en,t.st,(-l.1,l.2),t.nm,false⟩]
 | none=>[]
def steps (t:TD):List SD:=fwd t++bwd t
def all (ts:List TD):List SD:=ts.flatMap steps
abbrev Pr:=Str × Bool
def key (s:SD):Pr:=(s.nm,s.fw)
def find (ss:List SD) (k:Pr):Option SD:=ss.find? fun s=>decide (key s=k)
def lastA (acc:Option SD) (ss:List SD) (k:Pr):Option SD:=ss.foldl (fun a s=>if key s=k then some s else a) acc
def last (ss:List SD) (k:Pr):Option SD:=lastA none ss k
def addF (a c:Int × Int):Int × Int:=(Mth.top (a.1*c.2+c.1*a.2) (a.2*c.2),Mth.bot (a.1*c.2+c.1*a.2) (a.2*c.2))
structure FOk (n:Nat) (a:Int × Int):Prop where
 s1:Mth.Sz n a.1
 s2:Mth.Sz n a.2
 b1:1<=a.2
 g1:Mth.g a.1 a.2=1
end Ch
namespace L2
open PySem PySem.Spec PyProof.Rows Ch
def isTF:HO->Bool
 | .tup _=>true
 | .frz _ _=>true
 | _=>false
def SameT (H H':Hp):Prop:=∀ b u,isTF u=true->H b=some u->H' b=some u
theorem SameT.refl (H:Hp):SameT H H:=fun _ _ _ h=>h
theorem SameT.trans {H H1 H2:Hp} (a:SameT H H1) (b:SameT H1 H2):SameT H H2:=fun c o t h=>b c o t (a c o t h)
theorem Same.t {H H':Hp} (a:Same H H'):SameT H H':=fun b u _ h=>a b u h
theorem SameT.put {H H':Hp} {l:Addr} {o o':HO} (e:upd H l o=H') (hl:H l=some o') (ht:isTF o'=false):SameT H H':=fun b u t h=>by
 rw [<- e,Jag (ne_of h hl fun q=>by rw [q,ht] at t;cases t)];exact h
theorem SqT.sameT {K:W.Frag} {H H':Hp} {a:Addr} {xs:List V} (e:SameT H H') (h:SqT K H a xs):SqT K H' a xs:=by
 rcases h with (h | ⟨o,h⟩) | h
 ·exact .inl (.inl (e _ _ rfl h))
 ·exact .inl (.inr ⟨o,e _ _ rfl h⟩)
 ·exact .inr h
theorem FrV.sameT {K:W.Frag} {H H':Hp} {v:V} {a b:Int} (S:SameT H H') (h:FrV K H v a b):FrV K H' v a b:=by
 obtain ⟨p,e,q⟩:=h;exact ⟨p,e,q.sameT S⟩
def frD (a:Int × Int):D:=.tup [.int a.1, .int a.2]
def bD:Option (Int × Int)->D
 | none=>.non
 | some a=>frD a
def tdD (t:TD):D:=.tup [.str t.nm, .str t.st, .str t.en,bD t.lo,bD t.hi]
def pD (s:SD):D:=.tup [.str s.src, .str s.dst,frD s.c, .bl s.fw]
def BV (K:W.Frag) (H:Hp):Option (Int × Int)->V->Prop
 | none,v=>v=.non
 | some a,v=>FrV K H v a.1 a.2
theorem BV.rep {K:W.Frag} {H:Hp} {o:Option (Int × Int)} {v:V} (h:BV K H o v):Rep K H (bD o) v:=by
 cases o with
 | none=>simp only [bD,Rep];exact h
 | some a=>exact FrV.rep h
theorem BV.sameT {K:W.Frag} {H H':Hp} {o:Option (Int × Int)} {v:V} (S:SameT H H') (h:BV K H o v):BV K H' o v:=by
 cases o with
 | none=>exact h
 | some a=>exact FrV.sameT S h
def TV (K:W.Frag) (H:Hp) (t:TD) (x:V):Prop:=∃ b vl vg,x=.ref b/\SqT K H b [.str t.nm, .str t.st, .str t.en,vl,vg]/\BV K H t.lo vl/\BV K H t.hi vg
def PV (K:W.Frag) (H:Hp) (s:SD) (x:V):Prop:=∃ b v,x=.ref b/\SqT K H b [.str s.src, .str s.dst,v, .bl s.fw]/\FrV K H v s.c.1 s.c.2
def CV (H:Hp) (c:Pr) (x:V):Prop:=∃ b,x=.ref b/\H b=some (.tup [.str c.1, .bl c.2])
def LV (K:W.Frag) (H:Hp) (s:SD) (x:V):Prop:=∃ b v w,x=.ref b/\SqT K H b [.str s.src, .str s.dst,v,w]/\FrV K H v s.c.1 s.c.2/\CV H (key s) w
section
variable {K:W.Frag} {H H':Hp}
theorem TV.sameT {t:TD} {x:V} (S:SameT H H'):TV K H t x->TV K H' t x:=by rintro ⟨b,vl,d,e,q,a,c⟩;exact ⟨b,vl,d,e,q.sameT S,a.sameT S,c.sameT S⟩
theorem CV.sameT {c:Pr} {x:V} (S:SameT H H'):CV H c x->CV H' c x:=fun ⟨b,e,q⟩=>⟨b,e,S _ _ rfl q⟩
theorem LV.sameT {s:SD} {x:V} (S:SameT H H'):LV K H s x->LV K H' s x:=by rintro ⟨b,v,w,e,q,a,c⟩;exact ⟨b,v,w,e,q.sameT S,a.sameT S,c.sameT S⟩
theorem TV.rep {t:TD} {x:V}:TV K H t x->Rep K H (tdD t) x:=fun ⟨b,vl,d,e,q,a,c⟩=>by
 simp only [tdD,Rep,RepL];exact ⟨b,_,e,q,_,_,rfl,rfl,_,_,rfl,rfl,_,_,rfl,rfl,_,_,rfl,a.rep,_,_,rfl,c.rep,rfl⟩
end
def All2 {α : Type} (P : α->V->Prop):List α->List V->Prop
 | [],xs=>xs=[]
 | a::as,xs=>∃ x r,xs=x::r/\P a x/\All2 P as r
section
variable {α : Type} {P P' : α->V->Prop}
theorem All2.mono:∀ {as:List α} {xs:List V},(∀ a x,P a x->P' a x)->All2 P as xs->All2 P' as xs
 | [],_,_,h=>h
 | a::as,xs,f,h=>by
  obtain ⟨x,r,e,h1,h2⟩:=h;exact ⟨x,r,e,f _ _ h1,All2.mono f h2⟩
theorem All2.length:∀ {as:List α} {xs:List V},All2 P as xs->xs.length=as.length
 | [],_,h=>by rw [show _=_ from h];rfl
 | a::as,xs,h=>by
  obtain ⟨x,r,e,h1,h2⟩:=h;rw [e,length_cons,length_cons,h2.length]
theorem All2.at_:∀ {as:List α} {xs:List V} {i:Nat} {x:V},All2 P as xs->xs[i]?=some x->∃ a,as[i]?=some a/\P a x
 | [],_,_,_,h,hx=>by rw [show _=_ from h] at hx;simp at hx
 | a::as,xs,i,y,h,hx=>by
  obtain ⟨x,r,e,h1,h2⟩:=h;subst e;cases i with
  | zero=>simp at hx;subst hx;exact ⟨a,rfl,h1⟩
  | succ i=>simpa using All2.at_ h2 (by simpa using hx)
theorem All2.get:∀ {as:List α} {xs:List V} {i:Nat} {a : α},All2 P as xs->as[i]?=some a->∃ x,xs[i]?=some x/\P a x
 | [],_,_,_,h,hx=>by simp at hx
 | a::as,xs,i,b,h,hx=>by
  obtain ⟨x,r,e,h1,h2⟩:=h;subst e;cases i with
  | zero=>simp at hx;subst hx;exact ⟨x,rfl,h1⟩
  | succ i=>simpa using All2.get h2 (by simpa using hx)
theorem All2.append:∀ {as bs:List α} {xs ys:List V},All2 P as xs->All2 P bs ys->All2 P (as++bs) (xs++ys)
 | [],bs,xs,ys,h,g=>by rw [show xs=[] from h];exact g
 | a::as,bs,xs,ys,h,g=>by
  obtain ⟨x,r,e,h1,h2⟩:=h;subst e;exact ⟨x,r++ys,rfl,h1,All2.append h2 g⟩
theorem All2.one {a : α} {x:V} (h:P a x):All2 P [a] [x]:=⟨x,[],rfl,h,rfl⟩
theorem All2.take:∀ {as:List α} {xs:List V} (j:Nat),All2 P as xs->All2 P (as.take j) (xs.take j)
 | as,xs,0,_=>by simp only [take_zero];exact rfl
 | [],xs,j+1,h=>by rw [show xs=[] from h];simp;exact rfl
 | a::as,xs,j+1,h=>by
  obtain ⟨x,r,e,h1,h2⟩:=h;subst e;exact ⟨x,r.take j,by simp,h1,All2.take j h2⟩
theorem All2.drop:∀ {as:List α} {xs:List V} (j:Nat),All2 P as xs->All2 P (as.drop j) (xs.drop j)
 | as,xs,0,h=>by simpa using h
 | [],xs,j+1,h=>by rw [show xs=[] from h];simp;exact rfl
 | a::as,xs,j+1,h=>by
  obtain ⟨x,r,e,h1,h2⟩:=h;subst e;simpa using All2.drop j h2
end
structure TOk (t:TD):Prop where
 n1:nameS t.nm=true
 n2:nameS t.st=true
 n3:nameS t.en=true
 ne:t.st≠t.en
 lo:∀ a,t.lo=some a->FOk 600 a
 hi:∀ a,t.hi=some a->FOk 600 a
 le:lessD (bD t.hi) (bD t.lo)=false
theorem len8 {z:Str} (h:nameS z=true):z.length<=8:=by
 unfold nameS at h;simp only [Bool.and_eq_true,decide_eq_true_eq] at h;exact h.1.2
theorem bD_ok {o:Option (Int × Int)} (h:∀ a,o=some a->FOk 600 a):JcO (bD o)=true/\szD (bD o):=by
 cases o with
 | none=>exact ⟨rfl,by simp only [bD,szD]⟩
 | some a=>
  have k:=h a rfl;refine ⟨by simp [bD,frD,JcO,fracB,k.b1,k.g1],?_⟩;simp only [bD,frD,szD,szL];exact ⟨k.s1.mono ⋯,k.s2.mono ⋯,trivial⟩
theorem TOk.tie {t:TD} (h:TOk t):tieB (tdD t)=true:=by
 have e:eqD (.str t.st) (.str t.en)=false:=by simp only [eqD,beq_eq_false_iff_ne];exact h.ne
 simp [tdD,tieB,nameB,JcP,h.n1,h.n2,h.n3,e,JeU,(bD_ok h.lo).1,(bD_ok h.hi).1,h.le]
theorem TOk.sz {t:TD} (h:TOk t):szD (tdD t):=by
 simp only [tdD,szD,szL];have:=len8 h.n1;have:=len8 h.n2;have:=len8 h.n3;exact ⟨by ac_nf,by ac_nf,by ac_nf,(bD_ok h.lo).2,(bD_ok h.hi).2,trivial⟩
def kP (c:Pr):List Key:=[.inr c.1, .inl c.2]
def DOk (K:W.Frag) (H:Hp) (kvs:List (List Key × V)) (ss:List SD):Prop:=∀ c:Pr,match last ss c with
 | none=>valV kvs (kP c)=none
 | some s=>∃ v,valV kvs (kP c)=some v/\PV K H s v
theorem DOk.nil {K:W.Frag} {H:Hp}:DOk K H [] []:=fun c=>rfl
section
variable {K:W.Frag} {H:Hp} {kvs:List (List Key × V)} {ss:List SD}
end
def CompJ (J:It) (k:Nat) (cs:List (Nat × Str)) (g:TG) (te:TE) (σ : St) (Q:VK) (H1:Hp):Prop:=∃ W:Nat->Nat->List V->Hp->Prop,(∃ m,W 0 m [] H1)/\∀ i m ys H2,W i m ys H2->ys.length<=sizeLine /\
  ((J.stop i H2/\∀ p,H2 p=none->Q (.ref p) (upd H2 p (.lst ys))) \/
   (J.go i H2/\∀ x H3,J.yld i H2 x H3->g x (List.replicate k none++JaB cs σ) H3 fun σ4 H4=>te σ4 H4 fun y H5=>∃ m',m'<m/\W (i+1) m' (ys++[y]) H5))
def JbW (J:It) (k:Nat) (cs:List (Nat × Str)) (g:TG) (tt:TT) (te:TE) (σ : St) (Q:VK) (H1:Hp):Prop:=∃ W:Nat->Nat->List V->Hp->Prop,(∃ m,W 0 m [] H1)/\∀ i m ys H2,W i m ys H2->ys.length<=sizeLine /\
  ((J.stop i H2/\∀ p,H2 p=none->Q (.ref p) (upd H2 p (.lst ys))) \/
   (J.go i H2/\∀ x H3,J.yld i H2 x H3->g x (List.replicate k none++JaB cs σ) H3 fun σ4 H4=>tt σ4 H4 fun b H5=>if b=true then te σ4 H5 fun y H6=>∃ m',m'<m/\W (i+1) m' (ys++[y]) H6 else ∃ m',m'<m/\W (i+1) m' ys H5))
section
variable {K:W.Frag} {k:Nat} {cs:List (Nat × Str)} {g:TG} {tt:TT} {te tl:TE} {σ : St} {H H1:Hp} {Q:VK} {a:Addr} {xs:List V}
theorem y34y:tComp k cs (iAny K tl) g te σ H Q=tl σ H fun x H1=>∃ a,x=.ref a/\(((∃ xs,SqL K H1 a xs)/\CompJ (Itl K a) k cs g te σ Q H1)\/((∃ xs,SqT K H1 a xs)/\CompJ (Itt K a) k cs g te σ Q H1)):=rfl
theorem y36y:JfZ k cs (iAny K tl) g tt te σ H Q=tl σ H fun x H1=>∃ a,x=.ref a/\(((∃ xs,SqL K H1 a xs)/\JbW (Itl K a) k cs g tt te σ Q H1)\/((∃ xs,SqT K H1 a xs)/\JbW (Itt K a) k cs g tt te σ Q H1)):=rfl
theorem CompJ.list (Pv:Nat->List V->Hp->Prop) (h0:Pv 0 [] H1) (hl:∀ i ys H',i<=xs.length->Pv i ys H'->SqL K H' a xs/\ys.length<=sizeLine)
  (hs:∀ i x ys H2,xs[i]?=some x->Pv i ys H2->g x (List.replicate k none++JaB cs σ) H2 fun σ4 H4=>te σ4 H4 fun y H5=>Pv (i+1) (ys++[y]) H5) (hd:∀ ys H2,Pv xs.length ys H2->∀ p,H2 p=none->Q (.ref p) (upd H2 p (.lst ys))) :
  CompJ (Itl K a) k cs g te σ Q H1:=compL Pv h0 hl hs hd
theorem JbW.list (Pv:Nat->List V->Hp->Prop) (h0:Pv 0 [] H1) (hl:∀ i ys H',i<=xs.length->Pv i ys H'->SqL K H' a xs/\ys.length<=sizeLine)
  (hs:∀ i x ys H2,xs[i]?=some x->Pv i ys H2->g x (List.replicate k none++JaB cs σ) H2 fun σ4 H4=>tt σ4 H4 fun b H5=>if b=true then te σ4 H5 fun y H6=>Pv (i+1) (ys++[y]) H6 else Pv (i+1) ys H5) (hd:∀ ys H2,Pv xs.length ys H2->∀ p,H2 p=none->Q (.ref p) (upd H2 p (.lst ys))) :
  JbW (Itl K a) k cs g tt te σ Q H1:=Jk6 Pv h0 hl hs hd
end
theorem JgK (x y:Str):(x++y).cps.toList=x.cps.toList++y.cps.toList:=by
 show (x.cps++y.cps).toList=_;simp
theorem JdN (z:Str):z.length=z.cps.toList.length:=by simp [Str.length]
section
variable {ss:List SD} {c:Pr} {cs:List Pr} {s:SD} {tot:Int × Int} {f l:Str}
end
theorem JgO {α : Type} {f : α->D} {n:Nat} (h:∀ a,depD (f a)<=n):∀ as:List α,depL (as.map f)<=n
 | []=>by simp [depL]
 | a::as=>by
  rw [map_cons,depL];exact Nat.max_le.mpr ⟨h a,JgO h as⟩
section
variable {K:W.Frag} {H:Hp} {Q:VK}
end
section
variable {prog:Program} {w:World} {A:Around} {E:Value->Shared->Prop} {s:Shared}
theorem stored {h:Heap} {a:Addr} {es es':Array (Int × Value)} {ep:Nat} {t t':SetTable} (ho:h.get? a=some { cls:=.type "set",dict:=none,data:=.set es ep t,slots:=#[] }) :
  (h.update a (Obj.putSet es' t')).get? a=some { cls:=.type "set",dict:=none,data:=.set es' (ep+1) t',slots:=#[] }:=by
 have e:=Heap.get?_update_self (Obj.putSet es' t') ho (by rw [putSet_of es' t' rfl];rfl);rw [e,putSet_of es' t' rfl]
end
def addS (l:List Str) (z:Str):List Str:=if z∈l then l else l++[z]
def met (val:Nat->Str) (i:Nat):List Str:=((List.range i).map val).foldl addS []
section
variable {prog:Program} {w:World} {A:Around} {E:Value->Shared->Prop} {s:Shared}
end
section
variable {prog:Program} {w:World} {A:Around} {E:Value->Shared->Prop} {s:Shared}
end
section
variable {M:Model} {A:Around} {E:Value->Shared->Prop} {s:Shared}
end
section
variable {prog:Program} {w:World} {A:Around} {E:Value->Shared->Prop} {s:Shared}
section
variable {I a:Addr} {es:Array (Int × Value)} {i ep:Nat} {t:SetTable} {Q:Option Value->Shared->Prop}
end
end
section
variable {prog:Program} {w:World} {A:Around} {E:Value->Shared->Prop} {s:Shared}
end
section
variable {prog:Program} {w:World} {A:Around} {E:Value->Shared->Prop} {s:Shared}
theorem Jki {S r:Addr} {R:Result->Shared->Prop} (h:wpAny (model prog w) A.in1 (Builtin.List.listExtendWith (.ref S) (.ref r) (.ref S)) (fun fin s'=>match fin with | .done f=>R (.ok f) s' | .again c'=>c'.quiet=true/\codeAny (model prog w) A c' R s') (fun e s'=>R (.error e) s') s) :
  codeAny (model prog w) A (.builtin "list.__iadd__" ⟨[.ref S, .ref r],[]⟩) R s:=by
 refine codeAny_builtin (PySem.F.entry_list_iadd) ?_;rw [Around.under_plainId (PySem.F.plain_list_iadd) _];exact h
theorem JhB {r:Addr} {ss:List Str} {Q:Value->Shared->Prop} (h64:ss.length<64)
  (hx:∀ (R:Result->Shared->Prop),(∀ s' (vs:List Value) c' ss',(∀ b o,s.heap.get? b=some o->s'.heap.get? b=some o)->s'.gens=s.gens->s'.os=s.os->s.toks<=s'.toks ->
    s'.heap.get? s.heap.objs.size=some { cls:=.type "list",dict:=none,data:=.seq vs.toArray c',slots:=#[] }->StrsAre vs ss'->ss'.Perm ss->R (.ok (.ret (.ref s.heap.objs.size))) s') ->
   codeAny (model prog w) A.in1 (.builtin "list.__iadd__" ⟨[.ref s.heap.objs.size, .ref r],[]⟩) R { s with heap:=s.heap.push { cls:=.type "list",data:=.seq ([]:List Value).toArray } })
  (q:∀ s' l (out:Array Value) ss' e,(∀ b o,s.heap.get? b=some o->s'.heap.get? b=some o)->s'.gens=s.gens->s'.os=s.os->s.toks<=s'.toks->s.heap.objs.size<=l->s'.heap.get? l=some (seqObj "list" out e)->StrsAre out.toList ss'->ss'.Perm ss->sortedS ss'=true->Q (.ref l) s') :
  wpAny (model prog w) A (call (.builtin "sorted") [.ref r]) Q E s:=by
 refine Calls.call_function_entry kind_sorted plain_sorted entry_sorted (args_sorted1 _) ?_;unfold Builtin.«sorted»;refine wpAny_bind (m:=checkCount "sorted" 1 1 _) (wpAny_pure ?_);refine wpAny_bind ?_;unfold collect;refine wpAny_bind (wpAny_runValue (codeAny_builtin (PySem.F.entry_proto_collect) ?_));rw [Around.under_plainId (PySem.F.plain_proto_collect) _];show wpAny _ A.in1.in1 (newList [] >>= fun l=>again (.builtin "list.__iadd__" ⟨[l, .ref r],[]⟩)) _ _ s;refine wpAny_bind (wpAny_newObj_type ?_);refine wpAny_pure ⟨plainId_quiet (PySem.F.plain_list_iadd) _,hx _ fun s' vs c' z k p C u j a h=>?_⟩;refine wpAny_bind (m:=load s.heap.objs.size) (wpAny_load j (wpAny_pure ?_));have vl:vs.length<64:=by rw [a.length,h.length_eq];exact h64
 have n:(64:Nat)<=sizeLine:=by decide
 dsimp only;refine wpAny_bind (wpAny_newList ?_ (by show vs.length<=sizeLine;ac_nf));have f:(s'.heap.push (seqObj "list" vs.toArray 0)).get? s'.heap.objs.size=some (seqObj "list" vs.toArray 0):=Heap.get?_push_size _ rfl;refine wpAny_bind (wpAny_holding (wpAny_call_entry slot_list_sort ⟨_,f,rfl⟩ entry_list_sort (list_sort_treeK strKind_oneLt f a.keysOf (fun G H rest e=>keyKind_strs (by rw [<- e];exact a)) vl fun v g d=>⟨_,rfl,?_⟩) (args_list_sort _)));obtain ⟨c,t,y,D⟩:=sorted_out_str a g d;obtain ⟨B,x⟩:=sortedHeap_at (out:=(arrOf v).map (·.2)) f;refine wpAny_pure ⟨_,rfl,q _ s'.heap.objs.size _ c B (fun b o e=>?_) p C u ?_ x t (y.trans h) D⟩
 ·have i:=Heap.lt_size (k b o e);rw [sortedHeap_old (Nat.ne_of_lt i) (by rw [size_push'];exact Nat.lt_succ_of_lt i)];exact Heap.get?_push_of_some _ (k b o e)
 ·exact Nat.le_of_lt (Heap.lt_size j)
theorem JiJ:∀ (vs:List Value),(∀ v∈vs, ∃ x t,v=.str x t)->StrsAre vs (vs.map strOf)
 | [],_=>.nil
 | v::vs,h=>by
  obtain ⟨x,t,rfl⟩:=h v (by simp);exact .cons x t (JiJ vs fun u hu=>h u (by simp [hu]))
theorem JgG {K:Type} [DecidableEq K] {knd:PySem.KeyKind prog w K} {d:Addr} {kvs:List (K × Value)} {ep:Nat} {ss:List Str} {Q:Value->Shared->Prop} (hh:A.handled=none) (lo:(d == sysModules)=false) (hd:s.heap.DictAt knd d kvs ep) (h64:kvs.length<64)
  (hl:ss.length=kvs.length) (hk:∀ i k x v,kvs[i]?=some (k,x)->knd.is k v=true->∃ t,v=.str (ss.getD i ⟨#[]⟩) t)
  (q:∀ s' l (out:Array Value) ss' e,(∀ b o,s.heap.get? b=some o->s'.heap.get? b=some o)->s'.gens=s.gens->s'.os=s.os->s.toks<=s'.toks->s.heap.objs.size<=l->s'.heap.get? l=some (seqObj "list" out e)->StrsAre out.toList ss'->ss'.Perm ss->sortedS ss'=true->Q (.ref l) s') :
  wpAny (model prog w) A (call (.builtin "sorted") [.ref d]) Q E s:=by
 have I:(64:Nat)<=sizeLine:=by decide
 have G:=hd.lt_size;have P:A.in1.handled=none:=by simp [hh]
 refine JhB (ss:=ss) ∅ (fun R k=>?_) q;obtain ⟨y,h⟩:∃ y:Result->Shared->Prop, ∀ r s',y r s'↔∃ g z a j,r=.ok (.ret (.ref s.heap.objs.size))/\s'={ s with heap:=g,toks:=z }/\(∀ b o,b≠s.heap.objs.size->(s.heap.push { cls:=.type "list",data:=.seq ([]:List Value).toArray }).get? b=some o->g.get? b=some o)/\g.get? s.heap.objs.size=some { cls:=.type "list",dict:=none,data:=.seq a j,slots:=#[] }/\ItemsOf (fun i v=>∃ k x,kvs[i]?=some (k,x)/\knd.is k v=true) a kvs.length:=⟨_,fun _ _=>Iff.rfl⟩;have u:=codeAny_toks_of (n:=s.toks) (s:={ s with heap:=s.heap.push { cls:=.type "list",data:=.seq ([]:List Value).toArray } }) (Nat.le_refl _) (Jki (A:=A.in1) (R:=y)
  (W.kdl_extend (R:=y) (s:={ s with heap:=s.heap.push { cls:=.type "list",data:=.seq ([]:List Value).toArray } }) (W.kdl_dict (knd:=knd) (kvs:=kvs) (ep:=ep) lo) P (hd.push _) s.heap.objs.size (Nat.ne_of_gt G) (Nat.ne_of_gt G) (.ref s.heap.objs.size) 0 (Heap.get?_push_size _ rfl) (fun g z a j C hl f=>(h _ _).mpr ⟨g,z,a,j,rfl,rfl,C,hl,f⟩) ∅))
 refine codeAny_mono u ?_;rintro r s' ⟨S,L⟩;obtain ⟨g,z,a,j,rfl,rfl,C,m,f⟩:=(h _ _).mp L;have O:StrsAre a.toList ss:=by
  have p:∀ v∈a.toList, ∃ x t,v=.str x t:=fun v J=>by
   obtain ⟨i,H⟩:=List.getElem?_of_mem J;rw [Array.getElem?_toList] at H;obtain ⟨F,x,B,D⟩:=f.2 i v H;obtain ⟨t,e⟩:=hk i F x v B D;exact ⟨_,t,e⟩
  have:=JiJ _ p;have e:a.toList.map strOf=ss:=by
   refine List.ext_getElem? fun i=>?_;rw [List.getElem?_map,Array.getElem?_toList];have T:a.size=kvs.length:=f.1;by_cases c:i<kvs.length
   ·have B:a[i]?=some a[i]:=Array.getElem?_eq_getElem ∅;obtain ⟨F,x,D,N⟩:=f.2 i _ B;obtain ⟨t,M⟩:=hk i F x _ D N;rw [B,Option.map_some,M,List.getElem?_eq_getElem ∅];simp [strOf,List.getD_eq_getElem?_getD,List.getElem?_eq_getElem (show i<ss.length by ac_nf)]
   ·rw [Array.getElem?_eq_none ∅,List.getElem?_eq_none ∅];rfl
  rw [e] at this;exact this
 exact k _ a.toList j ss (fun b o e=>C b o (Nat.ne_of_lt (Heap.lt_size e)) (Heap.get?_push_of_some _ e)) rfl rfl S (by rw [Array.toArray_toList];exact m) O (.refl _)
end
theorem Jkr:typeLookup (.type "list") "keys"=pure none:=by rw [typeLookup_type,builtinLookup_eq_fast];kernel_rfl
section
variable {prog:Program} {w:World} {A:Around} {E:Value->Shared->Prop} {s:Shared} {a:Addr} {its:Array Value} {n:Nat}
theorem Jkm {Q:Option Value->Shared->Prop} (hh:A.handled=none) (hx:s.heap.get? a=some { cls:=.type "list",dict:=none,data:=.seq its n,slots:=#[] })
   (q:∀ h' t',(∀ b o,s.heap.get? b=some o->h'.get? b=some o)->Q none { s with heap:=h',toks:=t' }) :
    wpAny (model prog w) A (getAttr? (.ref a) "keys") Q E s:=by
  obtain ⟨i,g,d,l,j⟩:=s;have h:∀ c,(⟨i,g,d,c,j⟩:Shared).TypeIs (.ref a) "list":=fun _=>⟨_,hx,rfl⟩;have r:=sub_AttributeError;have p:=PySem.F.slot_list_getattribute.lookup;have t:=PySem.F.slot_list_getattribute.bind (.ref a);have k:=am_list_getattr_none;unfold getAttr?;unfold getAttrBy?;unfold getAttrBy;repeat (any_goals (first | assumption | exact h _ | ((with_reducible show wpAny _ _ (call (Value.builtin "list.__getattribute__") _ _) _ _ _);refine call_meets PySem.F.slot_list_getattribute (h _) am_entry_list_getattribute (PySem.F.args_list_getattribute_2 _ _) (meets_getattribute_miss_list a its n #[] "keys" _ Jkr (by decide +kernel) ⋯) ⟨hx,hh,fun h' c e f=>?_⟩) | wp_step))
  obtain ⟨t',u,m⟩:=f.there;show wpAny _ _ (getattributeRaised _ _ _ _ _ _ _) _ _ _;unfold getattributeRaised;repeat (any_goals (first | assumption | wp_step))
  exact q h' c f.keeps
end
theorem JfE:entryFor table "dict.update.loop"=some Builtin.«dict.update.loop»:=entryFor_of_tree (by kernel_rfl)
theorem Jdg:plainId "dict.update.loop"=true:=by decide +kernel
def dkv (key:Nat->Str) (val:Nat->Value) (i:Nat):List (Key × Value):=(List.range i).foldl (fun l j=>PySem.stored l (Sum.inr (key j)) (val j)) []
theorem JeX (key:Nat->Str) (val:Nat->Value) (i:Nat):dkv key val (i+1)=PySem.stored (dkv key val i) (Sum.inr (key i)) (val i):=by
 unfold dkv;rw [List.range_succ,List.foldl_append];rfl
theorem Jgd (key:Nat->Str) (val:Nat->Value):∀ i,(dkv key val i).length<=i
 | 0=>Nat.le_refl _
 | i+1=>by
  have:=Jgd key val i;rw [JeX];unfold PySem.stored;split <;> simp <;> ac_nf
section
variable {prog:Program} {w:World} {A:Around} {E:Value->Shared->Prop} {s:Shared}
def Jdz (h:Heap) (a:Addr) (k v:Value):Prop:=∃ o c,h.get? a=some o/\o.cls=.type "tuple"/\o.data=.seq #[k,v] c
theorem Jdz.at_ {h h':Heap} {a:Addr} {k v:Value} (x:Jdz h a k v) (m:∀ o,h.get? a=some o->h'.get? a=some o):Jdz h' a k v:=by
 obtain ⟨o,c,e,r⟩:=x;exact ⟨o,c,m o e,r⟩
theorem Jku {z:Str} {t:Tok}:(Jaw prog w).is (Sum.inr z) (.str z t)=true:=by
 show keyIs (Sum.inr z) (.str z t)=true;simp [keyIs,Value.isStrOf]
theorem JhS {R:Result->Shared->Prop} {I:Addr} {fp wr:List Addr} {G:Array GenState->Array GenState->Prop} {n:Nat} {P:Nat->Value->Prop} {St:Nat->Shared->Prop}
  (W:WalksS prog w A.in1 I fp wr G n P St) (d:Addr) (hdf:d∉fp) (adr:Nat->Addr) (key:Nat->Str) (val:Nat->Value) (hP:∀ i v,P i v->v=.ref (adr i)) (nd:∀ i,i<n->adr i≠d) (nw:∀ i,i<n->adr i∉wr) (hz:n<=sizeLine) :
  ∀ (k i:Nat) (s:Shared),n-i=k->i<=n->St i s->s.heap.DictOf (Jaw prog w) d (dkv key val i)->(∀ j,j<n->∃ tk,Jdz s.heap (adr j) (.str (key j) tk) (val j)) ->
   (∀ s',Moved (d::wr) G s s'->s'.heap.DictOf (Jaw prog w) d (dkv key val n)->R (.ok (.ret .none)) s') ->
   codeAny (model prog w) A (.builtin "dict.update.loop" ⟨[.ref d, .ref I, .int (i:Int) 0, .none],[]⟩) R s:=by
 have O:d∉wr:=fun h=>hdf (W.sub _ h);have L:∀ b∈wr,b∈d::wr:=fun b h=>mem_cons_of_mem _ h;intro k;induction k with
 | zero=>
  intro i s X Y y H g q;have : i=n:=by ac_nf
  subst this;refine codeAny_builtin JfE ?_;rw [Around.under_plainId Jdg _];refine wpAny_bind (m:=pyNext (.ref I)) (W.done s _ _ y fun s' f=>?_);refine wpAny_bind (m:=Builtin.Dict.addKeywords d []) (wpAny_pure (wpAny_pure ?_));refine q s' (f.mono L) ?_;obtain ⟨o,J,F,C,rest⟩:=H;exact ⟨o,J,F,f.heap d o O C,rest⟩
 | succ k ih=>
  intro i s X Y y H g q;have c:i<n:=by ac_nf
  refine codeAny_builtin JfE ?_;rw [Around.under_plainId Jdg _];refine wpAny_bind (m:=pyNext (.ref I)) (W.item i s _ _ c y fun v s' S K f=>?_);rw [hP i v S];have u:s'.heap.DictOf (Jaw prog w) d (dkv key val i):=by
   obtain ⟨o,J,F,C,rest⟩:=H;exact ⟨o,J,F,f.heap d o O C,rest⟩
  have a:∀ j,j<n->∃ tk,Jdz s'.heap (adr j) (.str (key j) tk) (val j):=fun j l=>by
   obtain ⟨tk,e⟩:=g j l;exact ⟨tk,e.at_ fun o z=>f.heap _ o (nw j l) z⟩
  obtain ⟨tk,ot,ct,M,E,r⟩:=a i c;have dl:=Jgd key val i;refine wpAny_bind (wpAny_holding ?_);refine wpAny_bind (wpAny_tryCatch ?_);unfold Builtin.Dict.pairItems;refine wpAny_bind (wpAny_typeOf (T:="tuple") ⟨_,M,E⟩ ?_);rw [if_pos ⋯];unfold seqItems?;refine wpAny_bind (wpAny_bind (wpAny_load M ?_));rw [r];refine wpAny_pure (wpAny_pure ?_);show wpAny _ _ (holding [Value.str (key i) tk,val i] (dictSet d (.str (key i) tk) (val i))) _ _ _;refine wpAny_holding (wpAny_dictSet_pairs (knd:=Jaw prog w) (k:=Sum.inr (key i)) Jku u (fun N Z t=>?_) ∅);have D:N.DictOf (Jaw prog w) d (dkv key val (i+1)):=by
   rw [JeX];exact Z
  refine wpAny_pure ⟨plainId_quiet Jdg _,ih (i+1) { s' with heap:=N,toks:=s'.toks+1 } ∅ c (W.frame _ s' _ _ K (Nat.le_succ _) fun b x o e=>?_) D (fun j l=>?_) fun V Q p=>?_⟩
  ·rw [t.2 b (fun h:b=d=>hdf (h ▸ x))];exact e
  ·obtain ⟨B,U⟩:=a j l;exact ⟨B,U.at_ fun o z=>(t.2 _ (nd j l)).trans z⟩
  ·refine q V (Moved.trans W.gtrans ((f.mono L).then_heap (Nat.le_succ _) fun b o x e=>?_) Q) p;rw [t.2 b (fun h:b=d=>x (by rw [h];exact mem_cons_self))];exact e
theorem JdT {l:Addr} {items:Array Value} {c0:Nat} {Q:Value->Shared->Prop} (hh:A.handled=none) (hl:s.heap.get? l=some { cls:=.type "list",dict:=none,data:=.seq items c0,slots:=#[] }) (adr:Nat->Addr) (key:Nat->Str) (val:Nat->Value)
  (hP:∀ (i:Nat) (v:Value),items[i]?=some v->v=.ref (adr i)) (tup:∀ j,j<items.size->∃ tk,Jdz s.heap (adr j) (.str (key j) tk) (val j)) (hz:items.size<=sizeLine)
  (q:∀ h' tk,(∀ b o,s.heap.get? b=some o->h'.get? b=some o)->h'.DictOf (Jaw prog w) s.heap.objs.size (dkv key val items.size)->Q (.ref s.heap.objs.size) { s with heap:=h',toks:=tk }) :
  wpAny (model prog w) A (call (.type "dict") [.ref l]) Q E s:=by
 refine callType_codes (Q₁:=fun f x=>f=.ref s.heap.objs.size/\x={ s with heap:=s.heap.push { cls:=.type "dict",data:=.dict #[] } }) (PySem.F.kt_called_dict) (PySem.F.kt_typeCall_dict_1 _) (PySem.F.entry_dict_init) (kt_code_dict_new _ ⟨rfl,rfl⟩) ?_;rintro f x ⟨rfl,rfl⟩;have g:(s.heap.push { cls:=.type "dict",data:=.dict #[] }).DictOf (Jaw prog w) s.heap.objs.size []:=Heap.DictOf.new s.heap;refine ⟨g.typeIs,PySem.F.args_dict_init_2 _ _,?_⟩;generalize k:({ cls:=.type "dict",data:=.dict #[] }:Obj)=o0 at g ⊢;have n:(s.heap.push o0).get? l=some { cls:=.type "list",dict:=none,data:=.seq items c0,slots:=#[] }:=Heap.get?_push_of_some _ hl;have L:=Heap.lt_size hl;have V:(s.heap.push o0).objs.size=s.heap.objs.size+1:=Heap.size_push ..;unfold Builtin.«dict.__init__»;refine wpAny_bind ?_;unfold Builtin.Dict.selfAndRest;refine wpAny_bind (wpAny_notOrdered_dict g.typeIs (wpAny_pure ?_));show wpAny _ _ (Builtin.Dict.updateFrom "dict.__init__" s.heap.objs.size (.ref l) [] Value.none) _ _ _;unfold Builtin.Dict.updateFrom;refine wpAny_bind (wpAny_typeOf (T:="list") ⟨_,n,rfl⟩ ?_);rw [if_pos ⋯];have S:A.in1.in1.handled=none:=by simp [hh]
 refine wpAny_bind (Jkm S n fun d O h=>?_);refine wpAny_ite_split (fun _=>?_) (fun z=>absurd rfl z);refine wpAny_bind (wpAny_rule ?_);have y:=h _ _ n;have C:d.DictOf (Jaw prog w) s.heap.objs.size []:=by
  obtain ⟨o,H,G,k,rest⟩:=g;exact ⟨o,H,G,h _ _ k,rest⟩
 have dlt:s.heap.objs.size<d.objs.size:=by
  obtain ⟨o,H,G,k,rest⟩:=C;exact Heap.lt_size k
 have B:d.IsList l items:=⟨_,y,rfl,c0,rfl⟩;refine wpAny_bind (wpAny_pyIter_list (s:=⟨d,s.gens,s.drawn,O,s.os⟩) B ?_);have I:∀ j,j<items.size->adr j<s.heap.objs.size:=fun j a=>by
  obtain ⟨tk,o,c,e,_⟩:=tup j a;exact Heap.lt_size e
 have r:l<d.objs.size:=Heap.lt_size y;have p:A.in1.in1.handled=none:=by simp [hh]
 refine wpAny_pure ⟨plainId_quiet Jdg _,?_⟩;refine JhS ((Walks.list p d.objs.size l (Nat.ne_of_lt r) items).toS) s.heap.objs.size (by simp only [mem_cons,not_mem_nil,or_false,not_or];exact ⟨Nat.ne_of_lt dlt,Nat.ne_of_gt L⟩) adr key val hP (fun j a=>Nat.ne_of_lt (I j a)) (fun j a=>by simp only [mem_cons,not_mem_nil,or_false];exact Nat.ne_of_lt (Nat.lt_trans (I j a) dlt)) hz items.size 0 _ ∅ (Nat.zero_le _) ⟨⟨_,Heap.get?_push_size _ rfl,rfl,rfl⟩,B.push _⟩ (C.push _) (fun j a=>?_) fun J m U=>?_
 ·obtain ⟨tk,e⟩:=tup j a;exact ⟨tk,e.at_ fun o z=>Heap.get?_push_of_some _ (h _ _ (Heap.get?_push_of_some _ z))⟩
 ·obtain ⟨h',P,M,t,u⟩:=J;have N:P=s.gens:=m.gens;have K:M=s.drawn:=m.drawn;have R:u=s.os:=m.os;subst N;subst K;subst R;refine ⟨rfl,q h' t (fun b o e=>?_) U⟩;have D:=Heap.lt_size e;refine m.heap b o ?_ (Heap.get?_push_of_some _ (h _ _ (Heap.get?_push_of_some _ e)));simp only [mem_cons,not_mem_nil,or_false,not_or];exact ⟨Nat.ne_of_lt D,Nat.ne_of_lt (Nat.lt_trans D dlt)⟩
end
section
variable {X:Cx} {pins:List (Addr × Obj)} {σ : List (Option V)} {H:Hp} {s s':Shared}
theorem Inv.like (I:Inv X pins σ H { s with heap:=s'.heap,toks:=s'.toks }) (eg:s'.gens=s.gens) (eo:s'.os=s.os):Inv X pins σ H s' :=
 ⟨I.ok,by rw [eo];exact I.os,by rw [eg];exact I.bare,I.base,I.loc,I.cell,I.free,I.freeC,I.pin,I.hok,I.len⟩
theorem Jf5:∀ {vs:List Value} {ss:List Str},StrsAre vs ss->Vals (ss.map V.str) vs
 | _,_, .nil=>.nil
 | _,_, .cons z t r=>.cons ⟨t,rfl⟩ (Jf5 r)
def JjY (out ss:List Str):Prop:=out.Perm ss/\sortedS out=true
def JlF (xs:List V) (H:Hp) (Q:VK):Prop:=∃ d kvs ss,xs=[.ref d]/\H d=some (.dK kvs)/\kvs.map (·.1)=ss.map Sum.inr/\ss.length<64/\∀ l out,H l=none->JjY out ss->Q (.ref l) (upd H l (.lst (out.map V.str)))
theorem JeF (hc:X.calm=true):CallR X (.builtin "sorted") JlF:=by
 intro G s σ H xs us Q I r h;obtain ⟨d,a,ss,rfl,e,A,P,q⟩:=h;obtain ⟨u,rfl,S⟩:=vals1 r;cases S;obtain ⟨Y,W,p,f,E⟩:=dk_of I.hok e;obtain ⟨ep,D⟩:=E.dictAt;have sl:(64:Nat)<=sizeLine:=by decide
 have Z:ss.length=a.length:=by simpa using (congrArg List.length A).symm
 have O:p.length=a.length:=f.length.symm;have j:p.map (·.1)=a.map (·.1):=by
  clear E D A Z O Y q e;induction f with
  | nil=>rfl
  | cons h1 _ ih=>
   rw [map_cons,map_cons,ih,h1.1]
 refine JgG (ss:=ss) (I.ok.hd hc) W D ∅ ∅ (fun i k x v R L=>?_) fun C l g c N k M U et K T J m B=>?_
 ·have F:(p.map (·.1))[i]?=some k:=by rw [List.getElem?_map,R];rfl
  rw [j,A,List.getElem?_map] at F;obtain ⟨z,n,rfl⟩:=Option.map_eq_some_iff.mp F;rcases JaN (show keyIs (Sum.inr z) v=true from L) with ⟨b,hb,_⟩ | ⟨y,t,hy,rfl⟩
  ·cases hb
  ·cases hy;exact ⟨t,by rw [List.getD_eq_getElem?_getD,n];rfl⟩
 ·have lo:g.toList.length<=sizeLine:=by
   rw [J.length,m.length_eq];ac_nf
  refine ⟨.ref l,_,Inv.like (s:=s) (I.laid (t':=C.toks) (o:=.lst (c.map V.str)) k K (show ObjOk X.prog X.w _ C.heap l (.lst (c.map V.str)) from ⟨by rw [length_map,m.length_eq];ac_nf,g.toList,N,Jf5 J,by rw [Array.toArray_toList];exact T⟩)) M U,rfl,q l c (I.hok.fresh K) ⟨m,B⟩⟩
def JdB (ps:List (Str × V)):List (Key × V):=ps.foldl (fun l p=>putK l (Sum.inr p.1) p.2) []
def JlC (xs:List V) (H:Hp) (Q:VK):Prop:=∃ (l:Addr) (as:List Addr) (ps:List (Str × V)),xs=[.ref l]/\H l=some (.lst (as.map V.ref))/\as.length=ps.length/\(∀ (i:Nat) (a:Addr) (p:Str × V),as[i]?=some a->ps[i]?=some p->H a=some (.tup [.str p.1,p.2]))/\∀ d,H d=none->Q (.ref d) (upd H d (.dK (JdB ps)))
theorem Jhd (hc:X.calm=true):CallR X (.type "dict") JlC:=by
 intro R s σ H xs us Q I r h;obtain ⟨l,b,f,rfl,e,hl,S,q⟩:=h;obtain ⟨u,rfl,rx⟩:=vals1 r;cases rx;obtain ⟨hz,y,n,ri,J,el⟩:=I.lstM e;have F:b.length<=sizeLine:=by simpa using hz
 have W:y.length=b.length:=by simpa using J.symm
 have Z:∀ j,j<b.length->∃ u a p d,b[j]?=some a/\f[j]?=some p/\RelV p.2 u/\Jdz s.heap a (.str p.1 d) u:=fun j C=>by
  have D:=List.getElem?_eq_getElem C;have w:=List.getElem?_eq_getElem (l:=f) (i:=j) ∅;obtain ⟨_,ts,B,o,ho,L,Y,hd⟩:=I.hok _ _ (S j _ _ D w);cases B with
  | cons r1 B=>
   cases B with
   | cons r2 B=>
    cases B;obtain ⟨d,rfl⟩:=r1;exact ⟨_,_,_,d,D,w,r2,o,Y,ho,L,hd⟩
 obtain ⟨A,g⟩:=Classical.skolem.mp (show ∀ j:Nat, ∃ u:Value,j<b.length->∃ a p d,b[j]?=some a/\f[j]?=some p/\RelV p.2 u/\Jdz s.heap a (.str p.1 d) u from fun j=>by
  by_cases c:j<b.length
  ·obtain ⟨u,h⟩:=Z j c;exact ⟨u,fun _=>h⟩
  ·exact ⟨.none,fun z=>absurd z c⟩)
 have m:∀ j a,b[j]?=some a->b.getD j 0=a:=fun j a h=>by rw [List.getD_eq_getElem?_getD,h];rfl
 have t:∀ j (p:Str × V),f[j]?=some p->(f.getD j (⟨#[]⟩, .non)).1=p.1:=fun j p h=>by rw [List.getD_eq_getElem?_getD,h];rfl
 have K:y.toArray.size=b.length:=by rw [size_toArray];exact W
 refine JdT (I.ok.hd hc) el (fun j=>b.getD j 0) (fun j=>(f.getD j (⟨#[]⟩, .non)).1) A (fun j v E=>?_) (fun j C=>?_) ∅ fun h' d k P=>?_
 ·rw [List.getElem?_toArray] at E;have C:j<b.length:=by have:=(List.getElem?_eq_some_iff.mp E).1;ac_nf
  obtain ⟨u,O,U⟩:=ri.get (i:=j) (x:=.ref b[j]) (by rw [List.getElem?_map,List.getElem?_eq_getElem C];rfl);rw [E] at O;cases O;rw [m j _ (List.getElem?_eq_getElem C)];exact U
 ·obtain ⟨a,p,d,D,w,M,N⟩:=g j ∅;refine ⟨d,?_⟩;rw [m j a D,t j p w];exact N
 ·have G:∀ i,i<=b.length->KV (JdB (f.take i)) (dkv (fun j=>(f.getD j (⟨#[]⟩, .non)).1) A i):=fun i=>by
   induction i with
   | zero=>intro _;exact .nil
   | succ i ih=>
    intro hi;obtain ⟨a,p,d,D,w,M,N⟩:=g i ∅;rw [JeX,take_succ,w];unfold JdB;rw [List.foldl_append];rw [t i p w];exact (ih ∅).put _ M
  have r:=G b.length (Nat.le_refl _);rw [take_of_length_le ∅] at r;have T:(JdB f).length<=sizeLine:=by
   rw [r.length];exact Nat.le_trans (Jgd _ _ _) F
  rw [K] at P;exact ⟨.ref s.heap.objs.size,_,I.laid (a:=s.heap.objs.size) (o:=.dK (JdB f)) (t':=d) k (Nat.le_refl _) (JgQ T (beq_eq_false_iff_ne.mpr (Ne.symm (Nat.ne_of_lt I.big))) r P),rfl,q _ (I.hok.fresh (Nat.le_refl _))⟩
end
def JhF (ts:List TD) (out:List Str):Prop:=out.Nodup/\sortedS out=true/\∀ z,z∈out↔∃ t∈ts,z=t.st\/z=t.en
theorem JhF.nil {l:List Str} (h:JhF [] l):l=[]:=by
 cases l with
 | nil=>rfl
 | cons a l=>
  have:=(h.2.2 a).mp (by simp);simp at this
abbrev Pl:=List (Str × (Int × Int))
def look (ps:Pl) (z:Str):Int × Int:=((ps.find? fun p=>decide (p.1=z)).map (·.2)).getD (0,1)
def negF (a:Int × Int):Int × Int:=(-a.1,a.2)
def apart (ps:Pl) (t:TD):Int × Int:=addF (look ps t.en) (negF (look ps t.st))
def lessF (a c:Int × Int):Bool:=decide (a.1*c.2<c.1*a.2)
structure FB (A B:Nat) (a:Int × Int):Prop where
 s1:Mth.Sz A a.1
 s2:Mth.Sz B a.2
 b1:1<=a.2
 g1:Mth.g a.1 a.2=1
theorem FB.ok {A B n:Nat} {a:Int × Int} (h:FB A B a) (h1:A<=n) (h2:B<=n):FOk n a:=⟨h.s1.mono h1,h.s2.mono h2,h.b1,h.g1⟩
theorem FB.neg {A B:Nat} {a:Int × Int} (h:FB A B a):FB A B (negF a):=⟨by
 have:=h.s1;unfold Mth.Sz at this ⊢;unfold negF;rw [Int.natAbs_neg];exact this,h.s2,h.b1,by
 have:=h.g1;unfold Mth.g negF at *;simpa using this⟩
theorem FB.add {A B C D n m:Nat} {a c:Int × Int} (h:FB A B a) (k:FB C D c) (h1:A+D<=n) (h2:C+B<=n) (h3:B+D<=m):FB (n+1) m (addF a c):=by
 have b:a.2*c.2≠0:=Int.mul_ne_zero (by have:=h.b1;ac_nf) (by have:=k.b1;ac_nf);have d:=(h.s1.mul k.s2).mono h1;have e:=(k.s1.mul h.s2).mono h2;exact ⟨Mth.Sz.top b (d.add e),(Mth.Sz.bot b (h.s2.mul k.s2)).mono h3,Mth.JcQ b,Mth.g_low b⟩
theorem FB.low {A B:Nat} {t b:Int} (hb:1<=b) (h1:Mth.Sz A t) (h2:Mth.Sz B b):FB A B (Mth.top t b,Mth.bot t b):=by
 have a:b≠0:=by ac_nf
 exact ⟨Mth.Sz.top a h1,Mth.Sz.bot a h2,Mth.JcQ a,Mth.g_low a⟩
theorem JkF {X:Cx} {K:W.Frag} {e:Expr} {ta:TE} {f:Str} {pos:Pos} (hK:X.K=K) (he:PE X e ta) (hb:attributeBase e f X.env (eval e X.env)=eval e X.env):PE X (.Attribute e f pos) (tFld K ta f):=by
 subst hK;exact Jar he hb
theorem Jff {K:W.Frag} {H:Hp}:∀ (ls:List Str),RepL K H (ls.map D.str) (ls.map V.str)
 | []=>by simp [RepL]
 | a::ls=>by
  simp only [map_cons,RepL,Rep];exact ⟨_,_,rfl,rfl,Jff ls⟩
structure FW (A B:Nat) (a:Int × Int):Prop where
 s1:Mth.Sz A a.1
 s2:Mth.Sz B a.2
 b1:1<=a.2
theorem FB.w {A B:Nat} {a:Int × Int} (h:FB A B a):FW A B a:=⟨h.s1,h.s2,h.b1⟩
theorem FW.mono {A B C D:Nat} {a:Int × Int} (h:FW A B a) (h1:A<=C) (h2:B<=D):FW C D a:=⟨h.s1.mono h1,h.s2.mono h2,h.b1⟩
section
variable {X:Cx} {K:W.Frag} {o e:Expr} {es:List Expr} {to:TE} {t:TA} {name:Str} {apos cpos:Pos} {T id:String} {r:V->List V->Hp->VK->Prop}
end
section
variable {X:Cx}
theorem JiT {kvs:List (Key × V)} {vs:List (Key × Value)} (r:KV kvs vs):Vals (kvs.map (·.2)) (vs.map (·.2)):=by
 unfold KV at r;induction r with
 | nil=>exact .nil
 | cons h _ ih=>exact .cons h.2 ih
end
section
variable {prog:Program} {w:World} {A:Around} {E:Value->Shared->Prop} {s:Shared}
end
section
variable {X:Cx}
end
section
variable {X:Cx} {k k':Nat} {x mn:Str} {C:Addr} {Cs:Addr->Prop} {ps:List Str} {sp:Sp} {p pos apos:Pos} {e o:Expr} {es:List Expr} {t:TA} {ta:TE}
abbrev TX:=St->Hp->VK->XK->Prop
def xMake (C:Addr) (sp:Sp) (t:TA):TX:=fun σ H Q E=>t σ H fun vs H1=>∀ x dx,H1 x=none->H1 dx=none->dx≠x ->
 sp (.ref x::(vs++[])) (upd (upd H1 dx (.own x)) x (.ins C dx [])) (fun v H2=>v=.non/\Q (.ref x) H2) E
end
section
variable {X:Cx}
theorem JfT:OpR X (compareOp .NotIn) (rIn X.K true):=JfR
end
section
variable {σ : St} {H:Hp} {Q:VK} {E:XK} {ta td ty:TE} {ts:TA} {tc:TT} {t u:TX} {C:Addr} {sp:Sp} {Cs:Addr->Prop} {m:Str}
theorem y98y:xMake C sp ts σ H Q E=ts σ H fun vs H1=>∀ x dx,H1 x=none->H1 dx=none->dx≠x->sp (.ref x::(vs++[])) (upd (upd H1 dx (.own x)) x (.ins C dx [])) (fun v H2=>v=.non/\Q (.ref x) H2) E:=rfl
theorem y40y:tDIn ty td σ H Q=ty σ H fun y H1=>td σ H1 fun x H2=>∃ a o,x=.ref a/\DGet H2 a y o/\Q (.bl o.isSome) H2:=rfl
theorem y44y:JiL ty td σ H Q=ty σ H fun y H1=>td σ H1 fun x H2=>∃ a o,x=.ref a/\DGet H2 a y o/\Q (.bl (!o.isSome)) H2:=rfl
end
section
variable {α κ : Type} [DecidableEq κ] {f : α->κ} {k : κ} {u y : α}
end
section
variable {α : Type} {P : α->V->Prop}
end
abbrev nms (ts:List TD):List Str:=ts.map (·.nm)
def BD (P:TD->V->Prop) (ts:List TD) (kvs:List (Key × V)):Prop:=kvs.map (·.1)=ts.map (fun t=>Sum.inr t.nm)/\All2 P ts (kvs.map (·.2))
section
variable {P P':TD->V->Prop} {ts:List TD} {kvs:List (Key × V)} {t:TD} {v:V}
theorem BD.cons:BD P (t::ts) kvs↔∃ w r,kvs=(Sum.inr t.nm,w)::r/\P t w/\BD P ts r:=by
 constructor
 ·rintro ⟨a,b⟩;match kvs,a,b with
  | (k,w)::r,a,b=>
   rw [map_cons,map_cons,List.cons.injEq] at a;obtain ⟨y,d,e,p,b⟩:=b;rw [map_cons,List.cons.injEq] at e;obtain ⟨rfl,rfl⟩:=e;obtain ⟨c,a⟩:=a;have c:k=Sum.inr t.nm:=c;subst c;exact ⟨_,r,rfl,p,a,b⟩
 ·rintro ⟨w,r,rfl,p,h⟩;exact ⟨by rw [map_cons,map_cons,h.1],w,r.map (·.2),rfl,p,h.2⟩
theorem BD.nil:BD P [] kvs↔kvs=[]:=by
 constructor
 ·rintro ⟨h,_⟩;simpa using h
 ·rintro rfl;exact ⟨rfl,rfl⟩
end
def nameL:List Str:=["a","aa","aaa","b","ab","zzzzzzzz"]
theorem sub_len {α : Type} [DecidableEq α]:∀ (l m:List α),l.Nodup->l ⊆ m->l.length<=m.length
 | [],m,_,_=>by simp
 | a::l,m,hn,hs=>by
  rw [nodup_cons] at hn;have ha:a∈m:=hs (by simp);have:=sub_len l (m.erase a) hn.2 fun x hx=>(List.mem_erase_of_ne (show x≠a from fun e=>hn.1 (e ▸ hx))).mpr (hs (by simp [hx]));rw [List.length_erase_of_mem ha] at this;have:=List.length_pos_of_mem ha;rw [length_cons];ac_nf
structure Good (ts:List TD):Prop where
 nd:(nms ts).Nodup
 ok:∀ t∈ts,TOk t
 nm:∀ t∈ts,t.nm∈nameL
theorem Good.len {ts:List TD} (g:Good ts):ts.length<=6:=by
 have:=sub_len (nms ts) nameL g.nd fun z a=>by
  obtain ⟨t,b,rfl⟩:=mem_map.mp a;exact g.nm t b
 rw [length_map] at this;exact this
section
variable {X:Cx} {pins:List (Addr × Obj)} {σ : St} {H:Hp} {s:Shared} {a:Addr} {kvs:List (Key × V)} {k:Key} {u r:Value} {y:V} {A:Around} {E:Value->Shared->Prop}
theorem Jjr {v:Option V} {o:Option Value} {w:Value} (h:RelO v o) (e:o=some w):∃ x,v=some x/\RelV x w:=by
 subst e;cases v with
 | none=>exact absurd h (by simp [RelO])
 | some x=>exact ⟨x,rfl,h⟩
theorem Jjq {v:Option V} {o:Option Value} (h:RelO v o) (e:o=none):v=none:=by
 subst e;cases v with
 | none=>rfl
 | some x=>exact absurd h (by simp [RelO])
theorem Ji2 {Q:Value->Shared->Prop} (I:Inv X pins σ H s) (e:H a=some (.dK kvs)) (ry:RelV (kV k) u) (rd:RelV y r) (hl:kvs.length<sizeLine)
  (h1:∀ v w' s',valV kvs k=some v->Inv X pins σ H s'->RelV v w'->Q w' s') (h2:∀ s',valV kvs k=none->Inv X pins σ (upd H a (.dK (putK kvs k y))) s'->Q r s') :
  wpAny (model X.prog X.w) A (call (.builtin "dict.setdefault") [.ref a,u,r]) Q E s:=by
 obtain ⟨z,d,g,b,f⟩:=dk_of I.hok e;refine call_meetsIn PySem.F.slot_dict_setdefault f.typeIs PySem.F.entry_dict_setdefault (PySem.F.args_dict_setdefault_3 _ _ _) (PySem.kt_meets_setdefault (Jaw X.prog X.w) a (kV_is ry) d r) ⟨g,f,by rw [<- b.length];exact z,fun w m=>?_,fun h o c p=>?_⟩
 ·obtain ⟨x,n,t⟩:=Jjr (b.val k) m;exact h1 x w _ n (I.tok _) t
 ·have i:=Jjq (b.val k) h;refine h2 _ i ?_;have j:∃ q,o.get? a=some q:=let ⟨q,_,_,hq,_⟩:=c;⟨q,hq⟩;have l:(putK kvs k y).length<=sizeLine:=by have:=Jbg kvs k y;ac_nf
  exact JeW I (by rw [e];exact True.intro) p j (JgQ l d (b.put k rd) c)
end
def tDSet (td ty tx:TE):TE:=fun σ H Q=>td σ H fun x H1=>∃ a,x=.ref a/\IsD H1 a/\ty σ H1 fun y H2=>tx σ H2 fun z H3=>∃ kvs k,H3 a=some (.dK kvs)/\y=kV k/\kvs.length<sizeLine /\
 (∀ v,valV kvs k=some v->Q v H3)/\(valV kvs k=none->Q z (upd H3 a (.dK (putK kvs k z))))
section
variable {X:Cx} {o e f:Expr} {apos cpos:Pos} {td ty tx:TE}
theorem Jio (ho:PE X o td) (he:PE X e ty) (hf:PE X f tx) (m:M2 X o "setdefault" apos e f cpos):PE X (.Call (.Attribute o "setdefault" apos) [e,f] [] cpos) (tDSet td ty tx):=by
 intro b s σ H Q I h;refine wpAny_Call_method m.base m.few m.line PySem.F.plainAttrs_dict PySem.F.slot_dict_setdefault PySem.F.type_dict_setdefault (thn (ho b s σ H _ I h) fun u n ζ=>?_);obtain ⟨x,p,I1,J,a,C,d,q⟩:=ζ;subst C;obtain rfl:u=Value.ref a:=J;obtain ⟨D,r,_⟩:=JfG I1 d;refine ⟨D,r,?_⟩;rw [m.trees];refine Calls.callWith_builtin rfl (Calls.evalArgs_plain (Calls.spliced_cons (thn (he b n σ p _ I1 q) fun R G ⟨y,E,I2,M,w⟩=>
  Calls.spliced_cons (thn (hf b G σ E _ I2 w) fun S P ⟨z,A,I3,i,j,k,t,B,L,l,K⟩=>Calls.spliced_nil ?_))))
 subst B;exact Ji2 I3 t M i L (fun v O N c I4 g=>⟨v,A,I4,g,l v c⟩) fun N c I4=>⟨z,_,I4,i,K c⟩
end
section
variable {X:Cx}
def JkO:V->List V->Hp->VK->Prop:=fun x vs H Q=>∃ l xs y n,x=.ref l/\vs=[.int ((n:Nat):Int),y]/\H l=some (.lst xs)/\n<=xs.length/\xs.length<sizeLine/\Q .non (upd H l (.lst (xs.take n++y::xs.drop n)))
theorem Jh7:MtM X "list.insert" JkO:=by
 intro d s σ H x K v E Q I m b h;obtain ⟨l,D,y,i,rfl,rfl,f,G,L,q⟩:=h;cases m;cases b with
 | cons r1 b=>
  obtain ⟨t,rfl⟩:=r1;obtain ⟨u,rfl,g⟩:=vals1 b;obtain ⟨z,a,n,r,J,e⟩:=I.lstM f;have p:=sizeLine_eq;have o:=fitsIndex_both (k:=(i:Int)) ∅ ∅;have c:¬ (!Builtin.List.listFitsIndex (i:Int))=true:=by rw [o];decide
  have w:a.toArray.size<=sizeLine:=by rw [size_toArray];ac_nf
  clear p;generalize hj:(i:Int)=j at c ⊢;have A:=@AutoSeq1.list_insert_list_int_val_1 l a.toArray n j t u c w;refine call_meets F.slot_list_insert ⟨_,e,rfl⟩ F.entry_list_insert (F.args_list_insert_3 _ _ _) A ⟨e,?_⟩;refine ⟨.non,_,I.lset (its':=a.take i++u::a.drop i) f e ?_ ?_ ?_,rfl,q⟩
  ·subst hj;have B:min i a.length=i:=by ac_nf
   have C:(if (i:Int)<0 then ((i:Int)+(a.toArray.size:Int)).toNat else min (i:Int).toNat a.toArray.size)=i:=by
    rw [if_neg ∅,Int.toNat_natCast,size_toArray,B]
   show (a.toArray.extract 0 (if (i:Int)<0 then ((i:Int)+(a.toArray.size:Int)).toNat else min (i:Int).toNat a.toArray.size)).push u++a.toArray.extract (if (i:Int)<0 then ((i:Int)+(a.toArray.size:Int)).toNat else min (i:Int).toNat a.toArray.size)=_;rw [C];apply Array.ext';simp;exact take_of_length_le (by rw [List.length_drop];exact Nat.le_refl _)
  ·exact (r.take i).append (.cons g (r.drop i))
  ·rw [length_append,length_cons,length_take,List.length_drop];ac_nf
end
section
variable {σ : St} {H:Hp} {Q:VK} {td ty tx:TE}
theorem y48y:tDSet td ty tx σ H Q=td σ H fun x H1=>∃ a,x=.ref a/\IsD H1 a/\ty σ H1 fun y H2=>tx σ H2 fun z H3=>∃ kvs k,H3 a=some (.dK kvs)/\y=kV k/\kvs.length<sizeLine/\(∀ v,valV kvs k=some v->Q v H3)/\(valV kvs k=none->Q z (upd H3 a (.dK (putK kvs k z)))):=rfl
theorem y3fy:JjQ td ty tx σ H Q=td σ H fun x H1=>∃ a,x=.ref a/\IsD H1 a/\ty σ H1 fun y H2=>tx σ H2 fun z H3=>∃ o,DGet H3 a y o/\Q (o.getD z) H3:=rfl
theorem y41y {trs:List (TE × TE)}:tDisp trs σ H Q=∀ p,H p=none->Jf0 trs σ (upd H p (.dK [])) fun ps H2=>H2 p=some (.dK [])/\∃ kvs:List (Key × V),ps=kvs.map (fun kv=>(kV kv.1,kv.2))/\kvs.length<=15/\Q (.ref p) (upd H2 p (.dK (JeN [] kvs))):=rfl
theorem y7cy {tk tv:TE} {R:List (V × V)->Hp->Prop}:Jf0 [(tk,tv)] σ H R=tk σ H fun x H1=>tv σ H1 fun y H2=>R [(x,y)] H2:=rfl
theorem y2dy {K:W.Frag} {T:String} {r:V->List V->Hp->VK->Prop} {to:TE}:tBM0 K T r to σ H Q=to σ H fun x H1=>tyV K T x H1/\r x [] H1 Q:=rfl
end
def BG {α : Type} (f : α->Str) (P : α->V->Prop) (as:List α) (kvs:List (Key × V)):Prop:=kvs.map (·.1)=as.map (fun a=>Sum.inr (f a))/\All2 P as (kvs.map (·.2))
section
variable {α : Type} {f : α->Str} {P P' : α->V->Prop} {as:List α} {kvs:List (Key × V)} {a : α} {v:V}
theorem BG.mono (h:BG f P as kvs) (m:∀ a x,P a x->P' a x):BG f P' as kvs:=⟨h.1,h.2.mono m⟩
theorem BG.length (h:BG f P as kvs):kvs.length=as.length:=by simpa using congrArg List.length h.1
theorem BG.cons:BG f P (a::as) kvs↔∃ w r,kvs=(Sum.inr (f a),w)::r/\P a w/\BG f P as r:=by
 constructor
 ·rintro ⟨b,c⟩;match kvs,b,c with
  | (k,w)::r,b,c=>
   rw [map_cons,map_cons,List.cons.injEq] at b;obtain ⟨y,g,e,p,c⟩:=c;rw [map_cons,List.cons.injEq] at e;obtain ⟨rfl,rfl⟩:=e;obtain ⟨d,b⟩:=b;have d:k=Sum.inr (f a):=d;subst d;exact ⟨_,r,rfl,p,b,c⟩
 ·rintro ⟨w,r,rfl,p,h⟩;exact ⟨by rw [map_cons,map_cons,h.1],w,r.map (·.2),rfl,p,h.2⟩
theorem BG.nil:BG f P [] kvs↔kvs=[]:=by
 constructor
 ·rintro ⟨h,_⟩;simpa using h
 ·rintro rfl;exact ⟨rfl,rfl⟩
theorem BG.any:∀ {as:List α} {kvs:List (Key × V)} {z:Str},BG f P as kvs->(kvs.any fun kv=>decide (kv.1=Sum.inr z))=decide (z∈as.map f)
 | [],kvs,z,h=>by rw [BG.nil.mp h];simp
 | a::as,kvs,z,h=>by
  obtain ⟨w,r,rfl,_,h⟩:=BG.cons.mp h;rw [any_cons,BG.any h];by_cases c:f a=z
  ·subst c;simp
  ·have c1:(Sum.inr (f a):Key)≠Sum.inr z:=fun e=>c (by injection e);have c2:z≠f a:=fun e=>c e.symm;simp [c1,c2]
theorem BG.get:∀ {as:List α} {kvs:List (Key × V)} {z:Str},BG f P as kvs->(∃ a v,a∈as/\f a=z/\valV kvs (Sum.inr z)=some v/\P a v)\/(z∉as.map f/\valV kvs (Sum.inr z)=none)
 | [],kvs,z,h=>by
  rw [BG.nil.mp h];exact .inr ⟨by simp,rfl⟩
 | a::as,kvs,z,h=>by
  obtain ⟨w,r,rfl,p,h⟩:=BG.cons.mp h;by_cases c:f a=z
  ·subst c;exact .inl ⟨a,w,by simp,rfl,Jbb rfl,p⟩
  ·have c1:(Sum.inr (f a):Key)≠Sum.inr z:=fun e=>c (by injection e);have c2:z≠f a:=fun e=>c e.symm;have e:valV ((Sum.inr (f a),w)::r) (Sum.inr z)=valV r (Sum.inr z):=by simp [valV,List.find?_cons,c1]
   rw [e];rcases BG.get h (z:=z) with ⟨b,v,h1,h2,h3,h4⟩ | ⟨h1,h2⟩
   ·exact .inl ⟨b,v,by simp [h1],h2,h3,h4⟩
   ·exact .inr ⟨by simp [c2];simpa using h1,h2⟩
theorem BG.some {z:Str} (h:BG f P as kvs) (hz:z∈as.map f):∃ a v,a∈as/\f a=z/\valV kvs (Sum.inr z)=some v/\P a v:=by
 rcases h.get (z:=z) with h | ⟨h,_⟩
 ·exact h
 ·exact absurd hz h
theorem BG.none {z:Str} (h:BG f P as kvs) (hz:z∉as.map f):valV kvs (Sum.inr z)=none:=by
 rcases h.get (z:=z) with ⟨a,v,h1,h2,_⟩ | ⟨_,h⟩
 ·exact absurd (h2 ▸ List.mem_map_of_mem (f:=f) h1) hz
 ·exact h
theorem BG.val {z:Str} (h:BG f P as kvs):(valV kvs (Sum.inr z)).isSome=decide (z∈as.map f):=by
 by_cases c:z∈as.map f
 ·obtain ⟨a,v,_,_,e,_⟩:=h.some c;rw [e,decide_eq_true c];rfl
 ·rw [h.none c,decide_eq_false c];rfl
theorem BG.new (h:BG f P as kvs) (hn:f a∉as.map f) (p:P a v):BG f P (as++[a]) (putK kvs (Sum.inr (f a)) v):=by
 have e:putK kvs (Sum.inr (f a)) v=kvs++[(Sum.inr (f a),v)]:=by
  unfold putK;rw [h.any,if_neg (by simpa using hn)]
 rw [e];exact ⟨by rw [map_append,map_append,h.1];rfl,by rw [map_append];exact h.2.append (.one p)⟩
end
structure PD where
 nm:Str
 st:Str
 en:Str
 sz:Int × Int
 mo:Int × Int
 wt:Int
def JdA (p:PD) (f:Str):List (Str × Pr):=if p.st=f then [(p.en,(p.nm,true))] else if p.en=f then [(p.st,(p.nm,false))] else []
def JaE (ls:List PD) (f:Str):List (Str × Pr):=ls.flatMap fun p=>JdA p f
theorem Jd0 (ls:List PD) (p:PD) (f:Str):JaE (ls++[p]) f=JaE ls f++JdA p f:=by simp [JaE]
theorem Jbi {ls:List PD} {f g:Str} {pr:Pr}:(g,pr)∈JaE ls f↔∃ p∈ls,(p.st=f/\p.en=g/\pr=(p.nm,true))\/(p.st≠f/\p.en=f/\p.st=g/\pr=(p.nm,false)):=by
 unfold JaE;rw [mem_flatMap];refine exists_congr fun p=>and_congr_right fun _=>?_;unfold JdA;by_cases a:p.st=f
 ·rw [if_pos a,mem_singleton,Prod.mk.injEq];exact ⟨fun h=>.inl ⟨a,h.1.symm,h.2⟩,fun h=>h.elim (fun h=>⟨h.2.1.symm,h.2.2⟩) fun h=>absurd a h.1⟩
 ·rw [if_neg a];by_cases b:p.en=f
  ·rw [if_pos b,mem_singleton,Prod.mk.injEq];exact ⟨fun h=>.inr ⟨a,b,h.1.symm,h.2⟩,fun h=>h.elim (fun h=>absurd h.1 a) fun h=>⟨h.2.2.1.symm,h.2.2.2⟩⟩
  ·rw [if_neg b];exact ⟨fun h=>by simp at h,fun h=>h.elim (fun h=>absurd h.1 a) fun h=>absurd h.2.1 b⟩
theorem Jic:∀ {ls:List PD} {p q:PD},(ls.map (·.nm)).Nodup->p∈ls->q∈ls->p.nm=q.nm->p=q
 | [],_,_,_,hp,_,_=>by cases hp
 | a::ls,p,q,hn,hp,hq,e=>by
  rw [map_cons,nodup_cons] at hn;rcases mem_cons.mp hp with h1 | h1 <;> rcases mem_cons.mp hq with h2 | h2
  ·rw [h1,h2]
  ·subst h1;exact absurd (e ▸ mem_map.mpr ⟨q,h2,rfl⟩) hn.1
  ·subst h2;exact absurd (e ▸ mem_map.mpr ⟨p,h1,rfl⟩) hn.1
  ·exact Jic hn.2 h1 h2 e
inductive Jbh (ls:List PD) (a:Str):List Pr->Str->Prop
 | nil:Jbh ls a [] a
 | snoc {w:List Pr} {f g:Str} {pr:Pr}:Jbh ls a w f->(g,pr)∈JaE ls f->Jbh ls a (w++[pr]) g
def Conn (ls:List PD) (a b:Str):Prop:=∃ w,Jbh ls a w b
theorem Jj9 {ls:List PD} {a b:Str} {S:List Str} (ha:a∈S) (hc:∀ f∈S, ∀ e∈JaE ls f,e.1∈S) (h:Conn ls a b):b∈S:=by
 obtain ⟨w,h⟩:=h;induction h with
 | nil=>exact ha
 | snoc _ hm ih=>exact hc _ ih _ hm
def fcsOf (ls:List PD):List Str:=ls.flatMap fun p=>[p.st,p.en]
theorem JgW {ls:List PD} {f:Str} {e:Str × Pr} (h:e∈JaE ls f):e.1∈fcsOf ls:=by
 obtain ⟨p,b,a⟩:=mem_flatMap.mp h;refine mem_flatMap.mpr ⟨p,b,?_⟩;unfold JdA at a;split at a
 ·rw [mem_singleton.mp a];simp
 ·split at a
  ·rw [mem_singleton.mp a];simp
  ·simp at a
theorem Jhc {ls:List PD} {a b:Str} {w:List Pr} (h:Jbh ls a w b):b∈a::fcsOf ls:=by
 cases h with
 | nil=>simp
 | snoc _ hm=>exact mem_cons_of_mem _ (JgW hm)
theorem Jke (ls:List PD):(fcsOf ls).length=2*ls.length:=by
 unfold fcsOf;induction ls with
 | nil=>rfl
 | cons p ls ih=>
  rw [List.flatMap_cons,length_append,ih];simp;ac_nf
section
variable {X:Cx} {pins:List (Addr × Obj)} {σ : List (Option V)} {H H':Hp} {s s':Shared} {d:Addr} {kvs kvs':List (Key × V)} {od:Obj}
theorem Inv.freeze (I:Inv X pins σ H s) (e:H d=some (.dK kvs)) (ho:s.heap.get? d=some od):Inv X pins σ (upd H d (.frz od (.dK kvs))) s:=by
 refine I.un (h':=s.heap) (t':=s.toks) ⟨fun b o q _ _ _=>q,fun b o q _ _ _=>⟨o.slots,q⟩,fun b o q n _=>?_,fun b o q _=>⟨o,q⟩,fun b h q=>?_,fun b o u q=>?_,fun b j q=>⟨#[],?_⟩⟩ fun a o q=>?_
 ·rw [Jag (fun z=>by rw [z,e] at n;cases n)];exact n
 ·rw [Jag (fun z=>by rw [z,e] at q;cases q)];exact q
 ·rw [Jag (fun z=>by rw [z,e] at q;cases q)];exact q
 ·rw [Jag (fun z=>by rw [z,e] at q;cases q),Array.append_empty];exact q
 ·have f:∀ i b,H b=some (.own i)->upd H d (.frz od (.dK kvs)) b=some (.own i):=fun i b q=>by
   rw [Jag (fun z=>by rw [z,e] at q;cases q)];exact q
  have g:∀ b h,H b=some (.tup h)->upd H d (.frz od (.dK kvs)) b=some (.tup h):=fun b h q=>by
   rw [Jag (fun z=>by rw [z,e] at q;cases q)];exact q
  by_cases c:a=d
  ·subst c;rw [Jak] at q;cases q;exact ⟨ho,(I.hok a _ e).stay (fun _ _ _ z=>z) (f a) g⟩
  ·rw [Jag c] at q;exact (I.hok a o q).stay (fun _ _ _ z=>z) (f a) g
theorem Inv.thaw (I:Inv X pins σ H s) (e:H d=some (.dK kvs)) (I':Inv X pins σ H' s') (e':H' d=some (.frz od (.dK kvs'))):Inv X pins σ (upd H' d (.dK kvs')) s':=by
 have m:∀ {b:Addr} {o:HO},H' b=some o->(∀ u v,o≠.frz u v)->b≠d:=fun q h z=>by rw [z,e'] at q;cases q;exact h _ _ rfl
 refine ⟨I'.ok,I'.os,I'.bare,⟨I'.base.keep,I'.base.slot,fun b o q n A=>?_,I'.base.there,fun b j q=>?_,fun b o u q=>?_,fun b B q=>?_⟩,I'.loc,I'.cell,?_,fun x c z=>?_,fun p t=>?_,fun a o q=>?_,I'.len⟩
 ·have:=I'.base.free b o q n A;rw [Jag (fun z=>by rw [z,e'] at this;cases this)];exact this
 ·have:=I'.base.tups b j q;rw [Jag (m this (by intro u v z;cases z))];exact this
 ·have f:=I'.base.frzs b o u q;have g:=I.base.frzs b o u q;rw [Jag (fun z=>by rw [z,e] at g;cases g)];exact f
 ·obtain ⟨l,f⟩:=I'.base.tbls b B q;exact ⟨l,by rw [Jag (m f (by intro u v z;cases z))];exact f⟩
 ·have:=I'.free;rw [Jag (fun z=>by rw [z,e'] at this;cases this)];exact this
 ·have:=I'.freeC x c z;rw [Jag (fun z=>by rw [z,e'] at this;cases this)];exact this
 ·obtain ⟨f,g,y⟩:=I'.pin p t;exact ⟨f,by rw [Jag (fun z=>by rw [z,e'] at g;cases g)];exact g,y⟩
 ·have k:∀ r b,H' b=some (.own r)->upd H' d (.dK kvs') b=some (.own r):=fun r b q=>by
   rw [Jag (m q (by intro u v z;cases z))];exact q
  have i:∀ b j,H' b=some (.tup j)->upd H' d (.dK kvs') b=some (.tup j):=fun b j q=>by
   rw [Jag (m q (by intro u v z;cases z))];exact q
  by_cases c:a=d
  ·subst c;rw [Jak] at q;cases q;have f:ObjOk X.prog X.w H' s'.heap a (.dK kvs'):=(I'.hok a _ e').2;exact f.stay (fun _ _ _ z=>z) (k a) i
  ·rw [Jag c] at q;exact (I'.hok a o q).stay (fun _ _ _ z=>z) (k a) i
end
def Itv (d:Addr) (od:Obj) (kvs:List (Key × V)):It :=
 ⟨fun i H=>H d=some (.frz od (.dK kvs))/\i<kvs.length,fun i H x H'=>H'=H/\(kvs.map (·.2))[i]?=some x,fun i H=>H d=some (.frz od (.dK kvs))/\kvs.length<=i⟩
theorem JiS {P:Program} {w:World} {K:W.Frag} {tg:Expr} {d it:Addr} {od:Obj} {kvs:List (Key × V)} {vs:List (Key × Value)} {ep:Nat} (rel:KV kvs vs) (hd:∀ h:Heap,h.get? d=some od->h.DictAt (Jaw P w) d vs ep) :
  Turn P w K tg (Itv d od kvs) [it] it (fun i h=>h.IsValIter it d i vs.length ep) where
 mem:=by simp
 obj:=fun i h a b j=>by
  obtain rfl:b=it:=by simpa using j
  obtain ⟨o,e,c,z⟩:=a;exact ⟨o,e,fun v q=>by rw [z] at q;cases q⟩
 keep:=fun i h p a k=>a.at fun o e=>k it (by simp) o e
 item:=by
  intro X B D r J i f s σ H E I n a C;subst B D r;obtain ⟨l,M⟩:=C;obtain ⟨t,y,U,F,G,A⟩:=n it (by simp);have g:=(I.hok d _ l).1;have R:=rel.length;have S:=JiT rel;obtain ⟨x,L⟩:∃ x,(kvs.map (·.2))[i]?=some x:=⟨_,List.getElem?_eq_getElem (by rw [length_map];exact M)⟩;obtain ⟨u,N,O⟩:=S.get L;rw [List.getElem?_map] at N;obtain ⟨⟨k,Z⟩,Y,rfl⟩:=Option.map_eq_some_iff.mp N;refine wpAny_pyNext_values_item a (hd _ g) Y fun p m Q=>?_;have I1:Inv X f σ H { s with heap:=p }:=I.turned (t':=s.toks) (fun b o j e=>(Q.2 b j).trans e) t y F G A;obtain ⟨o,e,c,z⟩:=id m;exact ⟨_,rfl,go_of (s:={ s with heap:=p }) e c z ⋯ ⟨x,H,I1,O,⟨rfl,L⟩,m,fun b j=>(n b j).1⟩⟩
 done:=by
  intro X B D r J i f s σ H E I n a C;subst B D r;obtain ⟨l,M⟩:=C;obtain ⟨t,y,U,F,G,A⟩:=n it (by simp);have g:=(I.hok d _ l).1;have R:=rel.length;exact wpAny_pyNext_values_end (I.ok.hd J) a (hd _ g) (List.getElem?_eq_none ∅) fun p T=>⟨rfl,I.turned (t':=s.toks) (fun b o j e=>T b o j e) t y F G A⟩
 self:=fun _ _ _ _ _ a h=>wpAny_pyIter_valiter a h
section
variable {X:Cx} {tg:Expr}
def iVals (td:TE):TI:=fun σ H R=>td σ H fun x H1=>∃ d kvs,x=.ref d/\H1 d=some (.dK kvs)/\∀ od,R (Itv d od kvs) (upd H1 d (.frz od (.dK kvs)))
theorem Jis {o:Expr} {td:TE} {apos cpos:Pos} (ho:PE X o td) (hb:attributeBase o "values" X.env (eval o X.env)=eval o X.env:=by rfl) (hn:(apos.endLine == cpos.line)=true:=by rfl) :
  PI X tg (.Call (.Attribute o "values" apos) [] [] cpos) (iVals td):=by
 intro f s σ H R I h;refine wpAny_Call_method0_late hb hn (thn (ho f s σ H _ I h) fun v a ζ=>?_);obtain ⟨y,C,I1,u,d,kvs,x,e,p⟩:=ζ;subst x;obtain rfl:v=Value.ref d:=u;obtain ⟨k,t,A⟩:=JfG I1 (.inl ⟨kvs, .inl e⟩);obtain ⟨D,_,vs,g,l⟩:=dk_of I1.hok e;refine ⟨"dict","dict.values",PySem.F.plainAttrs_dict,PySem.F.slot_dict_values,PySem.F.type_dict_values,k,t,Calls.callWith_builtin rfl (PySem.evalArgs_none ?_)⟩;refine call_meetsIn PySem.F.slot_dict_values k PySem.F.entry_dict_values (PySem.F.args_dict_values_1 _) (meets_dict_values (Jaw X.prog X.w) d A) ⟨⟨vs,l⟩,?_⟩;obtain ⟨ep,j⟩:=l.dictAt;obtain ⟨m,B,c,rest⟩:=id j;refine wpAny_pyIter_values (knd:=Jaw X.prog X.w) (v:=a.heap.objs.size) (d:=d) (kvs:=vs) (ep:=ep) ⟨_,Heap.get?_push_size _ rfl,rfl,rfl⟩ (j.push _) ?_;have r:∀ b o,a.heap.get? b=some o->((a.heap.push { cls:=.type "dict_values",data:=.fields #[.ref d] }).push { cls:=.type "dict_valueiterator",data:=.fields #[.ref d, .int 0 0, .int vs.length 0, .int ep 0] }).get? b=some o:=fun b o z=>Heap.get?_push_of_some _ (Heap.get?_push_of_some _ z);have I2:=(I1.freeze e c).kept (t':=a.toks) r;have n:a.heap.objs.size<=(a.heap.push { cls:=.type "dict_values",data:=.fields #[.ref d] }).objs.size:=by
  rw [Heap.size_push];exact Nat.le_succ _
 refine ⟨_,[_],_,_,_,rfl,I2,JiS (vs:=vs) (ep:=ep) g (fun h q=>⟨m,B,q,rest⟩),⟨_,Heap.get?_push_size _ rfl,rfl,rfl⟩,fun b i=>?_,p m⟩;obtain rfl:=mem_singleton.mp i;exact I1.fpOk n ((I1.freeze e c).hok.fresh n)
def tThaw (t:TE):TE:=fun σ H Q=>∃ d kvs,H d=some (.dK kvs)/\t σ H fun v H'=>∃ od kvs',H' d=some (.frz od (.dK kvs'))/\Q v (upd H' d (.dK kvs'))
theorem Jgy {e:Expr} {t:TE} (h:PE X e t):PE X e (tThaw t):=by
 intro a s σ H Q I ⟨d,c,j,q⟩;exact thn (h a s σ H _ I q) fun v k ⟨x,l,I1,f,m,b,i,g⟩=>⟨x,_,I.thaw j I1 i,f,g⟩
end
section
variable {k:Nat} {cs:List (Nat × Str)} {g:TG} {te tl td:TE} {σ : St} {H H1:Hp} {Q:VK} {d:Addr} {od:Obj} {kvs:List (Key × V)}
theorem y3ay:tThaw (tComp k cs (iVals td) g te) σ H Q=∃ d kvs,H d=some (.dK kvs)/\td σ H fun x H1=>∃ d1 kvs1,x=.ref d1/\H1 d1=some (.dK kvs1)/\∀ od,CompJ (Itv d1 od kvs1) k cs g te σ (fun v H'=>∃ od kvs',H' d=some (.frz od (.dK kvs'))/\Q v (upd H' d (.dK kvs'))) (upd H1 d1 (.frz od (.dK kvs1))):=rfl
theorem CompJ.vals (Pv:Nat->List V->Hp->Prop) (h0:Pv 0 [] H1) (hl:∀ i ys H',i<=kvs.length->Pv i ys H'->H' d=some (.frz od (.dK kvs))/\ys.length<=sizeLine)
  (hs:∀ i x ys H2,(kvs.map (·.2))[i]?=some x->Pv i ys H2->g x (List.replicate k none++JaB cs σ) H2 fun σ4 H4=>te σ4 H4 fun y H5=>Pv (i+1) (ys++[y]) H5) (hd:∀ ys H2,Pv kvs.length ys H2->∀ p,H2 p=none->Q (.ref p) (upd H2 p (.lst ys))) :
  CompJ (Itv d od kvs) k cs g te σ Q H1:=by
 refine ⟨fun i m ys H'=>Pv i ys H'/\i<=kvs.length/\m=kvs.length-i,⟨_,h0,Nat.zero_le _,rfl⟩,?_⟩;rintro i m ys H2 ⟨a,j,rfl⟩;obtain ⟨b,l⟩:=hl i ys H2 j a;refine ⟨l,?_⟩;by_cases c:i<kvs.length
 ·refine .inr ⟨⟨b,c⟩,?_⟩;rintro x h ⟨rfl,f⟩;have e:(fun (σ4:St) (H4:Hp)=>te σ4 H4 fun y H5=>Pv (i+1) (ys++[y]) H5)=fun σ4 H4=>te σ4 H4 fun y H5=>∃ m',m'<kvs.length-i/\Pv (i+1) (ys++[y]) H5/\i+1<=kvs.length/\m'=kvs.length-(i+1):=by
   funext σ4 H4
   congr 1
   funext y H5
   exact propext ⟨fun q=>⟨_,Nat.sub_lt_sub_left c (Nat.lt_succ_self i),q,c,rfl⟩,fun ⟨_,_,q,_⟩=>q⟩
  rw [<- e];exact hs i x ys h f a
 ·have n:i=kvs.length:=by ac_nf
  subst n;exact .inl ⟨⟨b,Nat.le_refl _⟩,hd ys H2 a⟩
end
section
variable {X:Cx} {k k':Nat} {x:Str} {C:Addr} {ps:List Str} {sp:Sp} {E:XK} {p pos:Pos}
theorem KCal.ev0 (G:KCal X.prog X.w X.K X.mg X.base k x C ps sp) (hr:Room k' X.A) (hk:k+1<=k') (hg:Gl X x) (hx:JbX (CX1 X.prog X.w) X E) (hdb:(x == ("__debug__" : Str))=false:=by decide) :
  PE X (.Call (.Name x p) [] [] pos) (tMake C sp [] E tNil):=by
 obtain ⟨f,c,F,a,M,b⟩:=G.ex;exact Jjm M F (hr.mono hk) hg a b .nil hx hdb
end
def wtB:D->Bool
 | .int i=>decide (1<=i)
 | _=>false
def partB:D->Bool
 | .tup [n,s,e,z,m,w]=>nameB n&&JcP s e&&(fracB z&&fracB m&&Jce w)&&(!lessD m (.tup [.int 0, .int 1])&&wtB w)
 | _=>false
def gapB:D->Bool
 | .tup [n,s,e,l,g]=>tieB (.tup [n,s,e,l,g])&&!nonD l&&!nonD g
 | _=>false
structure POk (p:PD):Prop where
 n1:nameS p.nm=true
 n2:nameS p.st=true
 n3:nameS p.en=true
 ne:p.st≠p.en
 z:FOk 200 p.sz
 m:FOk 200 p.mo
 m0:0<=p.mo.1
 w:1<=p.wt
 ws:Mth.Sz 200 p.wt
structure GD where
 nm:Str
 st:Str
 en:Str
 lo:Int × Int
 hi:Int × Int
def GD.td (g:GD):TD:=⟨g.nm,g.st,g.en,some g.lo,some g.hi⟩
def pdD (p:PD):D:=.tup [.str p.nm, .str p.st, .str p.en,frD p.sz,frD p.mo, .int p.wt]
theorem POk.part {p:PD} (h:POk p):partB (pdD p)=true:=by
 have e:eqD (.str p.st) (.str p.en)=false:=by simp only [eqD,beq_eq_false_iff_ne];exact h.ne
 have l:lessD (frD p.mo) (.tup [.int 0, .int 1])=false:=by
  simp [frD,lessD];exact h.m0
 simp [pdD,partB,nameB,JcP,h.n1,h.n2,h.n3,e,l,frD,fracB,Jce,wtB,h.z.b1,h.z.g1,h.m.b1,h.m.g1,h.w];simpa [frD,lessD] using h.m0
theorem POk.sz {p:PD} (h:POk p):szD (pdD p):=by
 simp only [pdD,frD,szD,szL];have:=len8 h.n1;have:=len8 h.n2;have:=len8 h.n3;exact ⟨by ac_nf,by ac_nf,by ac_nf,⟨h.z.s1.mono ⋯,h.z.s2.mono ⋯,trivial⟩,⟨h.m.s1.mono ⋯,h.m.s2.mono ⋯,trivial⟩,h.ws.mono ⋯,trivial⟩
theorem Jlb {g:GD} (h:TOk g.td):gapB (tdD g.td)=true:=by
 have:=h.tie;simp only [tdD,gapB] at this ⊢;rw [this];rfl
def PDV (K:W.Frag) (H:Hp) (p:PD) (x:V):Prop:=∃ b vz vm,x=.ref b/\SqT K H b [.str p.nm, .str p.st, .str p.en,vz,vm, .int p.wt]/\FrV K H vz p.sz.1 p.sz.2/\FrV K H vm p.mo.1 p.mo.2
section
variable {K:W.Frag} {H H':Hp}
theorem PDV.sameT {p:PD} {x:V} (S:SameT H H'):PDV K H p x->PDV K H' p x:=by rintro ⟨b,d,f,e,q,a,c⟩;exact ⟨b,d,f,e,q.sameT S,a.sameT S,c.sameT S⟩
theorem PDV.rep {p:PD} {x:V}:PDV K H p x->Rep K H (pdD p) x:=fun ⟨b,d,f,e,q,a,c⟩=>by
 simp only [pdD,Rep,RepL];exact ⟨b,_,e,q,_,_,rfl,rfl,_,_,rfl,rfl,_,_,rfl,rfl,_,_,rfl,FrV.rep a,_,_,rfl,FrV.rep c,_,_,rfl,rfl,rfl⟩
end
def LeV (H:Hp) (e:Str × Pr) (x:V):Prop:=∃ b c,x=.ref b/\H b=some (.tup [.str e.1, .ref c])/\H c=some (.tup [.str e.2.1, .bl e.2.2])
theorem LeV.sameT {H H':Hp} {e:Str × Pr} {x:V} (S:SameT H H'):LeV H e x->LeV H' e x:=by rintro ⟨b,c,a,f,d⟩;exact ⟨b,c,a,S _ _ rfl f,S _ _ rfl d⟩
structure JD (H0 H:Hp) (L:Str->List (Str × Pr)) (kvs:List (Key × V)):Prop where
 at_:∀ (f:Str),(valV kvs (Sum.inr f)=none/\L f=[])\/∃ l xs,valV kvs (Sum.inr f)=some (.ref l)/\H0 l=none/\H l=some (.lst xs)/\All2 (LeV H) (L f) xs
 inj:∀ (f g:Str) (l:Addr),valV kvs (Sum.inr f)=some (.ref l)->valV kvs (Sum.inr g)=some (.ref l)->f=g
theorem JD.same {H0 H H':Hp} {L:Str->List (Str × Pr)} {kvs:List (Key × V)} (S:Same H H') (h:JD H0 H L kvs):JD H0 H' L kvs where
 at_:=fun f=>by
  rcases h.at_ f with h | ⟨l,xs,h1,h2,h3,h4⟩
  ·exact .inl h
  ·exact .inr ⟨l,xs,h1,h2,S _ _ h3,h4.mono fun _ _ z=>z.sameT S.t⟩
 inj:=h.inj
theorem JD.sx {H0 H H':Hp} {L:Str->List (Str × Pr)} {kvs kv2:List (Key × V)} {d:Addr} (S:∀ b u,b≠d->H b=some u->H' b=some u) (hd:H d=some (.dK kv2)) (h:JD H0 H L kvs):JD H0 H' L kvs where
 at_:=fun f=>by
  have T:SameT H H':=fun b u t q=>S b u (fun z=>by rw [z,hd] at q;cases q;simp [isTF] at t) q;rcases h.at_ f with h | ⟨l,xs,h1,h2,h3,h4⟩
  ·exact .inl h
  ·exact .inr ⟨l,xs,h1,h2,S _ _ (fun z=>by rw [z,hd] at h3;cases h3) h3,h4.mono fun _ _ z=>z.sameT T⟩
 inj:=h.inj
theorem JD.sy {H0 H H':Hp} {L:Str->List (Str × Pr)} {kvs:List (Key × V)} {x:Addr} {o:HO} (S:∀ b u,b≠x->H b=some u->H' b=some u) (hx:H x=some o) (hn:∀ xs,o≠.lst xs) (ht:isTF o=false) (h:JD H0 H L kvs):JD H0 H' L kvs where
 at_:=fun f=>by
  have T:SameT H H':=fun b u t q=>S b u (fun z=>by rw [z,hx] at q;cases q;rw [ht] at t;cases t) q;rcases h.at_ f with h | ⟨l,xs,h1,h2,h3,h4⟩
  ·exact .inl h
  ·exact .inr ⟨l,xs,h1,h2,S _ _ (fun z=>by rw [z,hx] at h3;exact hn _ (Option.some.inj h3)) h3,h4.mono fun _ _ z=>z.sameT T⟩
 inj:=h.inj
theorem JD.nil {H0 H:Hp}:JD H0 H (fun _=>[]) []:=⟨fun f=>.inl ⟨rfl,rfl⟩,fun f g l h=>by simp [valV] at h⟩
def addL (L:Str->List (Str × Pr)) (f:Str) (e:Str × Pr):Str->List (Str × Pr):=fun g=>if g=f then L g++[e] else L g
theorem JD.more {H0 H H':Hp} {L:Str->List (Str × Pr)} {kvs:List (Key × V)} {f:Str} {e:Str × Pr} {l b:Addr} {xs:List V} (h:JD H0 H L kvs) (hv:valV kvs (Sum.inr f)=some (.ref l)) (hl:H l=some (.lst xs)) (hb:LeV H e (.ref b)) (e':upd H l (.lst (xs++[.ref b]))=H'):JD H0 H' (addL L f e) kvs where
 at_:=fun g=>by
  have T:SameT H H':=SameT.put e' hl rfl;have a:H' l=some (.lst (xs++[.ref b])):=by rw [<- e',Jak]
  by_cases c:g=f
  ·subst c;rcases h.at_ g with ⟨h1,_⟩ | ⟨l2,xs2,h1,h2,h3,h4⟩
   ·rw [hv] at h1;cases h1
   ·rw [hv] at h1;cases h1;rw [hl] at h3;cases h3;refine .inr ⟨l,_,hv,h2,a,?_⟩;unfold addL;rw [if_pos rfl];exact (h4.mono fun _ _ z=>z.sameT T).append (.one (hb.sameT T))
  ·unfold addL;rw [if_neg c];rcases h.at_ g with h1 | ⟨l2,xs2,h1,h2,h3,h4⟩
   ·exact .inl h1
   ·have d:l2≠l:=fun z=>c (h.inj g f l (by rw [h1,z]) hv);exact .inr ⟨l2,xs2,h1,h2,by rw [<- e',Jag d];exact h3,h4.mono fun _ _ z=>z.sameT T⟩
 inj:=h.inj
theorem JD.first {H0 H H':Hp} {L:Str->List (Str × Pr)} {kvs:List (Key × V)} {f:Str} {e:Str × Pr} {l b:Addr} (h:JD H0 H L kvs) (hv:valV kvs (Sum.inr f)=none) (h0:H0 l=none) (hn:∀ g l',valV kvs (Sum.inr g)=some (.ref l')->l'≠l) (hl:H l=some (.lst [])) (hb:LeV H e (.ref b)) (e':upd H l (.lst [.ref b])=H'):JD H0 H' (addL L f e) (putK kvs (Sum.inr f) (.ref l)) where
 at_:=fun g=>by
  have T:SameT H H':=SameT.put e' hl rfl;have n:H' l=some (.lst [.ref b]):=by rw [<- e',Jak]
  rw [Jha];by_cases c:g=f
  ·subst c;rw [if_pos rfl];refine .inr ⟨l,_,rfl,h0,n,?_⟩;unfold addL;rw [if_pos rfl];rcases h.at_ g with ⟨_,d⟩ | ⟨l2,xs2,a,_⟩
   ·rw [d];exact .one (hb.sameT T)
   ·rw [hv] at a;cases a
  ·have o:(Sum.inr g:Key)≠Sum.inr f:=fun z=>c (by injection z);rw [if_neg o];unfold addL;rw [if_neg c];rcases h.at_ g with a | ⟨l2,xs2,a,d,h3,h4⟩
   ·exact .inl a
   ·exact .inr ⟨l2,xs2,a,d,by rw [<- e',Jag (hn g l2 a)];exact h3,h4.mono fun _ _ z=>z.sameT T⟩
 inj:=fun m j l' a d=>by
  rw [Jha] at a d;by_cases k:(Sum.inr m:Key)=Sum.inr f
  ·by_cases i:(Sum.inr j:Key)=Sum.inr f
   ·have:=k.trans i.symm;injection this
   ·rw [if_pos k] at a;rw [if_neg i] at d;cases a;exact absurd rfl (hn j l d)
  ·by_cases i:(Sum.inr j:Key)=Sum.inr f
   ·rw [if_neg k] at a;rw [if_pos i] at d;cases d;exact absurd rfl (hn m l a)
   ·rw [if_neg k] at a;rw [if_neg i] at d;exact h.inj m j l' a d
theorem Jc3 {ls:List PD} {p:PD} (h:p.st≠p.en):addL (addL (JaE ls) p.st (p.en,(p.nm,true))) p.en (p.st,(p.nm,false))=JaE (ls++[p]):=by
 funext g
 rw [Jd0];unfold addL JdA;by_cases a:g=p.en
 ·subst a;have e:p.en≠p.st:=fun z=>h z.symm;simp [h,e]
 ·have c:p.en≠g:=fun z=>a z.symm;by_cases d:g=p.st
  ·subst d;simp [a]
  ·have b:p.st≠g:=fun z=>d z.symm;simp [a,d,c,b]
theorem JeZ (ls:List PD) (f:Str):(JaE ls f).length<=ls.length:=by
 unfold JaE;induction ls with
 | nil=>simp
 | cons p ls ih=>
  rw [List.flatMap_cons,length_append,length_cons];have : (JdA p f).length<=1:=by
   unfold JdA;split
   ·simp
   ·split <;> simp
  ac_nf
def PWy (H H':Hp) (wl:Addr) (a:Str × List Pr) (v:V):Prop:=∃ l xs,v=.ref l/\H l=none/\l≠wl/\H' l=some (.lst xs)/\All2 (CV H') a.2 xs
structure Srch (H:Hp) (ls:List PD) (one:Str) (fd wl:Addr) (H':Hp) (ws:List (Str × List Pr)) (wt:List Str):Prop where
 same:Same H H'
 dict:∃ kvs,H' fd=some (.dK kvs)/\BG (·.1) (PWy H H' wl) ws kvs
 nd:(ws.map (·.1)).Nodup
 here:one∈ws.map (·.1)
 walk:∀ a∈ws,Jbh ls one a.2 a.1
 wait:H' wl=some (.lst (wt.map V.str))
 sub:∀ f∈wt,f∈ws.map (·.1)
 lw:∀ a∈ws,a.2.length<=ws.length
 sim:∀ a∈ws,(a.2.map (·.1)).Nodup/\∀ p∈ls,p.nm∈a.2.map (·.1)->p.st∈ws.map (·.1)/\p.en∈ws.map (·.1)
section
variable {H H' H'':Hp} {ls:List PD} {one:Str} {fd wl:Addr} {ws:List (Str × List Pr)} {wt:List Str}
theorem Srch.len (h:Srch H ls one fd wl H' ws wt) (hl:ls.length<=20):ws.length<=41:=by
 have:=sub_len (ws.map (·.1)) (one::fcsOf ls) h.nd fun z c=>by
  obtain ⟨a,b,rfl⟩:=mem_map.mp c;exact Jhc (h.walk a b)
 rw [length_map,length_cons,Jke] at this;ac_nf
theorem Srch.grow (h:Srch H ls one fd wl H' ws wt) (S:Same H' H''):Srch H ls one fd wl H'' ws wt:=by
 obtain ⟨b,c,f⟩:=h.dict;exact ⟨h.same.trans S,⟨b,S _ _ c,f.mono fun a v ⟨l,g,e,d,i,j,k⟩=>⟨l,g,e,d,i,S _ _ j,k.mono fun _ _ z=>z.sameT S.t⟩⟩,h.nd,h.here,h.walk,S _ _ h.wait,h.sub,h.lw,h.sim⟩
theorem Srch.wait' {wt':List Str} (h:Srch H ls one fd wl H' ws wt) (hw:H wl=none) (e:upd H' wl (.lst (wt'.map V.str))=H'') (hs:∀ f∈wt',f∈ws.map (·.1)):Srch H ls one fd wl H'' ws wt':=by
 obtain ⟨g,i,k⟩:=h.dict;have T:SameT H' H'':=SameT.put e h.wait rfl;have d:fd≠wl:=fun z=>by have:=h.wait;rw [<- z,i] at this;cases this
 refine ⟨fun b u q=>by rw [<- e,Jag (Jah q hw)];exact h.same _ _ q,⟨g,by rw [<- e,Jag d];exact i,k.mono fun a v ⟨l,n,m,j,c,o,p⟩=>⟨l,n,m,j,c,by rw [<- e,Jag c];exact o,p.mono fun _ _ z=>z.sameT T⟩⟩,h.nd,h.here,h.walk,by rw [<- e,Jak],hs,h.lw,h.sim⟩
theorem Srch.find {g:Str} {w:List Pr} {l:Addr} {xs:List V} {kvs:List (Key × V)} (h:Srch H ls one fd wl H' ws wt) (hk:H' fd=some (.dK kvs)) (hb:BG (·.1) (PWy H H' wl) ws kvs) (hf:H fd=none) (hg:g∉ws.map (·.1)) (hwk:Jbh ls one w g) (hlw:w.length<=ws.length+1) (hsm:(w.map (·.1)).Nodup/\∀ p∈ls,p.nm∈w.map (·.1)->p.st∈(ws++[(g,w)]).map (·.1)/\p.en∈(ws++[(g,w)]).map (·.1)) (hl:H l=none) (hne:l≠wl) (hx:H' l=some (.lst xs)) (ha:All2 (CV H') w xs)
  (e:upd H' fd (.dK (putK kvs (Sum.inr g) (.ref l)))=H''):Srch H ls one fd wl H'' (ws++[(g,w)]) wt:=by
 have T:SameT H' H'':=SameT.put e hk rfl;have j:wl≠fd:=fun z=>by have:=h.wait;rw [z,hk] at this;cases this
 have c:∀ {b:Addr} {ys:List V},H' b=some (.lst ys)->H'' b=some (.lst ys):=fun q=>by rw [<- e,Jag (fun z=>by rw [z,hk] at q;cases q)];exact q
 refine ⟨fun b u q=>by rw [<- e,Jag (Jah q hf)];exact h.same _ _ q,⟨_,by rw [<- e,Jak],?_⟩,?_,?_,?_,c h.wait,?_,?_,?_⟩
 ·have:=hb.mono (P':=PWy H H'' wl) fun a v ⟨l,xs,m,i,hne,hx,ha⟩=>⟨l,xs,m,i,hne,c hx,ha.mono fun _ _ z=>z.sameT T⟩;exact this.new (a:=(g,w)) hg ⟨l,xs,rfl,hl,hne,c hx,ha.mono fun _ _ z=>z.sameT T⟩
 ·rw [map_append,nodup_append];refine ⟨h.nd,by simp,fun a ha b hb z=>hg ?_⟩;rw [map_cons,map_nil,mem_singleton] at hb;have hb:b=g:=hb;rw [<- hb, <- z];exact ha
 ·rw [map_append];exact mem_append.mpr (.inl h.here)
 ·intro a ha;rcases mem_append.mp ha with ha | ha
  ·exact h.walk a ha
  ·rw [mem_singleton.mp ha];exact hwk
 ·intro f d;rw [map_append];exact mem_append.mpr (.inl (h.sub f d))
 ·intro a ha;rw [length_append,length_singleton];rcases mem_append.mp ha with ha | ha
  ·have:=h.lw a ha;ac_nf
  ·rw [mem_singleton.mp ha];exact hlw
 ·intro a ha;rcases mem_append.mp ha with ha | ha
  ·refine ⟨(h.sim a ha).1,fun p k i=>?_⟩;have:=(h.sim a ha).2 p k i;rw [map_append];exact ⟨mem_append.mpr (.inl this.1),mem_append.mpr (.inl this.2)⟩
  ·rw [mem_singleton.mp ha];exact hsm
end
inductive PR
 | ok (ls:List PD)
 | noPart
 | twice
 | ring
open Classical in
noncomputable def partsW:List PD->List (PD ⊕ D)->PR
 | acc,[]=>.ok acc
 | _, .inr _::_=>.noPart
 | acc, .inl p::r=>if p.nm∈acc.map (·.nm) then .twice else if Conn acc p.st p.en then .ring else partsW (acc++[p]) r
inductive GR
 | ok (gs:List GD)
 | noGap
 | twice
 | apart
open Classical in
noncomputable def gapsW (ls:List PD):List GD->List (GD ⊕ D)->GR
 | acc,[]=>.ok acc
 | _, .inr _::_=>.noGap
 | acc, .inl g::r=>if g.nm∈acc.map (·.nm) then .twice else if Conn ls g.st g.en then gapsW ls (acc++[g]) r else .apart
theorem Jhu (acc:List PD) (c:D) (r:List (PD ⊕ D)):partsW acc (.inr c::r)=.noPart:=rfl
theorem Jhv {acc:List PD} {p:PD} {r:List (PD ⊕ D)} (h:p.nm∈acc.map (·.nm)):partsW acc (.inl p::r)=.twice:=by
 rw [partsW,if_pos h]
theorem Jgv {acc:List PD} {p:PD} {r:List (PD ⊕ D)} (h:p.nm∉acc.map (·.nm)) (hc:Conn acc p.st p.en):partsW acc (.inl p::r)=.ring:=by
 rw [partsW,if_neg h,if_pos hc]
theorem Jdd {acc:List PD} {p:PD} {r:List (PD ⊕ D)} (h:p.nm∉acc.map (·.nm)) (hc:¬ Conn acc p.st p.en):partsW acc (.inl p::r)=partsW (acc++[p]) r:=by
 rw [partsW,if_neg h,if_neg hc]
theorem JhX (ls:List PD) (acc:List GD) (c:D) (r:List (GD ⊕ D)):gapsW ls acc (.inr c::r)=.noGap:=rfl
theorem JhY {ls:List PD} {acc:List GD} {g:GD} {r:List (GD ⊕ D)} (h:g.nm∈acc.map (·.nm)):gapsW ls acc (.inl g::r)=.twice:=by
 rw [gapsW,if_pos h]
theorem Jgg {ls:List PD} {acc:List GD} {g:GD} {r:List (GD ⊕ D)} (h:g.nm∉acc.map (·.nm)) (hc:¬ Conn ls g.st g.en):gapsW ls acc (.inl g::r)=.apart:=by
 rw [gapsW,if_neg h,if_neg hc]
theorem JgT {ls:List PD} {acc:List GD} {g:GD} {r:List (GD ⊕ D)} (h:g.nm∉acc.map (·.nm)) (hc:Conn ls g.st g.en):gapsW ls acc (.inl g::r)=gapsW ls (acc++[g]) r:=by
 rw [gapsW,if_neg h,if_pos hc]
def WOV (H:Hp) (ls:List PD) (g:GD) (v:V):Prop:=∃ l xs w,v=.ref l/\H l=some (.lst xs)/\All2 (CV H) w xs/\Jbh ls g.st w g.en/\(w.map (·.1)).Nodup
theorem WOV.same {H H':Hp} {ls:List PD} {g:GD} {v:V} (S:Same H H'):WOV H ls g v->WOV H' ls g v:=by rintro ⟨l,e,w,a,d,b,c⟩;exact ⟨l,e,w,a,S _ _ d,b.mono fun _ _ z=>z.sameT S.t,c⟩
theorem JkI {X:Cx} {K:W.Frag} {pos:Pos} {es:List Expr} {k:Nat} {t:TGs} {n:Nat} (hK:X.K=K) (hc:X.calm=true) (h:PGs X es t) (hn:(assignEach es X.env).length=n:=by rfl) (hst:(assignEach es X.env).findIdx? (·.1)=none:=by rfl):PG X (.Tuple es k pos) (gTup K n t):=by
 subst hK;exact Jei hc h hn hst
abbrev Fr2:=Int × Int
section
variable {K:W.Frag} {k:Nat} {cs:List (Nat × Str)} {g:TG} {te:TE} {ta:TA} {σ : St} {H H1:Hp} {Q:VK} {a b:Addr} {xs zs:List V}
end
section
variable {X:Cx}
end
section
variable {K:W.Frag} {H:Hp} {Q:VK}
end
def fc (j:Nat):Str:=⟨#[102+j]⟩
theorem All2.map {α β : Type} {P : α->V->Prop} {P' : β->V->Prop} {f : α->β}:∀ {as:List α} {xs:List V},All2 P as xs->(∀ a∈as, ∀ x,P a x->P' (f a) x)->All2 P' (as.map f) xs
 | [],xs,h,_=>h
 | a::as,xs,h,m=>by
  obtain ⟨x,r,rfl,h1,h2⟩:=h;exact ⟨x,r,rfl,m a (by simp) x h1,All2.map h2 fun b hb=>m b (by simp [hb])⟩
theorem JhZ {ls:List PD}:∀ (gs acc:List GD),((acc++gs).map (·.nm)).Nodup->(∀ g∈gs,Conn ls g.st g.en)->gapsW ls acc (gs.map Sum.inl)=.ok (acc++gs)
 | [],acc,_,_=>by
  rw [map_nil,gapsW,append_nil]
 | g::gs,acc,hn,hc=>by
  have ea:acc++g::gs=(acc++[g])++gs:=by simp
  have ne:g.nm∉acc.map (·.nm):=by
   have h2:=hn;rw [map_append,map_cons,nodup_append] at h2;exact fun z=>h2.2.2 _ z _ (by simp) rfl
  rw [map_cons,JgT ne (hc g (by simp)),JhZ gs (acc++[g]) (by rw [<- ea];exact hn) (fun u hu=>hc u (by simp [hu])),ea]
section
variable {prog:Program} {w:World} {A:Around} {E:Value->Shared->Prop} {s:Shared}
end
section
variable {prog:Program} {w:World} {A:Around} {E:Value->Shared->Prop} {s:Shared}
end
section
variable {X:Cx}
end
section
variable {X:Cx} {elts:List Expr} {x1:Nat} {tp:Pos}
end
section
variable {K:W.Frag} {k:Nat} {cs:List (Nat × Str)} {g:TG} {te:TE} {ta:TA} {σ : St} {H H1:Hp} {Q:VK} {a:Addr} {xs:List V}
theorem CompJ.range {lo:Int} {n:Nat} (Pv:Nat->List V->Hp->Prop) (h0:Pv 0 [] H1) (hl:∀ i ys H',i<=n->Pv i ys H'->ys.length<=sizeLine)
  (hs:∀ i ys H2,i<n->Pv i ys H2->g (.int (lo+i)) (List.replicate k none++JaB cs σ) H2 fun σ4 H4=>te σ4 H4 fun y H5=>Pv (i+1) (ys++[y]) H5) (hd:∀ ys H2,Pv n ys H2->∀ p,H2 p=none->Q (.ref p) (upd H2 p (.lst ys))) :
  CompJ (Itr lo n) k cs g te σ Q H1:=by
 refine ⟨fun i m ys H'=>Pv i ys H'/\i<=n/\m=n-i,⟨_,h0,Nat.zero_le _,rfl⟩,?_⟩;rintro i m ys H2 ⟨a,b,rfl⟩;refine ⟨hl i ys H2 b a,?_⟩;by_cases c:i<n
 ·refine .inr ⟨c,?_⟩;rintro v f ⟨rfl,rfl⟩;have e:(fun (σ4:St) (H4:Hp)=>te σ4 H4 fun y H5=>Pv (i+1) (ys++[y]) H5)=fun σ4 H4=>te σ4 H4 fun y H5=>∃ m',m'<n-i/\Pv (i+1) (ys++[y]) H5/\i+1<=n/\m'=n-(i+1):=by
   funext σ4 H4
   congr 1
   funext y H5
   exact propext ⟨fun q=>⟨_,Nat.sub_lt_sub_left c (Nat.lt_succ_self i),q,c,rfl⟩,fun ⟨_,_,q,_⟩=>q⟩
  rw [<- e];exact hs i ys _ c a
 ·have d:i=n:=by ac_nf
  subst d;exact .inl ⟨Nat.le_refl _,hd ys H2 a⟩
end
def Itq (lo c:Int) (n:Nat):It:=⟨fun i _=>i<n,fun i H x H'=>H'=H/\x=.int (lo+i*c),fun i _=>n<=i⟩
theorem JgH {P:Program} {w:World} {K:W.Frag} {tg:Expr} (it:Addr) (lo c:Int) (n:Nat):Turn P w K tg (Itq lo c n) [it] it (fun i h=>IsRangeIter h it (lo+(i:Nat)*c) ((n:Int)-(i:Nat)) c) where
 mem:=by simp
 obj:=fun i h a b f=>by
  have e:b=it:=by simpa using f
  subst e;exact ⟨_,a,fun v z=>by
   have J:Data.fields _=Data.cell v:=z;cases J⟩
 keep:=fun i h l a k=>k it (by simp) _ a
 item:=by
  intro X x A p m i d s σ H E I j a y;subst x A p;obtain ⟨q,r,M,B,C,u⟩:=j it (by simp);have W:=Walks.range (prog:=X.prog) (w:=X.w) (I.ok.hd m) it lo c n;refine W.item i s _ _ y a fun v l D F g G=>?_;obtain ⟨t,rfl⟩:=F;have I1:Inv X d σ H { s with heap:=l,toks:=D }:=I.turned (fun b o f e=>G b o (by simpa using f) e) q r B C u;exact ⟨_,rfl,go_of (s:={ s with heap:=l,toks:=D }) (n:="range_iterator") g rfl rfl ⋯ ⟨.int (lo+i*c),H,I1,⟨t,rfl⟩,⟨rfl,rfl⟩,g,fun b f=>(j b f).1⟩⟩
 done:=by
  intro X x A p m i d s σ H E I j a y;subst x A p;obtain ⟨q,r,M,B,C,u⟩:=j it (by simp);exact wpAny_pyNext_range_end (I.ok.hd m) a (by have : n<=i:=y;ac_nf) fun l L=>⟨rfl,I.turned (t':=s.toks) (fun b o f e=>L b o f e) q r B C u⟩
 self:=fun _ _ _ _ _ a h=>wpAny_pyIter_rangeiter a h
def rsz (lo hi c:Int):Nat:=(if lo<hi then (hi-lo-1)/c+1 else 0).toNat
theorem JeR {lo hi c:Int} (hc:1<=c):((rsz lo hi c:Nat):Int)=Builtin.Range.rangeSize lo hi c:=by
 unfold rsz Builtin.Range.rangeSize;rw [if_pos (show c > 0 by ac_nf)];split
 ·have:=Int.ediv_nonneg (a:=hi-lo-1) (b:=c) ∅ ∅;ac_nf
 ·rfl
theorem JgA {lo hi c:Int} (h1:0<=lo) (h2:lo<2 ^ 40) (h3:0<=hi) (h4:hi<2 ^ 40) (h5:1<=c) (h6:c<2 ^ 30):Builtin.Range.small lo hi c=true:=by
 unfold Builtin.Range.small;have e:0<=Builtin.Range.rangeSize lo hi c/\Builtin.Range.rangeSize lo hi c<2 ^ 41:=by
  rw [<- JeR h5];refine ⟨by ac_nf,?_⟩;unfold rsz;split
  ·have d:=Int.ediv_nonneg (a:=hi-lo-1) (b:=c) ∅ ∅;have f:=Int.ediv_le_self c (show 0<=hi-lo-1 by ac_nf);ac_nf
  ·simp
 generalize Builtin.Range.rangeSize lo hi c=z at e ⊢;simp only [Builtin.Range.rangeFitsLong,Bool.and_eq_true,Bool.or_eq_true,decide_eq_true_eq,beq_iff_eq];rw [if_pos ∅];simp only [Bool.and_eq_true,decide_eq_true_eq];ac_nf
section
variable {X:Cx} {tg:Expr}
theorem JlG {pins:List (Addr × Obj)} {σ : St} {H:Hp} {s:Shared} {R:It->Hp->Prop} {h:Heap} {lo c:Int} {n:Nat} {t':Nat} (I:Inv X pins σ H { s with heap:=h,toks:=t' }) (q:R (Itq lo c n) H) :
  PIE X pins σ tg R (.ref h.objs.size) { s with heap:=h.push { cls:=.type "range_iterator",data:=.fields #[rawInt lo,rawInt (n:Int),rawInt c] },toks:=t' }:=by
 refine ⟨h.objs.size,[h.objs.size],_,_,H,rfl,I.kept (t':=t') fun b o e=>Heap.get?_push_of_some _ e,JgH _ lo c n,?_,fun b a=>?_,q⟩
 ·have d:lo+((0:Nat):Int)*c=lo:=by simp
  have f:(n:Int)-((0:Nat):Int)=n:=by simp
  show IsRangeIter _ _ (lo+((0:Nat):Int)*c) ((n:Int)-((0:Nat):Int)) c;rw [d,f];exact Heap.get?_push_size _ rfl
 ·have e:b=h.objs.size:=by simpa using a
  subst e;exact I.fpOk (Nat.le_refl _) (I.hok.fresh (Nat.le_refl _))
def iRng3 (ta:TA):TI:=fun σ H R=>ta σ H fun vs H1=>∃ i j c:Int,vs=[.int i, .int j, .int c]/\(0<=i/\i<2 ^ 40/\0<=j/\j<2 ^ 40/\1<=c/\c<2 ^ 30)/\R (Itq i c (rsz i j c)) H1
theorem Jir {a b d:Expr} {ta:TA} {p pos:Pos} (hg:Gl X "range") (hm:X.mg "range"=none) (ha:PA X [a,b,d] ta)
  (hs:starEach [a,b,d] X.env=[(false,eval a X.env),(false,eval b X.env),(false,eval d X.env)]:=by rfl) (hs2:starEach [b,d] X.env=[(false,eval b X.env),(false,eval d X.env)]:=by rfl):PI X tg (.Call (.Name "range" p) [a,b,d] [] pos) (iRng3 ta):=by
 intro f s σ H R I h;refine wpAny_Call_Name_kw (JeL I hg hm JiZ ?_);refine PyProof.Rows.callWith_type1 (thn (ha pos f s σ H _ I h) fun z n ζ=>?_) (by rw [hs,hs2]) (by rw [hs2];rfl);obtain ⟨A,y,I1,v,g⟩:=ζ;obtain ⟨i,j,c,e,⟨g,u,l,x,k,m⟩,q⟩:=g;subst e;cases v with
 | cons r rr=>
  cases rr with
  | cons r' rr=>
   cases rr with
   | cons r'' rr=>
    cases rr;obtain ⟨t,rfl⟩:=r;obtain ⟨t',rfl⟩:=r';obtain ⟨w,rfl⟩:=r'';refine call_range_3 ∅ ?_ (Or.inl (PyProof.noPylong_small ∅));refine wpAny_pyIter_range (IsRange.new ..) (JgA g u l x k m) ?_;rw [<- JeR k];exact JlG (I1.kept (t':=n.toks) fun b o e=>Heap.get?_push_of_some _ e) q
end
section
variable {ta:TA} {g:TG} {tb:TS} {D:Ends} {σ : St} {H:Hp}
def ForQ (lo c:Int) (n:Nat) (g:TG) (tb:TS) (D:Ends) (σ : St) (H:Hp):Prop:=∃ W:Nat->Nat->St->Hp->Prop,(∃ m,W 0 m σ H)/\∀ i m σ H,W i m σ H ->
 ((Itq lo c n).stop i H/\D.nx σ H)\/((Itq lo c n).go i H/\∃ N:St->Hp->Prop,(∀ σ' H',N σ' H'->∃ m',m'<m/\W (i+1) m' σ' H')/\∀ x H',(Itq lo c n).yld i H x H'->g x σ H' fun σ2 H2=>tb { D with nx:=N,ct:=N,bk:=D.nx } σ2 H2)
theorem y52y:tFor (iRng3 ta) g tb D σ H=ta σ H fun vs H1=>∃ i j c:Int,vs=[.int i, .int j, .int c]/\(0<=i/\i<2 ^ 40/\0<=j/\j<2 ^ 40/\1<=c/\c<2 ^ 30)/\ForQ i c (rsz i j c) g tb D σ H1:=rfl
theorem ForQ.by {lo c:Int} {n:Nat} (Pv:Nat->St->Hp->Prop) (h0:Pv 0 σ H)
  (hs:∀ i σ H,i<n->Pv i σ H->g (.int (lo+i*c)) σ H fun σ2 H2=>tb { D with nx:=Pv (i+1),ct:=Pv (i+1),bk:=D.nx } σ2 H2) (hd:∀ σ H,Pv n σ H->D.nx σ H):ForQ lo c n g tb D σ H:=by
 refine ⟨fun i m σ H=>m=n-i/\i<=n/\Pv i σ H,⟨n,by simp,Nat.zero_le _,h0⟩,?_⟩;rintro i m σ H ⟨rfl,f,p⟩;by_cases a:i<n
 ·refine .inr ⟨a,Pv (i+1),fun σ' b d=>⟨n-(i+1),by ac_nf,rfl,a,d⟩,fun x b y=>?_⟩;obtain ⟨e,y⟩:=y;subst e y;exact hs i σ _ a p
 ·have e:i=n:=by ac_nf
  subst e;exact .inl ⟨Nat.le_refl _,hd σ H p⟩
end
theorem y5cy {c:TT} {ta tb:TE} {σ : St} {H:Hp} {Q:VK}:tIf c ta tb σ H Q=c σ H fun b H1=>if b=true then ta σ H1 Q else tb σ H1 Q:=rfl
def rLenD (xs:List V) (H:Hp) (Q:VK):Prop:=∃ d kvs,xs=[.ref d]/\H d=some (.dK kvs)/\Q (.int (kvs.length:Int)) H
theorem Jb8 {X:Cx}:CallR X (.builtin "len") rLenD:=by
 intro c s σ H l m Q I r h;obtain ⟨d,a,rfl,e,q⟩:=h;obtain ⟨u,rfl,g⟩:=vals1 r;cases g;obtain ⟨o,k,j,b,i⟩:=dk_of I.hok e;have n:=JeM;have f:j.length=a.length:=b.length.symm;exact call_len_dict k i ∅ ⟨.int (a.length:Int),H,I.tok _,⟨s.toks+1,by rw [f]⟩,q⟩
def vl (a:Int × Int):Rat:=(a.1:Rat)/(a.2:Rat)
theorem JaH {a:Int} (h:1<=a):(a:Rat)≠0:=fun z=>by
 have : a=0:=by exact_mod_cast z
 ac_nf
theorem vl_eq {a c:Int × Int} (ha:1<=a.2) (hc:1<=c.2):vl a=vl c↔a.1*c.2=c.1*a.2:=by
 unfold vl;have b:=JaH ha;have d:=JaH hc;have e:((a.1*c.2=c.1*a.2)↔((a.1:Rat)*(c.2:Rat)=(c.1:Rat)*(a.2:Rat))):=by
  constructor
  ·intro h;exact_mod_cast h
  ·intro h;exact_mod_cast h
 rw [e];generalize (a.1:Rat)=x at *;generalize (a.2:Rat)=y at *;generalize (c.1:Rat)=z at *;generalize (c.2:Rat)=u at *;constructor
 ·intro h;grind
 ·intro h;grind
theorem JjW {a c:Int × Int} (ha:1<=a.2) (hc:1<=c.2) (h1:Mth.g a.1 a.2=1) (h2:Mth.g c.1 c.2=1) (h:vl a=vl c):a=c:=by
 have:=Mth.Jdq ha hc h1 h2 ((vl_eq ha hc).mp h);exact Prod.ext this.1 this.2
theorem JiU {a c:Int × Int} (ha:1<=a.2) (hc:1<=c.2):vl (addF a c)=vl a+vl c:=by
 have d:a.2*c.2≠0:=Int.mul_ne_zero ∅ ∅;have g:=Mth.cross (t:=a.1*c.2+c.1*a.2) d;have f:=Mth.JcQ (t:=a.1*c.2+c.1*a.2) d;unfold vl addF;dsimp only;generalize Mth.top (a.1*c.2+c.1*a.2) (a.2*c.2)=t at *;generalize Mth.bot (a.1*c.2+c.1*a.2) (a.2*c.2)=b at *;have h:=JaH ha;have j:=JaH hc;have i:=JaH f;have e:(t:Rat)*((a.2:Rat)*(c.2:Rat))=((a.1:Rat)*(c.2:Rat)+(c.1:Rat)*(a.2:Rat))*(b:Rat):=by exact_mod_cast g
 generalize (a.1:Rat)=x at *;generalize (a.2:Rat)=y at *;generalize (c.1:Rat)=z at *;generalize (c.2:Rat)=u at *;generalize (t:Rat)=t at *;generalize (b:Rat)=b at *;grind
theorem JdE (a:Int × Int):vl (negF a) = - vl a:=by
 unfold vl negF;rw [Rat.intCast_neg];grind
theorem Jeu {a c:Int × Int} (ha:1<=a.2) (hc:1<=c.2):lessF a c=true↔vl a<vl c:=by
 unfold lessF vl;rw [decide_eq_true_iff];have b:(0:Rat)<(a.2:Rat):=by exact_mod_cast (show 0<a.2 by ac_nf)
 have d:(0:Rat)<(c.2:Rat):=by exact_mod_cast (show 0<c.2 by ac_nf)
 have e:((a.1*c.2<c.1*a.2)↔((a.1:Rat)*(c.2:Rat)<(c.1:Rat)*(a.2:Rat))):=by
  constructor
  ·intro h;exact_mod_cast h
  ·intro h;exact_mod_cast h
 rw [e];rw [Rat.div_lt_iff b];generalize (a.1:Rat)=x at *;generalize (a.2:Rat)=y at *;generalize (c.1:Rat)=z at *;generalize (c.2:Rat)=u at *;have f:z/u*y=z*y/u:=by grind
 rw [f,Rat.lt_div_iff d]
theorem Jbh.trans {ls:List PD} {a b c:Str} {w w':List Pr} (h:Jbh ls a w b) (h':Jbh ls b w' c):Jbh ls a (w++w') c:=by
 induction h' with
 | nil=>
  rw [append_nil];exact h
 | snoc _ hm ih=>
  rw [<- List.append_assoc];exact .snoc ih hm
theorem Conn.trans {ls:List PD} {a b c:Str}:Conn ls a b->Conn ls b c->Conn ls a c:=fun ⟨w,h⟩ ⟨e,d⟩=>⟨w++e,h.trans d⟩
theorem Conn.refl {ls:List PD} {a:Str}:Conn ls a a:=⟨[], .nil⟩
theorem Conn.lead {ls:List PD} {f g:Str} {pr:Pr} (h:(g,pr)∈JaE ls f):Conn ls f g:=⟨[]++[pr], .snoc .nil h⟩
theorem Conn.symm {ls:List PD} (hn:∀ p∈ls,p.st≠p.en) {a b:Str} (h:Conn ls a b):Conn ls b a:=by
 obtain ⟨w,h⟩:=h;induction h with
 | nil=>exact .refl
 | snoc _ hm ih=>
  obtain ⟨p,c,h | h⟩:=Jbi.mp hm
  ·exact Conn.trans (.lead (Jbi.mpr ⟨p,c, .inr ⟨fun z=>hn p c (z.trans h.2.1.symm),h.2.1,h.1,rfl⟩⟩)) ih
  ·exact Conn.trans (.lead (Jbi.mpr ⟨p,c, .inl ⟨h.2.2.1,h.2.1,rfl⟩⟩)) ih
theorem Conn.mono {ls:List PD} {p:PD} {a b:Str} (h:Conn ls a b):Conn (ls++[p]) a b:=by
 obtain ⟨w,h⟩:=h;refine ⟨w,?_⟩;induction h with
 | nil=>exact .nil
 | snoc _ hm ih=>exact .snoc ih (by rw [Jd0];exact mem_append.mpr (.inl hm))
theorem JhL {ls:List PD} {p:PD} (hp:p∈ls):Conn ls p.st p.en:=.lead (pr:=(p.nm,true)) (Jbi.mpr ⟨p,hp, .inl ⟨rfl,rfl,rfl⟩⟩)
theorem Ji1 {ls:List PD} (hn:∀ p∈ls,p.st≠p.en) {a b:Str} (h:Conn ls a b) (hne:a≠b):a∈fcsOf ls/\b∈fcsOf ls:=by
 have c:∀ {a b:Str},Conn ls a b->a≠b->b∈fcsOf ls:=fun {a b} h hne=>by
  obtain ⟨w,h⟩:=h;rcases mem_cons.mp (Jhc h) with e | e
  ·exact absurd e.symm hne
  ·exact e
 exact ⟨c (h.symm hn) (Ne.symm hne),c h hne⟩
theorem Jee {p:PD}:∀ (l1 acc:List PD),partsW acc (l1.map Sum.inl)=.ok (acc++l1)->p.nm∉(acc++l1).map (·.nm)->¬ Conn (acc++l1) p.st p.en->partsW acc ((l1++[p]).map Sum.inl)=.ok (acc++(l1++[p]))
 | [],acc,_,h2,h3=>by
  rw [append_nil] at h2 h3;rw [nil_append,map_cons,map_nil,Jdd h2 h3,partsW]
 | q::l1,acc,h1,h2,h3=>by
  have ea:acc++q::l1=(acc++[q])++l1:=by simp
  rw [ea] at h1 h2 h3;rw [cons_append,map_cons];rw [map_cons,partsW] at h1;split at h1
  ·cases h1
  ·rename_i c1;split at h1
   ·cases h1
   ·rename_i c2;rw [Jdd c1 c2,Jee l1 (acc++[q]) h1 h2 h3];simp
theorem Conn.sub {L L':List PD} (hs:∀ p∈L,p∈L') {a b:Str} (h:Conn L a b):Conn L' a b:=by
 obtain ⟨w,h⟩:=h;refine ⟨w,?_⟩;induction h with
 | nil=>exact .nil
 | snoc _ hm ih=>
  obtain ⟨p,c,h⟩:=Jbi.mp hm;exact .snoc ih (Jbi.mpr ⟨p,hs p c,h⟩)
def Tree (ls:List PD):Prop:=∀ p∈ls, ¬ Conn (ls.filter fun x=>decide (x.nm≠p.nm)) p.st p.en
theorem Jh6 {L:List PD} {x:Str} {e:Str × Pr} (h:e∈JaE L x):x∈fcsOf L/\e.1∈fcsOf L:=by
 refine ⟨?_,JgW h⟩;obtain ⟨p,a,h⟩:=(Jbi (g:=e.1) (pr:=e.2)).mp h;refine mem_flatMap.mpr ⟨p,a,?_⟩;rcases h with h | h
 ·rw [<- h.1];simp
 ·rw [<- h.2.1];simp
theorem Conn.retract {L:List PD} {q:PD} {f s0:Str} (hq:(q.st=f/\q.en=s0)\/(q.st=s0/\q.en=f)) (hf:f∉fcsOf L) {a b:Str} (h:Conn (L++[q]) a b):Conn L (if a=f then s0 else a) (if b=f then s0 else b):=by
 obtain ⟨w,h⟩:=h;induction h with
 | nil=>exact .refl
 | snoc _ hm ih=>
  refine ih.trans ?_;rw [Jd0] at hm;rcases mem_append.mp hm with h | h
  ·have e:=Jh6 h;have i:∀ x∈fcsOf L,x≠f:=fun x c z=>hf (z ▸ c);rw [if_neg (i _ e.1),if_neg (i _ e.2)];exact .lead h
  ·have d:∀ x,JaE [q] x=JdA q x:=fun x=>by simp [JaE]
   have j:=h;rw [<- d] at j;obtain ⟨p,g,k⟩:=Jbi.mp j;rw [mem_singleton] at g;subst g;have e:∀ x:Str,x=p.st\/x=p.en->(if x=f then s0 else x)=s0:=fun x c=>by
    split
    ·rfl
    ·rename_i n;rcases hq with ⟨h1,h2⟩ | ⟨h1,h2⟩ <;> rcases c with c | c
     ·exact absurd (c.trans h1) n
     ·exact c.trans h2
     ·exact c.trans h1
     ·exact absurd (c.trans h2) n
   rcases k with k | k
   ·rw [e _ (.inl k.1.symm),e _ (.inr k.2.1.symm)];exact .refl
   ·rw [e _ (.inr k.2.1.symm),e _ (.inl k.2.2.1.symm)];exact .refl
theorem Jef {ls:List PD} (ht:Tree ls):∀ (l acc:List PD),((acc++l).map (·.nm)).Nodup->(∀ x∈acc++l,x∈ls)->partsW acc (l.map Sum.inl)=.ok (acc++l)
 | [],acc,_,_=>by rw [map_nil,partsW,append_nil]
 | p::l,acc,hn,hs=>by
  have ea:acc++p::l=(acc++[p])++l:=by simp
  have ne:p.nm∉acc.map (·.nm):=by
   have h2:=hn;rw [map_append,map_cons,nodup_append] at h2;exact fun z=>h2.2.2 _ z _ (by simp) rfl
  have nc:¬ Conn acc p.st p.en:=fun z=>ht p (hs p (by simp)) (z.sub fun x hx=>mem_filter.mpr ⟨hs x (by simp [hx]),by
   rw [decide_eq_true_iff];exact fun e=>ne (by rw [<- e];exact mem_map.mpr ⟨x,hx,rfl⟩)⟩)
  rw [map_cons,Jdd ne nc,Jef ht l (acc++[p]) (by rw [<- ea];exact hn) (by rw [<- ea];exact hs),ea]
def sgn (b:Bool) (a:Int × Int):Int × Int:=if b then a else negF a
inductive Legs (ls:List PD) (pl:Str->Int × Int):Str->List Pr->Str->Prop
 | nil {a:Str}:Legs ls pl a [] a
 | cons {a g b:Str} {p:PD} {fw:Bool} {w:List Pr}:p∈ls->vl (pl g)=vl (pl a)+vl (sgn fw p.sz)->Legs ls pl g w b->Legs ls pl a ((p.nm,fw)::w) b
theorem Legs.snoc {ls:List PD} {pl:Str->Int × Int} {a f g:Str} {w:List Pr} {p:PD} {fw:Bool} (h:Legs ls pl a w f) (hp:p∈ls) (e:vl (pl g)=vl (pl f)+vl (sgn fw p.sz)):Legs ls pl a (w++[(p.nm,fw)]) g:=by
 induction h with
 | nil=>exact .cons hp e .nil
 | cons h1 h2 _ ih=>exact .cons h1 h2 (ih e)
theorem Jkp {ls:List PD} {pl:Str->Int × Int} (hpl:∀ p∈ls,vl (pl p.en)=vl (pl p.st)+vl p.sz) {a b:Str} {w:List Pr} (h:Jbh ls a w b):Legs ls pl a w b:=by
 induction h with
 | nil=>exact .nil
 | snoc _ hm ih=>
  obtain ⟨p,c,h | h⟩:=Jbi.mp hm
  ·obtain ⟨d,e,rfl⟩:=h;refine ih.snoc c ?_;rw [<- d, <- e];exact hpl p c
  ·obtain ⟨_,d,e,rfl⟩:=h;refine ih.snoc c ?_;have:=hpl p c;rw [<- d, <- e,this];show _=_+vl (negF p.sz);rw [JdE];grind
def nmK (s st k:Nat):Str:=⟨(List.replicate st s++([97+k]++List.replicate (3-st) s)).toArray⟩
theorem JcR {s st i j:Nat} (h:nmK s st i=nmK s st j):i=j:=by
 unfold nmK at h;injection h with h
 have h:=congrArg Array.toList h;simp at h;exact h
theorem JdO {s st k:Nat} (hs:97<=s/\s<=122) (hst:st<=3) (hk:k<=25):nameS (nmK s st k)=true:=by
 unfold nameS nmK;simp [Str.length,lowB];exact ⟨by ac_nf, .inr hs,by ac_nf, .inr hs⟩
theorem FB.mono {A B C D:Nat} {a:Int × Int} (h:FB A B a) (h1:A<=C) (h2:B<=D):FB C D a:=⟨h.s1.mono h1,h.s2.mono h2,h.b1,h.g1⟩
theorem Jfu:FB 1 1 (0,1):=⟨.lit ⋯ ⋯, .lit ⋯ ⋯,by decide,by decide⟩
structure SpD where
 f:Str
 r:Str
 p:Int × Int
structure Grn (st:Nat) (ls:List PD) (sp:List SpD):Prop where
 nm:∀ i p,ls[i]?=some p->p.nm=nmK 112 st i
 fc:∀ i s,sp[i]?=some s->s.f=nmK 102 st i
 ok:∀ p∈ls,POk p
 sub:∀ p∈ls,p.st∈sp.map (·.f)/\p.en∈sp.map (·.f)
 con:∀ s∈sp,Conn ls s.r s.f
 pl:∀ p∈ls, ∀ s∈sp, ∀ t∈sp,s.f=p.st->t.f=p.en->vl t.p=vl s.p+vl p.sz
 fb:∀ s∈sp,FB (134+21*ls.length) (20*ls.length+1) s.p
 good:partsW [] (ls.map Sum.inl)=.ok ls
 tr:Tree ls
theorem Grn.new {st:Nat} {ls:List PD} {sp:List SpD} (h:Grn st ls sp) {n:Nat} (hn:sp.length<=n):nmK 102 st n∉sp.map (·.f):=fun z=>by
 obtain ⟨s,c,e⟩:=mem_map.mp z;obtain ⟨i,b⟩:=List.getElem?_of_mem c;have d:=(List.getElem?_eq_some_iff.mp b).1;have a:s.f=nmK 102 st n:=e;rw [h.fc i s b] at a;have:=JcR a;ac_nf
theorem Grn.nil {st:Nat}:Grn st [] []:=⟨by simp,by simp,by simp,by simp,by simp,by simp,by simp,by rw [map_nil,partsW],fun p a=>by cases a⟩
theorem Grn.inj {st:Nat} {ls:List PD} {sp:List SpD} (h:Grn st ls sp) {s t:SpD} (hs:s∈sp) (ht:t∈sp) (e:s.f=t.f):s=t:=by
 obtain ⟨i,b⟩:=List.getElem?_of_mem hs;obtain ⟨j,a⟩:=List.getElem?_of_mem ht;rw [h.fc i s b,h.fc j t a] at e;have:=JcR e;subst this;rw [b] at a;exact Option.some.inj a
theorem Jbo {α : Type} {l:List α} {a x : α} {i:Nat} (h:(l++[a])[i]?=some x):l[i]?=some x\/(i=l.length/\x=a):=by
 by_cases c:i<l.length
 ·rw [List.getElem?_append_left c] at h;exact .inl h
 ·have b:=(List.getElem?_eq_some_iff.mp h).1;rw [length_append,length_singleton] at b;have e:i=l.length:=by ac_nf
  subst e;rw [List.getElem?_append_right (Nat.le_refl _),Nat.sub_self] at h;cases h;exact .inr ⟨rfl,rfl⟩
theorem Grn.face {st:Nat} {ls:List PD} {sp:List SpD} (h:Grn st ls sp):Grn st ls (sp++[⟨nmK 102 st sp.length,nmK 102 st sp.length,(0,1)⟩]) where
 nm:=h.nm
 fc:=fun i s f=>by
  rcases Jbo f with f | ⟨rfl,rfl⟩
  ·exact h.fc i s f
  ·rfl
 ok:=h.ok
 sub:=fun p b=>by
  rw [map_append];exact ⟨mem_append.mpr (.inl (h.sub p b).1),mem_append.mpr (.inl (h.sub p b).2)⟩
 con:=fun s a=>by
  rcases mem_append.mp a with a | a
  ·exact h.con s a
  ·rw [mem_singleton.mp a];exact .refl
 pl:=fun p b s a t c d e=>by
  have g:=h.new (Nat.le_refl sp.length);rcases mem_append.mp a with a | a
  ·rcases mem_append.mp c with c | c
   ·exact h.pl p b s a t c d e
   ·rw [mem_singleton.mp c] at e;dsimp only at e;exact absurd (e ▸ (h.sub p b).2) g
  ·rw [mem_singleton.mp a] at d;dsimp only at d;exact absurd (d ▸ (h.sub p b).1) g
 fb:=fun s a=>by
  rcases mem_append.mp a with a | a
  ·exact h.fb s a
  ·rw [mem_singleton.mp a];exact Jfu.mono ∅ ∅
 good:=h.good
 tr:=h.tr
theorem Grn.part {st:Nat} {ls:List PD} {sp:List SpD} (h:Grn st ls sp) (hst:st<=3) {s0:SpD} (h0:s0∈sp) {p:PD} {d:Bool} (hnm:p.nm=nmK 112 st ls.length)
  (h1:p.st=if d then s0.f else nmK 102 st sp.length) (h2:p.en=if d then nmK 102 st sp.length else s0.f) (hz:FB 133 20 p.sz) (hok:POk p):Grn st (ls++[p]) (sp++[⟨nmK 102 st sp.length,s0.r,addF s0.p (sgn d p.sz)⟩]):=by
 have u:=h.new (Nat.le_refl sp.length);have G:s0.f∈sp.map (·.f):=mem_map.mpr ⟨s0,h0,rfl⟩;have A:nmK 102 st sp.length≠s0.f:=fun z=>u (z ▸ G);have J:∀ q∈ls,q.st≠q.en:=fun q a=>(h.ok q a).ne;have H:nmK 102 st sp.length∉fcsOf ls:=fun z=>by
  obtain ⟨q,a,B⟩:=mem_flatMap.mp z;simp at B;rcases B with e | e
  ·exact u (e ▸ (h.sub q a).1)
  ·exact u (e ▸ (h.sub q a).2)
 have K:¬ Conn ls p.st p.en:=fun z=>by
  have:=Ji1 J z hok.ne;cases d with
  | true=>
   rw [if_pos rfl] at h1 h2;exact H (h2 ▸ this.2)
  | false=>
   rw [if_neg ⋯] at h1 h2;exact H (h1 ▸ this.1)
 have P:p.nm∉ls.map (·.nm):=fun z=>by
  obtain ⟨q,a,e⟩:=mem_map.mp z;obtain ⟨i,o⟩:=List.getElem?_of_mem a;have T:=(List.getElem?_eq_some_iff.mp o).1;have k:q.nm=p.nm:=e;rw [h.nm i q o,hnm] at k;have:=JcR k;ac_nf
 have v:=h.fb s0 h0;have w:FB 133 20 (sgn d p.sz):=by
  cases d with
  | true=>exact hz
  | false=>exact hz.neg
 have D:FB (134+21*(ls.length+1)) (20*(ls.length+1)+1) (addF s0.p (sgn d p.sz)):=by
  have:=FB.add (n:=154+21*ls.length) (m:=20*(ls.length+1)+1) v w ∅ ∅ ∅;have e:134+21*(ls.length+1)=154+21*ls.length+1:=by ac_nf
  rw [e];exact this
 have M:vl (addF s0.p (sgn d p.sz))=vl s0.p+vl (sgn d p.sz):=JiU v.b1 w.b1;refine ⟨fun i q o=>?_,fun i s o=>?_,fun q a=>?_,fun q a=>?_,fun s b=>?_,fun q a s b t j l k=>?_,fun s b=>?_,?_,fun q a z=>?_⟩
 ·rcases Jbo o with o | ⟨rfl,rfl⟩
  ·exact h.nm i q o
  ·exact hnm
 ·rcases Jbo o with o | ⟨rfl,rfl⟩
  ·exact h.fc i s o
  ·rfl
 ·rcases mem_append.mp a with a | a
  ·exact h.ok q a
  ·rw [mem_singleton.mp a];exact hok
 ·rw [map_append];rcases mem_append.mp a with a | a
  ·exact ⟨mem_append.mpr (.inl (h.sub q a).1),mem_append.mpr (.inl (h.sub q a).2)⟩
  ·rw [mem_singleton.mp a,h1,h2];have I:nmK 102 st sp.length∈[(⟨nmK 102 st sp.length,s0.r,addF s0.p (sgn d p.sz)⟩:SpD)].map (·.f):=by simp
   cases d with
   | true=>exact ⟨mem_append.mpr (.inl G),mem_append.mpr (.inr I)⟩
   | false=>exact ⟨mem_append.mpr (.inr I),mem_append.mpr (.inl G)⟩
 ·rcases mem_append.mp b with b | b
  ·exact (h.con s b).mono
  ·rw [mem_singleton.mp b];have N:p∈ls++[p]:=by simp
   have E:∀ q∈ls++[p],q.st≠q.en:=fun q a=>by
    rcases mem_append.mp a with a | a
    ·exact J q a
    ·rw [mem_singleton.mp a];exact hok.ne
   have c:=JhL N;cases d with
   | true=>
    rw [if_pos rfl] at h1 h2;rw [h1,h2] at c;exact ((h.con s0 h0).mono).trans c
   | false=>
    rw [if_neg ⋯] at h1 h2;rw [h1,h2] at c;exact ((h.con s0 h0).mono).trans (c.symm E)
 ·rcases mem_append.mp a with a | a
  ·rcases mem_append.mp b with b | b
   ·rcases mem_append.mp j with j | j
    ·exact h.pl q a s b t j l k
    ·rw [mem_singleton.mp j] at k;dsimp only at k;exact absurd (k ▸ (h.sub q a).2) u
   ·rw [mem_singleton.mp b] at l;dsimp only at l;exact absurd (l ▸ (h.sub q a).1) u
  ·have a:=mem_singleton.mp a;subst a;cases d with
   | true=>
    rw [if_pos rfl] at h1 h2;rw [h1] at l;rw [h2] at k;have F:s=s0:=by
     rcases mem_append.mp b with b | b
     ·exact h.inj b h0 l
     ·rw [mem_singleton.mp b] at l;dsimp only at l;exact absurd l A
    have C:t.p=addF s0.p (sgn true q.sz):=by
     rcases mem_append.mp j with j | j
     ·exact absurd (k ▸ mem_map.mpr ⟨t,j,rfl⟩) u
     ·rw [mem_singleton.mp j]
    rw [F,C,M];rfl
   | false=>
    rw [if_neg ⋯] at h1 h2;rw [h1] at l;rw [h2] at k;have C:t=s0:=by
     rcases mem_append.mp j with j | j
     ·exact h.inj j h0 k
     ·rw [mem_singleton.mp j] at k;dsimp only at k;exact absurd k A
    have F:s.p=addF s0.p (sgn false q.sz):=by
     rcases mem_append.mp b with b | b
     ·exact absurd (l ▸ mem_map.mpr ⟨s,b,rfl⟩) u
     ·rw [mem_singleton.mp b]
    have S:vl (sgn false q.sz) = - vl q.sz:=JdE q.sz;rw [C,F,M,S];grind
 ·rw [length_append,length_singleton];rcases mem_append.mp b with b | b
  ·have:=h.fb s b;exact this.mono ∅ ∅
  ·rw [mem_singleton.mp b];exact D
 ·have:=Jee (p:=p) ls [] (by rw [nil_append];exact h.good) (by rw [nil_append];exact P) (by rw [nil_append];exact K);rw [nil_append] at this;exact this
 ·rw [filter_append] at z;rcases mem_append.mp a with a | a
  ·have O:∀ x∈ls.filter (fun x=>decide (x.nm≠q.nm)),x∈ls:=fun x g=>(mem_filter.mp g).1;have R:nmK 102 st sp.length∉fcsOf (ls.filter fun x=>decide (x.nm≠q.nm)):=fun y=>H (by
    obtain ⟨x,g,B⟩:=mem_flatMap.mp y;exact mem_flatMap.mpr ⟨x,O x g,B⟩)
   have Q:Conn (ls.filter (fun x=>decide (x.nm≠q.nm))++[p]) q.st q.en:=z.sub fun x g=>by
    rcases mem_append.mp g with g | g
    ·exact mem_append.mpr (.inl g)
    ·exact mem_append.mpr (.inr (mem_filter.mp g).1)
   have:=Q.retract (s0:=s0.f) (f:=nmK 102 st sp.length) (by
    cases d with
    | true=>exact .inr ⟨h1,h2⟩
    | false=>exact .inl ⟨h1,h2⟩) R
   have L:∀ x∈sp.map (·.f),x≠nmK 102 st sp.length:=fun x g y=>u (y ▸ g);rw [if_neg (L _ (h.sub q a).1),if_neg (L _ (h.sub q a).2)] at this;exact h.tr q a this
  ·rw [mem_singleton.mp a] at z;exact K (z.sub fun x g=>by
    rcases mem_append.mp g with g | g
    ·exact (mem_filter.mp g).1
    ·have:=(mem_filter.mp g);have e:=mem_singleton.mp this.1;rw [e] at this;simp at this)
def Two (sp:List SpD):Prop:=∀ s∈sp, ∃ t∈sp,t.f≠s.f/\t.r=s.r
theorem Jjx {st:Nat} {ls:List PD} {sp:List SpD} (h:Grn st ls sp) {s0:SpD} (h0:s0∈sp) (ht:∀ s∈sp,s.r=s0.r\/∃ t∈sp,t.f≠s.f/\t.r=s.r) {z:Int × Int}:Two (sp++[⟨nmK 102 st sp.length,s0.r,z⟩]):=by
 have b:=h.new (Nat.le_refl sp.length);intro s a;rcases mem_append.mp a with a | a
 ·rcases ht s a with e | ⟨t,ht,e1,e2⟩
  ·exact ⟨⟨nmK 102 st sp.length,s0.r,z⟩,by simp,fun q=>b (mem_map.mpr ⟨s,a,q.symm⟩),e.symm⟩
  ·exact ⟨t,mem_append.mpr (.inl ht),e1,e2⟩
 ·rw [mem_singleton.mp a];exact ⟨s0,mem_append.mpr (.inl h0),fun q=>b (mem_map.mpr ⟨s0,h0,q⟩),rfl⟩
theorem Grn.joined {st:Nat} {ls:List PD} {sp:List SpD} (h:Grn st ls sp) {s t:SpD} (hs:s∈sp) (ht:t∈sp) (e:s.r=t.r):Conn ls s.f t.f:=by
 have a:∀ q∈ls,q.st≠q.en:=fun q b=>(h.ok q b).ne;exact ((h.con s hs).symm a).trans (e ▸ h.con t ht)
def spOf (sp:List SpD) (f:Str):Int × Int:=((sp.find? fun s=>decide (s.f=f)).map (·.p)).getD (0,1)
theorem Grn.pl_at {st:Nat} {ls:List PD} {sp:List SpD} (h:Grn st ls sp) {s:SpD} (hs:s∈sp):spOf sp s.f=s.p:=by
 unfold spOf;cases e:sp.find? fun t=>decide (t.f=s.f) with
 | none=>
  have:=List.find?_eq_none.mp e s hs;simp at this
 | some t=>
  have b:=List.mem_of_find?_eq_some e;have c:=List.find?_some e;have a:t.f=s.f:=by simpa using c
  rw [h.inj b hs a];rfl
theorem Grn.pls {st:Nat} {ls:List PD} {sp:List SpD} (h:Grn st ls sp):∀ p∈ls,vl (spOf sp p.en)=vl (spOf sp p.st)+vl p.sz:=fun p c=>by
 obtain ⟨s,e,a⟩:=mem_map.mp (h.sub p c).1;obtain ⟨t,d,b⟩:=mem_map.mp (h.sub p c).2;have a:s.f=p.st:=a;have b:t.f=p.en:=b;rw [<- a, <- b,h.pl_at e,h.pl_at d];exact h.pl p c s e t d a b
theorem Grn.plb {st:Nat} {ls:List PD} {sp:List SpD} (h:Grn st ls sp) (hl:ls.length<=8) (f:Str):FB 302 161 (spOf sp f):=by
 unfold spOf;cases e:sp.find? fun t=>decide (t.f=f) with
 | none=>exact Jfu.mono ∅ ∅
 | some t=>
  have:=h.fb t (List.mem_of_find?_eq_some e);exact this.mono ∅ ∅
theorem JiV {t b:Int} (hb:1<=b):vl (Mth.top t b,Mth.bot t b)=(t:Rat)/(b:Rat):=by
 have a:b≠0:=by ac_nf
 have d:=Mth.cross (t:=t) a;have c:=Mth.JcQ (t:=t) a;unfold vl;dsimp only;generalize Mth.top t b=x at *;generalize Mth.bot t b=y at *;have f:=JaH hb;have g:=JaH c;have e:(x:Rat)*(b:Rat)=(t:Rat)*(y:Rat):=by exact_mod_cast d
 generalize (x:Rat)=x at *;generalize (y:Rat)=y at *;generalize (t:Rat)=t at *;generalize (b:Rat)=b at *;grind
theorem FOk.fb {n:Nat} {a:Int × Int} (h:FOk n a):FB n n a:=⟨h.s1,h.s2,h.b1,h.g1⟩
def mid (pl:Str->Int × Int) (g:GD):Int × Int:=addF (pl g.en) (negF (pl g.st))
def roomF (pl:Str->Int × Int) (g:GD):Int × Int:=if lessF (addF g.hi (negF (mid pl g))) (addF (mid pl g) (negF g.lo)) then addF g.hi (negF (mid pl g)) else addF (mid pl g) (negF g.lo)
section
variable {A B A' B' C D C' D':Nat} {x y z w m a b:Int × Int}
theorem FB.inj (h:FB A B x) (k:FB C D y) (e:vl x=vl y):x=y:=JjW h.b1 k.b1 h.g1 k.g1 e
theorem FB.add' (h:FB A B x) (k:FB C D y):FB (A+D+(C+B)+1) (B+D) (addF x y):=FB.add h k ∅ ∅ (Nat.le_refl _)
theorem FB.vadd (h:FB A B x) (k:FB C D y):vl (addF x y)=vl x+vl y:=JiU h.b1 k.b1
theorem Jko (hx:FB A B x) (hy:FB A B y) (hz:FB C D z) (hw:FB A B w) (e:vl y=vl x+vl z):addF (addF x (negF w)) z=addF y (negF w):=by
 refine FB.inj ((hx.add' hw.neg).add' hz) (hy.add' hw.neg) ?_;rw [FB.vadd (hx.add' hw.neg) hz,hx.vadd hw.neg,hy.vadd hw.neg,e,JdE];grind
theorem Ji7 (hx:FB A B x):addF x (negF x)=(0,1):=by
 refine FB.inj (hx.add' hx.neg) Jfu ?_;rw [hx.vadd hx.neg,JdE];have : vl (0,1)=0:=by
  unfold vl;grind
 rw [this];grind
theorem Jj3 (hm:FB A B m) (ha:FB C D a):addF (addF m a) (negF m)=a:=by
 refine FB.inj ((hm.add' ha).add' hm.neg) ha ?_;rw [FB.vadd (hm.add' ha) hm.neg,hm.vadd ha,JdE];grind
theorem Jj4 (hm:FB A B m) (hb:FB C D b):addF m (negF (addF m (negF b)))=b:=by
 have a:=hm.add' hb.neg;refine FB.inj (hm.add' a.neg) hb ?_;rw [hm.vadd a.neg,JdE,hm.vadd hb.neg,JdE];grind
theorem Jjs (ha:FB A B a) (hb:FB C D b):(if lessF a b then a else b)=if lessF b a then b else a:=by
 have f:=Jeu (a:=a) (c:=b) ha.b1 hb.b1;have g:=Jeu (a:=b) (c:=a) hb.b1 ha.b1;by_cases e:lessF a b=true
 ·rw [if_pos e,if_neg fun d=>by
   have:=f.mp e;have:=g.mp d;grind]
 ·rw [if_neg e];by_cases d:lessF b a=true
  ·rw [if_pos d]
  ·rw [if_neg d];refine FB.inj hb ha ?_;have i:¬ vl a<vl b:=fun q=>e (f.mpr q);have h:¬ vl b<vl a:=fun q=>d (g.mpr q);grind
theorem hi_lo (hm:FB A B m) (ha:FB C D a) (hb:FB C' D' b) (h:0<=vl a+vl b):lessF (addF m a) (addF m (negF b))=false:=by
 have d:=hm.add' ha;have f:=hm.add' hb.neg;have c:=Jeu d.b1 f.b1;rw [hm.vadd ha,hm.vadd hb.neg,JdE] at c;cases e:lessF (addF m a) (addF m (negF b)) with
 | false=>rfl
 | true=>
  have:=c.mp e;grind
theorem Jll {pl:Str->Int × Int} {g:GD} (h:∀ f,FB 302 161 (pl f)):FB 464 322 (mid pl g):=FB.add (h _) (h _).neg ⋯ ⋯ ⋯
end
section
variable {α : Type} {f : α->Str} {l:List α} {s st:Nat}
theorem Jib (h:∀ i a,l[i]?=some a->f a=nmK s st i):(l.map f).Nodup:=by
 rw [List.Nodup,List.pairwise_iff_getElem];intro i j c b d e;rw [length_map] at c b;rw [List.getElem_map,List.getElem_map,h i _ (List.getElem?_eq_getElem c),h j _ (List.getElem?_eq_getElem b)] at e;have:=JcR e;ac_nf
end
theorem Grn.fname {st:Nat} {ls:List PD} {sp:List SpD} (h:Grn st ls sp) (hst:st<=3) (hl:sp.length<=16) {s:SpD} (hs:s∈sp):nameS s.f=true:=by
 obtain ⟨i,a⟩:=List.getElem?_of_mem hs;have:=(List.getElem?_eq_some_iff.mp a).1;rw [h.fc i s a];exact JdO ⋯ hst ∅
section
variable {K:W.Frag} {H H':Hp} {x:V}
end
theorem Jb9 {H0 H:Hp} {b:Addr} (S:Same H0 H) (h:H b=none):H0 b=none:=by
 cases e:H0 b with
 | none=>rfl
 | some o=>rw [S _ _ e] at h;cases h
theorem Jlc {c:TT} {t u:TS} {D:Ends} {σ : St} {H:Hp} (J:St->Hp->Prop) (hJ:∀ σ' H',J σ' H'->D.nx σ' H') (h:∀ N:St->Hp->Prop,(∀ σ' H',J σ' H'->N σ' H')->tIfS c t u { D with nx:=N } σ H):tIfS c t u D σ H:=h D.nx hJ
theorem JiP {t b:Int} (ht:0<=t) (hb:1<=b):0<=Mth.top t b:=by
 have c:=Mth.Jes (t:=t) (b:=b) ∅;have d:=Mth.g_pos (a:=t) (b:=b) ∅;have e:Mth.by_ t b=Mth.g t b:=by unfold Mth.by_;rw [if_neg ∅]
 rw [e] at c;rcases Int.lt_or_le (Mth.top t b) 0 with z | z
 ·have:=Int.mul_neg_of_neg_of_pos z d;ac_nf
 ·exact z
inductive Path (ls:List PD):Str->List Pr->Str->Prop
 | nil {a:Str}:Path ls a [] a
 | cons {a g b:Str} {p:PD} {fw:Bool} {w:List Pr}:p∈ls->(a=if fw then p.st else p.en)->(g=if fw then p.en else p.st)->Path ls g w b->Path ls a ((p.nm,fw)::w) b
theorem Path.snoc {ls:List PD} {a f g:Str} {w:List Pr} {p:PD} {fw:Bool} (h:Path ls a w f) (hp:p∈ls) (e1:f=if fw then p.st else p.en) (e2:g=if fw then p.en else p.st):Path ls a (w++[(p.nm,fw)]) g:=by
 induction h with
 | nil=>exact .cons hp e1 e2 .nil
 | cons h1 h2 h3 _ ih=>exact .cons h1 h2 h3 (ih e1)
theorem Jgw {ls:List PD} {a b:Str} {w:List Pr} (h:Jbh ls a w b):Path ls a w b:=by
 induction h with
 | nil=>exact .nil
 | snoc _ hm ih=>
  obtain ⟨p,e,h | h⟩:=Jbi.mp hm
  ·obtain ⟨c,d,rfl⟩:=h;exact ih.snoc e c.symm d.symm
  ·obtain ⟨_,c,d,rfl⟩:=h;exact ih.snoc e c.symm d.symm
theorem JeQ {ls:List PD} {a b:Str} {w:List Pr} (h:Path ls a w b):∀ n∈w.map (·.1),n∈ls.map (·.nm):=by
 induction h with
 | nil=>simp
 | cons h1 _ _ _ ih=>
  intro n c;rw [map_cons] at c;rcases mem_cons.mp c with e | e
  ·rw [e];exact mem_map.mpr ⟨_,h1,rfl⟩
  ·exact ih n e
theorem Path.sub {ls ls':List PD} (hs:∀ p∈ls,p∈ls') {a b:Str} {w:List Pr} (h:Path ls a w b):Path ls' a w b:=by
 induction h with
 | nil=>exact .nil
 | cons h1 h2 h3 _ ih=>exact .cons (hs _ h1) h2 h3 ih
open PySem.Spec PyProof.Rows
theorem Jc7 (z:Str):∀ ss:List Str,inV (.str z) (ss.map V.str)=decide (z∈ss)
 | []=>by simp [inV]
 | s::ss=>by
  have h:=Jc7 z ss;unfold inV at h ⊢;rw [map_cons,any_cons,h];have e:eqV (.str s) (.str z)=decide (s=z):=by first | rfl | simp [eqV]
  rw [e];by_cases c:s=z
  ·subst c;simp
  ·have c':¬ z=s:=fun q=>c q.symm;simp [c,c']
theorem Jc6 (ss:List Str):(ss.map V.str).all flatV=true:=by
 induction ss with
 | nil=>rfl
 | cons s ss ih=>rw [map_cons,List.all_cons,ih];rfl
theorem Jh9 {ks:List PD} (h:(ks.map (·.nm)).Nodup) {i:Nat} {p:PD} (hp:ks[i]?=some p):p.nm∉(ks.take i).map (·.nm):=fun z=>by
 obtain ⟨q,f,e⟩:=mem_map.mp z;have e:q.nm=p.nm:=e;have c:=(List.getElem?_eq_some_iff.mp hp).1;obtain ⟨j,a⟩:=List.getElem?_of_mem f;have d:=(List.getElem?_eq_some_iff.mp a).1;rw [length_take] at d;rw [List.getElem?_take_of_lt ∅] at a;have b:=(List.getElem?_eq_some_iff.mp a).1;rw [List.Nodup,List.pairwise_iff_getElem] at h;refine h j i (by rw [length_map];exact b) (by rw [length_map];exact c) ∅ ?_;rw [List.getElem_map,List.getElem_map];rw [List.getElem?_eq_getElem b] at a;rw [List.getElem?_eq_getElem c] at hp;rw [Option.some.inj a,Option.some.inj hp];exact e
theorem ForR.byN {lo:Int} {n:Nat} {g:TG} {tb:TS} {D:Ends} {σ : St} {H:Hp} (Pv:Nat->St->Hp->Prop) (h0:Pv 0 σ H)
  (hs:∀ i σ H,i<n->Pv i σ H->∀ N:St->Hp->Prop,(∀ σ' H',Pv (i+1) σ' H'->N σ' H')->g (.int (lo+i)) σ H fun σ2 H2=>tb { D with nx:=N,ct:=N,bk:=D.nx } σ2 H2) (hd:∀ σ H,Pv n σ H->D.nx σ H):ForR lo n g tb D σ H :=
 ForR.by Pv h0 (fun i σ H b a=>hs i σ H b a _ fun _ _ h=>h) hd
theorem ForA.byLN {K:W.Frag} {a:Addr} {xs:List V} {g:TG} {tb:TS} {D:Ends} {σ : St} {H:Hp} (hA:SqL K H a xs) (Pv:Nat->St->Hp->Prop) (h0:Pv 0 σ H) (hl:∀ i σ H',Pv i σ H'->SqL K H' a xs)
  (hs:∀ i x σ H,xs[i]?=some x->Pv i σ H->∀ N:St->Hp->Prop,(∀ σ' H',Pv (i+1) σ' H'->N σ' H')->g x σ H fun σ2 H2=>tb { D with nx:=N,ct:=N,bk:=D.nx } σ2 H2) (hd:∀ σ H,Pv xs.length σ H->D.nx σ H):ForA K a g tb D σ H :=
 ForA.byL hA Pv h0 hl (fun i x σ H c b=>hs i x σ H c b _ fun _ _ h=>h) hd
structure Nms (ls:List PD) (xs:List (SpD × List Str)):Prop where
 nd:∀ x∈xs,x.2.Nodup
 sub:∀ x∈xs, ∀ n∈x.2,n∈ls.map (·.nm)
 stp:∀ p∈ls, ∀ x∈xs, ∀ y∈xs,x.1.f=p.st->y.1.f=p.en->(∀ n,n≠p.nm->(n∈x.2↔n∈y.2))/\(p.nm∈x.2↔p.nm∉y.2)
 fb:∀ x∈xs,FB (134+5*ls.length) (4*ls.length+1) x.1.p
 pb:∀ p∈ls,FB 133 4 p.sz/\FB 100 6 p.mo
 ln:∀ x∈xs,x.2.length<=ls.length
theorem Nms.nil:Nms [] []:=⟨by simp,by simp,by simp,by simp,by simp,by simp⟩
theorem Nms.face {st:Nat} {ls:List PD} {xs:List (SpD × List Str)} (h:Nms ls xs) (hG:Grn st ls (xs.map (·.1))):Nms ls (xs++[(⟨nmK 102 st (xs.map (·.1)).length,nmK 102 st (xs.map (·.1)).length,(0,1)⟩,[])]):=by
 have f:=hG.new (Nat.le_refl _);refine ⟨fun x a=>?_,fun x a=>?_,fun p e x a y b c d=>?_,fun x a=>?_,h.pb,fun x a=>?_⟩
 ·rcases mem_append.mp a with a | a
  ·exact h.nd x a
  ·rw [mem_singleton.mp a];exact .nil
 ·rcases mem_append.mp a with a | a
  ·exact h.sub x a
  ·rw [mem_singleton.mp a];intro n g;cases g
 ·rcases mem_append.mp a with a | a
  ·rcases mem_append.mp b with b | b
   ·exact h.stp p e x a y b c d
   ·rw [mem_singleton.mp b] at d;dsimp only at d;exact absurd (d ▸ (hG.sub p e).2) f
  ·rw [mem_singleton.mp a] at c;dsimp only at c;exact absurd (c ▸ (hG.sub p e).1) f
 ·rcases mem_append.mp a with a | a
  ·exact h.fb x a
  ·rw [mem_singleton.mp a];exact Jfu.mono ∅ ∅
 ·rcases mem_append.mp a with a | a
  ·exact h.ln x a
  ·rw [mem_singleton.mp a];exact Nat.zero_le _
theorem Nms.part {st:Nat} {ls:List PD} {xs:List (SpD × List Str)} (h:Nms ls xs) (hG:Grn st ls (xs.map (·.1))) {s0:SpD × List Str} (h0:s0∈xs) {p:PD} {d:Bool} (hnm:p.nm=nmK 112 st ls.length)
  (h1:p.st=if d then s0.1.f else nmK 102 st (xs.map (·.1)).length) (h2:p.en=if d then nmK 102 st (xs.map (·.1)).length else s0.1.f) (hz:FB 133 4 p.sz) (hm:FB 100 6 p.mo) :
  Nms (ls++[p]) (xs++[(⟨nmK 102 st (xs.map (·.1)).length,s0.1.r,addF s0.1.p (sgn d p.sz)⟩,s0.2++[p.nm])]):=by
 have B:=hG.new (Nat.le_refl _);have t:∀ x∈xs,x.1.f=s0.1.f->(∀ n,n∈x.2↔n∈s0.2):=fun x c e=>by
  obtain ⟨i,u⟩:=List.getElem?_of_mem c;obtain ⟨j,C⟩:=List.getElem?_of_mem h0;have L:=hG.fc i x.1 (by rw [List.getElem?_map,u];rfl);have I:=hG.fc j s0.1 (by rw [List.getElem?_map,C];rfl);rw [L,I] at e;have:=JcR e;subst this;rw [u] at C;rw [Option.some.inj C];exact fun _=>Iff.rfl
 have H:p.nm∉ls.map (·.nm):=fun z=>by
  obtain ⟨q,g,e⟩:=mem_map.mp z;obtain ⟨i,u⟩:=List.getElem?_of_mem g;have M:=(List.getElem?_eq_some_iff.mp u).1;have l:q.nm=p.nm:=e;rw [hG.nm i q u,hnm] at l;have:=JcR l;ac_nf
 have D:p.nm∉s0.2:=fun z=>H (h.sub s0 h0 _ z);have w:FB 133 4 (sgn d p.sz):=by
  cases d with
  | true=>exact hz
  | false=>exact hz.neg
 refine ⟨fun x c=>?_,fun x c n o=>?_,fun q g x c y k s l=>?_,fun x c=>?_,fun q g=>?_,fun x c=>?_⟩
 ·rcases mem_append.mp c with c | c
  ·exact h.nd x c
  ·rw [mem_singleton.mp c];show (s0.2++[p.nm]).Nodup;rw [nodup_append];refine ⟨h.nd s0 h0,by simp,fun a K b J e=>?_⟩;rw [mem_singleton.mp J] at e;exact D (e ▸ K)
 ·rw [map_append];rcases mem_append.mp c with c | c
  ·exact mem_append.mpr (.inl (h.sub x c n o))
  ·rw [mem_singleton.mp c] at o;rcases mem_append.mp o with o | o
   ·exact mem_append.mpr (.inl (h.sub s0 h0 n o))
   ·rw [mem_singleton.mp o];simp
 ·rcases mem_append.mp g with g | g
  ·rcases mem_append.mp c with c | c
   ·rcases mem_append.mp k with k | k
    ·exact h.stp q g x c y k s l
    ·rw [mem_singleton.mp k] at l;dsimp only at l;exact absurd (l ▸ (hG.sub q g).2) B
   ·rw [mem_singleton.mp c] at s;dsimp only at s;exact absurd (s ▸ (hG.sub q g).1) B
  ·have g:=mem_singleton.mp g;subst g;have v:∀ z∈xs,z.1.f≠nmK 102 st (xs.map (·.1)).length:=fun z A e=>B (e ▸ mem_map.mpr ⟨z.1,mem_map.mpr ⟨z,A,rfl⟩,rfl⟩);have E:∀ n,n≠q.nm->(n∈s0.2↔n∈s0.2++[q.nm]):=fun n o=>by simp [o]
   cases d with
   | true=>
    rw [if_pos rfl] at h1 h2;rw [h1] at s;rw [h2] at l;rcases mem_append.mp c with c | c
    ·rcases mem_append.mp k with k | k
     ·exact absurd l (v y k)
     ·rw [mem_singleton.mp k];have F:=t x c s;refine ⟨fun n o=>(F n).trans (E n o),?_⟩;rw [F];simp [D]
    ·rw [mem_singleton.mp c] at s;dsimp only at s;exact absurd s.symm (v s0 h0)
   | false=>
    rw [if_neg ⋯] at h1 h2;rw [h1] at s;rw [h2] at l;rcases mem_append.mp k with k | k
    ·rcases mem_append.mp c with c | c
     ·exact absurd s (v x c)
     ·rw [mem_singleton.mp c];have G:=t y k l;refine ⟨fun n o=>(E n o).symm.trans (G n).symm,?_⟩;rw [G];simp [D]
    ·rw [mem_singleton.mp k] at l;dsimp only at l;exact absurd l.symm (v s0 h0)
 ·rw [length_append,length_singleton];rcases mem_append.mp c with c | c
  ·exact (h.fb x c).mono ∅ ∅
  ·rw [mem_singleton.mp c];have:=FB.add (n:=138+5*ls.length) (m:=4*(ls.length+1)+1) (h.fb s0 h0) w ∅ ∅ ∅;exact this.mono ∅ ∅
 ·rcases mem_append.mp g with g | g
  ·exact h.pb q g
  ·rw [mem_singleton.mp g];exact ⟨hz,hm⟩
 ·rw [length_append,length_singleton];rcases mem_append.mp c with c | c
  ·have:=h.ln x c;ac_nf
  ·rw [mem_singleton.mp c];have:=h.ln s0 h0;show (s0.2++[p.nm]).length<=_;rw [length_append,length_singleton];ac_nf
theorem JdD {st:Nat} {ls:List PD} {xs:List (SpD × List Str)} (hG:Grn st ls (xs.map (·.1))) {x y:SpD × List Str} (hx:x∈xs) (hy:y∈xs) (e:x.1.f=y.1.f):x=y:=by
 obtain ⟨i,b⟩:=List.getElem?_of_mem hx;obtain ⟨j,a⟩:=List.getElem?_of_mem hy;have d:=hG.fc i x.1 (by rw [List.getElem?_map,b];rfl);have c:=hG.fc j y.1 (by rw [List.getElem?_map,a];rfl);rw [d,c] at e;have:=JcR e;subst this;rw [b] at a;exact Option.some.inj a
theorem Jjh {st:Nat} {ls:List PD} {xs:List (SpD × List Str)} (hG:Grn st ls (xs.map (·.1))) (hM:Nms ls xs) {a b:Str} {w:List Pr} (h:Path ls a w b):(w.map (·.1)).Nodup->∀ x∈xs, ∀ y∈xs,x.1.f=a->y.1.f=b->∀ n,n∈w.map (·.1)↔¬ (n∈x.2↔n∈y.2):=by
 induction h with
 | nil=>
  intro _ x j y l r m n;have:=JdD hG j l (r.trans m.symm);subst this;simp
 | @cons a g b p fw w hp h1 h2 _ ih=>
  intro o x j y l r m n;rw [map_cons,nodup_cons] at o;obtain ⟨z,d,t⟩:∃ z∈xs,z.1.f=g:=by
   have k:=hG.sub p hp;have : g∈(xs.map (·.1)).map (·.f):=by
    rw [h2];cases fw
    ·exact k.1
    ·exact k.2
   obtain ⟨s,k,e⟩:=mem_map.mp this;obtain ⟨z,d,rfl⟩:=mem_map.mp k;exact ⟨z,d,e⟩
  have i:=ih o.2 z d y l t m n;have u:(∀ n,n≠p.nm->(n∈x.2↔n∈z.2))/\(p.nm∈x.2↔p.nm∉z.2):=by
   rw [<- r] at h1;rw [<- t] at h2;cases fw with
   | true=>
    rw [if_pos rfl] at h1 h2;exact hM.stp p hp x j z d h1 h2
   | false=>
    rw [if_neg ⋯] at h1 h2;have:=hM.stp p hp z d x j h2 h1;exact ⟨fun n v=>(this.1 n v).symm,by have:=this.2;grind⟩
  rw [map_cons,mem_cons];by_cases c:n=p.nm
  ·subst c;have q:¬ p.nm∈w.map (·.1):=o.1;have:=u.2;grind
  ·have:=u.1 n c;grind
def NmOk (xs:List (SpD × List Str)) (e:GD × List Str):Prop:=e.2.Nodup/\∀ x∈xs, ∀ y∈xs,x.1.f=e.1.st->y.1.f=e.1.en->∀ n,n∈e.2↔¬ (n∈x.2↔n∈y.2)
theorem Jjy {st:Nat} {ls:List PD} {xs:List (SpD × List Str)} (hG:Grn st ls (xs.map (·.1))) (hM:Nms ls xs) {e:GD × List Str} (he:NmOk xs e) (h1:e.1.st∈(xs.map (·.1)).map (·.f)) (h2:e.1.en∈(xs.map (·.1)).map (·.f)) {w:List Pr} (h:Path ls e.1.st w e.1.en) (nd:(w.map (·.1)).Nodup):e.2.Perm (w.map (·.1)):=by
 obtain ⟨s,i,c⟩:=mem_map.mp h1;obtain ⟨x,d,rfl⟩:=mem_map.mp i;obtain ⟨t,g,b⟩:=mem_map.mp h2;obtain ⟨y,a,rfl⟩:=mem_map.mp g;refine (List.perm_ext_iff_of_nodup he.1 nd).mpr fun n=>?_;rw [he.2 x d y a c b n,Jjh hG hM h nd x d y a c b n]
theorem JlJ {a b:List Str} (ha:a.Nodup) (hb:b.Nodup):(a.filter (fun n=>decide (n∉b))++b.filter (fun n=>decide (n∉a))).Nodup/\∀ n,n∈a.filter (fun n=>decide (n∉b))++b.filter (fun n=>decide (n∉a))↔¬ (n∈a↔n∈b):=by
 constructor
 ·rw [nodup_append];refine ⟨ha.filter _,hb.filter _,fun x g y f e=>?_⟩;subst e;have c:=(mem_filter.mp g);have d:=(mem_filter.mp f);simp at c d;exact c.2 d.1
 ·intro n;rw [mem_append,mem_filter,mem_filter];simp;grind
def sm (f:Str->Rat):List Str->Rat
 | []=>0
 | n::r=>f n+sm f r
theorem JkU {f:Str->Rat} {a b:List Str} (h:a.Perm b):sm f a=sm f b:=by
 induction h with
 | nil=>rfl
 | cons _ _ ih=>simp only [sm,ih]
 | swap x y l=>
  simp only [sm];grind
 | trans _ _ ih1 ih2=>exact ih1.trans ih2
theorem JiI {f:Str->Rat} (n:Str):∀ a:List Str,sm f (a++[n])=sm f a+f n
 | []=>by simp only [nil_append,sm];grind
 | m::a=>by
  rw [cons_append];simp only [sm,JiI n a];grind
def prodI:List Int->Int
 | []=>1
 | f::r=>f*prodI r
theorem Jcb (f:Int):∀ fs:List Int,prodI (fs++[f])=prodI fs*f
 | []=>by simp [prodI]
 | g::fs=>by rw [cons_append];simp only [prodI,Jcb f fs];rw [Int.mul_assoc]
structure Scl (b:Int) (fs:List Int):Prop where
 b1:1<=b
 f1:∀ f∈fs,1<=f
 pr:prodI fs=b
theorem Jej:∀ {fs:List Int},(∀ f∈fs,1<=f)->1<=prodI fs
 | [],_=>by simp [prodI]
 | f::fs,h=>by
  have h1:=h f (by simp);have h2:=Jej (fs:=fs) fun g hg=>h g (by simp [hg]);have:=Int.mul_pos (show 0<f by ac_nf) (show 0<prodI fs by ac_nf);simp only [prodI];ac_nf
theorem JfU:∀ (as bs:List Int),prodI (as++bs)=prodI as*prodI bs
 | [],bs=>by simp [prodI]
 | a::as,bs=>by rw [cons_append];simp only [prodI,JfU as bs];rw [Int.mul_assoc]
theorem Jiv {a b:Int} (ha:1<=a) (hb:1<=b):a<=a*b/\b<=a*b:=by
 have c:=Int.mul_le_mul_of_nonneg_left hb (show 0<=a by ac_nf);have d:=Int.mul_le_mul_of_nonneg_right ha (show 0<=b by ac_nf);constructor <;> ac_nf
theorem Scl.take {b:Int} {fs:List Int} (h:Scl b fs) (i:Nat):1<=prodI (fs.take i)/\prodI (fs.take i)<=b:=by
 have c:=Jej (fs:=fs.take i) fun f a=>h.f1 f (List.mem_of_mem_take a);have d:=Jej (fs:=fs.drop i) fun f a=>h.f1 f (List.mem_of_mem_drop a);have e:=JfU (fs.take i) (fs.drop i);rw [List.take_append_drop,h.pr] at e;have:=Jiv c d;ac_nf
theorem Scl.mem {b f:Int} {fs:List Int} (h:Scl b fs) (hf:f∈fs):f<=b:=by
 obtain ⟨i,a⟩:=List.getElem?_of_mem hf;have c:=(List.getElem?_eq_some_iff.mp a).1;have t:=h.take (i+1);rw [take_succ,a] at t;have e:=Jcb f (fs.take i);have:=Jiv (h.take i).1 (h.f1 f hf);simp only [Option.toList_some] at t;ac_nf
theorem sz_le {n:Nat} {a b:Int} (h:Mth.Sz n b) (h0:0<=a) (h1:a<=b):Mth.Sz n a:=Nat.lt_of_le_of_lt (by ac_nf:a.natAbs<=b.natAbs) h
theorem Scl.nil:Scl 1 []:=⟨by decide,by simp,rfl⟩
theorem Scl.snoc {b f:Int} {fs:List Int} (h:Scl b fs) (hf:1<=f):Scl (b*f) (fs++[f]):=⟨by
 have:=Int.mul_pos (show 0<b by have:=h.b1;ac_nf) (show 0<f by ac_nf);ac_nf,fun g a=>by
 rcases mem_append.mp a with a | a
 ·exact h.f1 g a
 ·rw [mem_singleton.mp a];exact hf,by rw [Jcb,h.pr]⟩
structure LInv (n:Int × Int) (q:Int) (t:Int × Int):Prop where
 b1:1<=t.2
 g1:Mth.g t.1 t.2=1
 dv:t.2∣n.2
 cr:t.1*n.2=n.1*q*t.2
 ab:t.1.natAbs<=n.1.natAbs*q.natAbs
theorem LInv.nil {n:Int × Int} (h:1<=n.2) (g:Mth.g n.1 n.2=1):LInv n 1 n:=⟨h,g,Int.dvd_refl _,by rw [Int.mul_one],by simp⟩
theorem LInv.step {n t:Int × Int} {q f:Int} (h:LInv n q t) (hf:1<=f):LInv n (q*f) (t.1*f.fdiv (Mth.g t.2 f),t.2.fdiv (Mth.g t.2 f)):=by
 have v:0<Mth.g t.2 f:=Mth.g_pos ∅;have e:=Mth.Jcw t.2 f;have j:=Mth.JbK t.2 f;have i:=Mth.JaL e ∅;have o:=Mth.JaL j ∅;have l:=Mth.JcM (b:=t.2) (d:=f) rfl ∅;have u:=Mth.JbZ e ∅ h.b1;have m:=Mth.JdV j ∅;have k:t.2.fdiv (Mth.g t.2 f)∣t.2:=⟨_,i.symm⟩;have p:Int.gcd t.1 (t.2.fdiv (Mth.g t.2 f))=1:=Mth.JaT (Mth.Jb3 (Mth.JaT (Mth.Jcf h.g1)) k);have a:=h.cr;have c:=h.ab;generalize t.2.fdiv (Mth.g t.2 f)=r at *;generalize f.fdiv (Mth.g t.2 f)=f' at *;generalize Mth.g t.2 f=s at *;refine ⟨u,Mth.JdM (Mth.JaT (Mth.JbY (Mth.JaT p) l)),Int.dvd_trans k h.dv,?_,?_⟩
 ·show t.1*f'*n.2=n.1*(q*f)*r;have : t.1*f'*n.2=(t.1*n.2)*f':=by rw [Int.mul_assoc,Int.mul_comm f', <- Int.mul_assoc]
  rw [this,a, <- i, <- o];simp only [Int.mul_assoc,Int.mul_comm,Int.mul_left_comm]
 ·show (t.1*f').natAbs<=n.1.natAbs*(q*f).natAbs;rw [Int.natAbs_mul,Int.natAbs_mul, <- Nat.mul_assoc];exact Nat.mul_le_mul c m
theorem LInv.all {n:Int × Int} {b:Int} (h:1<=n.2) (hd:b.fmod n.2=0):LInv n b (n.1*b.fdiv n.2,1):=by
 have a:n.2∣b:=by
  rw [Int.fmod_eq_emod_of_nonneg _ ∅] at hd;exact Int.dvd_of_emod_eq_zero hd
 have e:=Mth.JaL a ∅;have c:=Mth.JdV a h;refine ⟨Int.le_refl _,by unfold Mth.g;simp,Int.one_dvd _,?_,?_⟩
 ·show n.1*b.fdiv n.2*n.2=n.1*b*1;rw [Int.mul_assoc,e,Int.mul_one]
 ·show (n.1*b.fdiv n.2).natAbs<=_;rw [Int.natAbs_mul];exact Nat.mul_le_mul_left _ c
theorem LInv.vl {n t:Int × Int} {q:Int} (h:LInv n q t) (hn:1<=n.2):vl t=vl n*(q:Rat):=by
 have f:=JaH hn;have g:=JaH h.b1;have e:(t.1:Rat)*(n.2:Rat)=(n.1:Rat)*(q:Rat)*(t.2:Rat):=by exact_mod_cast h.cr
 unfold L2.vl;generalize (t.1:Rat)=a at *;generalize (t.2:Rat)=b at *;generalize (n.1:Rat)=c at *;generalize (n.2:Rat)=d at *;generalize (q:Rat)=q at *;grind
theorem LInv.fb {n t:Int × Int} {q:Int} {A B C:Nat} (h:LInv n q t) (hn:FB A B n) (hq:Mth.Sz C q):FB (A+C) B t:=by
 refine ⟨?_,?_,h.b1,h.g1⟩
 ·refine Nat.lt_of_le_of_lt h.ab ?_;have:=hn.s1.mul hq;unfold Mth.Sz at this;rw [Int.natAbs_mul] at this;exact this
 ·refine Nat.lt_of_le_of_lt ?_ hn.s2;have:=Int.natAbs_dvd_natAbs.mpr h.dv;exact Nat.le_of_dvd (by have:=hn.b1;ac_nf) this
theorem scaled {x y q:Rat} (h:0<q):x*q<=y*q↔x<=y:=by
 constructor
 ·intro a;refine Rat.not_lt.mp fun z=>?_;have:=Rat.mul_lt_mul_of_pos_right z h;exact Rat.not_lt.mpr a this
 ·intro a;exact Rat.mul_le_mul_of_nonneg_right a (Rat.le_of_lt h)
section
variable {X:Cx} {tg:Expr}
theorem Jeh {iter elt tst:Expr} {scope:Scope} {pos:Pos} {own:List Str} {cs:List (Nat × Str)} {wi:TI} {g:TG} {te:TE} {tt:TT} (hc:X.calm=true) (hi:PI X tg iter wi)
  (hg:∀ fp s2 H2 C,PG (X.inc (own++cs.map (·.2)) scope (Jbt X.env.cells scope.names []) fp s2 H2 C) tg g) (ht:∀ fp s2 H2 C,PT (X.inc (own++cs.map (·.2)) scope (Jbt X.env.cells scope.names []) fp s2 H2 C) tst tt) (he:∀ fp s2 H2 C,PE (X.inc (own++cs.map (·.2)) scope (Jbt X.env.cells scope.names []) fp s2 H2 C) elt te)
  (hfree:∀ p∈scope.names,p.2=.free->X.env.scope.names.lookup p.1=some .cell) (hcell:∀ y∈scope.names,y.2≠.cell) (hkind:scope.kind=.function) (hnames:∀ y∈scope.names,y.2=.local->scope.names.lookup y.1=some .local)
  (hcs:∀ p∈cs,X.N[p.1]?=some p.2/\X.env.scope.names.lookup p.2=some .cell/\(relabel scope X.env).names.lookup p.2=some .cell)
  (hs:∀ x,foldedSetIterable iter X.env x=pure x:=by intro _;rfl):PE X (.ListComp elt [⟨tg,iter,[tst],0⟩] scope pos) (JfZ own.length cs wi g tt te):=by
 intro a s σ H Q I h;have d:∀ p∈scope.names,p.2=.free->∃ c,X.env.cells.lookup p.1=some c:=fun p o M=>I.ok.has p.1 (.inl (hfree p o M));have m:=JcL (cells:=X.env.cells) scope.names [] (fun _ _ z=>by simp at z) d;rw [eval_ListComp];refine wpAny_comprehension_free (use:=none) rfl hs (Jf8 d) hkind hnames (thn (hi a s σ H _ I h) fun v O E=>thn E fun K s2 G=>?_);obtain ⟨R,fp,P,J,H2,rfl,I2,T,i,D,W,⟨V,t⟩,b⟩:=G;refine JdU (QN:=fun n e=>∀ p,e p=none->Q (.ref p) (upd e p (.lst n))) (RR:=fun l C=>compPost (model X.prog X.w) X.A X.xe none (EP X a σ Q) l C) hc hg ht he hcell hkind m (fun z L=>JcK scope.names [] z (.inr (JhV hcell L))) hcs I2 T i D t b ?_;intro D' C S e n j B Y Z F U q;obtain ⟨u,k⟩:=F;exact ⟨u,k,fun r f=>⟨.ref D',_,j r f,rfl,q D' B⟩⟩
end
def notStar:Expr->Bool
 | .Starred _ _=>false
 | _=>true
theorem Jaf {e:Expr} {es:List Expr} {env:Env} (h:notStar e=true):starEach (e::es) env=(false,eval e env)::starEach es env:=by
 cases e <;> first | rfl | (simp [notStar] at h)
theorem Jaa {X:Cx} {e:Expr} {es:List Expr} {te:TE} {t:TA} (ha:PE X e te) (hr:PA X es t) (hs:notStar e=true:=by rfl):PA X (e::es) (tCons te t):=Jim ha hr (Jaf hs)
theorem Jcy {X:Cx} {i:Int} {j pos} {es:List Expr} {t:TA} (hr:PA X es t):PA X (.Constant (.int i) j pos::es) (tCons (tC (.int i)) t):=Jim Jac hr (by rfl)
section
variable {K:W.Frag} {H H':Hp} {x:V} {a c:Addr}
def Same2 (a c:Addr) (H H':Hp):Prop:=∀ b u,b≠a->b≠c->H b=some u->H' b=some u
theorem Same.two (S:Same H H'):Same2 a c H H':=fun b u _ _ h=>S b u h
theorem Same2.trans {H'':Hp} (S:Same2 a c H H') (S':Same2 a c H' H''):Same2 a c H H'':=fun b u d e h=>S' b u d e (S b u d e h)
def SNV (K:W.Frag) (a c:Addr) (H:Hp) (s:SpD × List Str) (x:V):Prop:=∃ b w l,x=.ref b/\SqT K H b [.str s.1.r,w, .ref l]/\FrV K H w s.1.p.1 s.1.p.2/\l≠a/\l≠c/\H l=some (.lst (s.2.map V.str))
theorem SNV.keep {s:SpD × List Str} (T:SameT H H') (S:Same2 a c H H'):SNV K a c H s x->SNV K a c H' s x:=by rintro ⟨b,w,l,f,h,g,e,d,i⟩;exact ⟨b,w,l,f,h.sameT T,g.sameT T,e,d,S _ _ e d i⟩
theorem SNV.same {s:SpD × List Str} (S:Same H H'):SNV K a c H s x->SNV K a c H' s x:=SNV.keep S.t S.two
def FLV (K:W.Frag) (H:Hp) (s:Int × Int) (x:V):Prop:=FrV K H x s.1 s.2
theorem FLV.sameT {s:Int × Int} (T:SameT H H') (h:FLV K H s x):FLV K H' s x:=FrV.sameT T h
end
theorem Jgx:∀ {ls:List PD} {p q:PD},(ls.map (·.nm)).Nodup->p∈ls->q∈ls->p.nm=q.nm->p=q
 | [],_,_,_,hp,_,_=>by cases hp
 | a::ls,p,q,hn,hp,hq,e=>by
  rw [map_cons,nodup_cons] at hn;rcases mem_cons.mp hp with h1 | h1 <;> rcases mem_cons.mp hq with h2 | h2
  ·rw [h1,h2]
  ·subst h1;exact absurd (e ▸ mem_map.mpr ⟨q,h2,rfl⟩) hn.1
  ·subst h2;exact absurd (e ▸ mem_map.mpr ⟨p,h1,rfl⟩) hn.1
  ·exact Jgx hn.2 h1 h2 e
theorem Jlz {n:Nat} (h:n<12):∃ bt:Int,[V.int 1, .int 2, .int 3, .int 4, .int 5, .int 6, .int 10, .int 12, .int 15, .int 20, .int 30, .int 60][n]?=some (.int bt)/\1<=bt/\bt<=60:=by
 match n,h with
 | 0,_ | 1,_ | 2,_ | 3,_ | 4,_ | 5,_ | 6,_ | 7,_ | 8,_ | 9,_ | 10,_ | 11,_=>exact ⟨_,rfl,by decide,by decide⟩
 | n+12,h=>ac_nf
theorem pick3 {n:Nat} (h:n<3):∃ om:Int,[V.int 13, .int 13, .int 1000000000000000000000000000000][n]?=some (.int om)/\1<=om/\om<=1000000000000000000000000000000:=by
 match n,h with
 | 0,_ | 1,_ | 2,_=>exact ⟨_,rfl,by decide,by decide⟩
 | n+3,h=>ac_nf
theorem JlA {n:Nat} (h:n<3):∃ om:Int,[V.int 23, .int 23, .int 1000000000000000000000000000000][n]?=some (.int om)/\1<=om/\om<=1000000000000000000000000000000:=by
 match n,h with
 | 0,_ | 1,_ | 2,_=>exact ⟨_,rfl,by decide,by decide⟩
 | n+3,h=>ac_nf
theorem JfS {X:Cx} {K:W.Frag} (hK:X.K=K):OpR X (compareOp .NotIn) (rIn K true):=hK ▸ JfT
section
variable {X:Cx}
theorem Jhb:∀ {xs:List V} {us:List Value},xs.length=us.length->(∀ (i:Nat) x u,xs[i]?=some x->us[i]?=some u->RelV x u)->Vals xs us
 | [],[],_,_=>.nil
 | [],_::_,h,_=>by simp at h
 | _::_,[],h,_=>by simp at h
 | x::xs,u::us,h,k=>.cons (k 0 x u rfl rfl) (Jhb (by simpa using h) fun i x u h1 h2=>k (i+1) x u (by simpa using h1) (by simpa using h2))
def JlD (xs:List V) (H:Hp) (Q:VK):Prop:=∃ (d:Addr) (kvs:List (Key × V)) (ss:List Str),xs=[.ref d]/\H d=some (.dK kvs)/\kvs.map (·.1)=ss.map Sum.inr/\∀ l,H l=none->Q (.ref l) (upd H l (.lst (ss.map V.str)))
theorem Jhe (hc:X.calm=true):CallR X (.type "list") JlD:=by
 intro G s σ H Z us Q I r h;obtain ⟨d,kvs,j,rfl,e,p,q⟩:=h;obtain ⟨u,rfl,M⟩:=vals1 r;cases M;obtain ⟨T,R,m,f,F⟩:=dk_of I.hok e;obtain ⟨ep,D⟩:=F.dictAt;have U:j.length=kvs.length:=by simpa using (congrArg List.length p).symm
 have L:m.length=kvs.length:=f.length.symm;have g:m.map (·.1)=kvs.map (·.1):=by
  clear F D p U L T q e;induction f with
  | nil=>rfl
  | cons B _ ih=>
   rw [map_cons,map_cons,ih,B.1]
 refine W.kdl_call (W.kdl_dict (knd:=Jaw X.prog X.w) (d:=d) (kvs:=m) (ep:=ep) R) (I.ok.hd hc) D ∅ fun P N a J k Y c=>?_;have n:Vals (j.map V.str) a.toList:=Jhb (by have B:=c.1;have S:a.toList.length=a.size:=Array.length_toList;rw [length_map,S,B];ac_nf) fun i x v C n=>by
  rw [List.getElem?_map] at C;obtain ⟨z,A,rfl⟩:=Option.map_eq_some_iff.mp C;obtain ⟨E,x1,O,K⟩:=c.2 i v (by rw [<- Array.getElem?_toList];exact n);have l:(m.map (·.1))[i]?=some E:=by rw [List.getElem?_map,O];rfl
  rw [g,p,List.getElem?_map,A] at l;have l:Sum.inr z=E:=Option.some.inj l;subst l;rcases JaN (show keyIs (Sum.inr z) v=true from K) with ⟨b,hb,_⟩ | ⟨y,t,hy,rfl⟩
  ·cases hb
  ·cases hy;exact ⟨t,rfl⟩
 exact ⟨.ref _,_,I.laid (t':=N) (o:=.lst (j.map V.str)) k (Nat.le_refl _) (show ObjOk X.prog X.w _ P _ (.lst (j.map V.str)) from ⟨by rw [length_map];ac_nf,a.toList,J,n,by rw [Array.toArray_toList];exact Y⟩),rfl,q _ (I.hok.fresh (Nat.le_refl _))⟩
end
section
variable {prog:Program} {w:World} {A:Around} {E:Value->Shared->Prop} {s:Shared}
end
section
variable {X:Cx}
end
def ext (M:Str->Option Str) (f:Str):Str:=(M f).getD f
section
variable {ls:List PD} {M:Str->Option Str} {a b f g:Str} {p:PD}
end
theorem Jh5 (kvs:List (Key × V)) (k:Key) (v:V):(putK kvs k v).map (·.1)=if (valV kvs k).isSome=true then kvs.map (·.1) else kvs.map (·.1)++[k]:=by
 unfold putK;rw [Jcv];split
 ·rw [map_map];refine List.map_congr_left fun a _=>?_;show (if a.1=k then (a.1,v) else a).1=a.1;split <;> rfl
 ·rw [map_append];rfl
theorem Jh4 {kvs:List (Key × V)} {k:Key}:(valV kvs k).isSome=true↔k∈kvs.map (·.1):=by
 rw [<- Jcv,List.any_eq_true];constructor
 ·rintro ⟨c,a,b⟩;exact mem_map.mpr ⟨c,a,by simpa using b⟩
 ·intro h;obtain ⟨c,a,b⟩:=mem_map.mp h;exact ⟨c,a,by simpa using b⟩
section
variable {K:W.Frag} {H H':Hp}
def cut (p:Addr) (H:Hp):Hp:=fun b=>if b=p then none else H b
theorem JbJ {p b:Addr} (h:b≠p):cut p H b=H b:=if_neg h
theorem Jc5 {p:Addr}:Same (cut p H) H:=fun b u h=>by
 unfold cut at h;split at h
 ·cases h
 ·exact h
theorem Same.cut {p:Addr} (S:Same H H'):Same (cut p H) (cut p H'):=fun b u h=>by
 have e:b≠p:=fun z=>by rw [z] at h;unfold L2.cut at h;rw [if_pos rfl] at h;cases h
 rw [JbJ e] at h ⊢;exact S _ _ h
theorem Jgb {p:Addr} {o:HO}:cut p (upd H p o)=cut p H:=by
 funext b
 by_cases c:b=p
 ·rw [c];unfold cut;rw [if_pos rfl,if_pos rfl]
 ·rw [JbJ c,JbJ c,Jag c]
theorem SqT.cut {p a:Addr} {ys xs:List V} (hp:H p=some (.lst ys)) (h:SqT K H a xs):SqT K (cut p H) a xs:=by
 rcases h with (h | ⟨o,h⟩) | h
 ·exact .inl (.inl (by rw [JbJ (fun z=>by rw [z,hp] at h;cases h)];exact h))
 ·exact .inl (.inr ⟨o,by rw [JbJ (fun z=>by rw [z,hp] at h;cases h)];exact h⟩)
 ·exact .inr h
theorem FrV.cut {p:Addr} {ys:List V} {v:V} {a b:Int} (hp:H p=some (.lst ys)) (h:FrV K H v a b):FrV K (cut p H) v a b:=by
 obtain ⟨q,e,h⟩:=h;exact ⟨q,e,h.cut hp⟩
end
def JeE (H H':Hp):Prop:=∀ b u,(∀ xs,u≠.lst xs)->H b=some u->H' b=some u
theorem JeE.trans {H H1 H2:Hp} (a:JeE H H1) (b:JeE H1 H2):JeE H H2:=fun c u n h=>b c u n (a c u n h)
theorem JeE.t {H H':Hp} (S:JeE H H'):SameT H H':=fun b u t h=>S b u (fun a z=>by rw [z] at t;cases t) h
section
variable {a b:Str->Rat}
theorem sm_le:∀ {l:List Str},(∀ q∈l,a q<=b q)->sm a l<=sm b l
 | [],_=>Rat.le_refl
 | n::l,h=>by
  have h1:=h n (by simp);have h2:=sm_le (l:=l) fun q hq=>h q (by simp [hq]);simp only [sm];grind
theorem sm_lt:∀ {l:List Str} {n:Str},(∀ q∈l,a q<=b q)->n∈l->a n<b n->sm a l<sm b l
 | [],_,_,hn,_=>by cases hn
 | m::l,n,h,hn,lt=>by
  have h1:=h m (by simp);have h2:=sm_le (l:=l) fun q hq=>h q (by simp [hq]);simp only [sm];rcases mem_cons.mp hn with e | hn
  ·subst e;grind
  ·have:=sm_lt (fun q hq=>h q (by simp [hq])) hn lt;grind
theorem Jbn:∀ {l:List Str},(∀ q∈l,a q=b q)->sm a l=sm b l
 | [],_=>rfl
 | n::l,h=>by simp only [sm,h n (by simp),Jbn (l:=l) fun q hq=>h q (by simp [hq])]
theorem JcX:∀ {l:List Str},(∀ q∈l,a q=0)->sm a l=0
 | [],_=>rfl
 | n::l,h=>by
  simp only [sm,h n (by simp),JcX (l:=l) fun q hq=>h q (by simp [hq])];grind
theorem sm_nn:∀ {l:List Str},(∀ q∈l,0<=a q)->0<=sm a l
 | [],_=>Rat.le_refl
 | n::l,h=>by
  have h1:=h n (by simp);have h2:=sm_nn (l:=l) fun q hq=>h q (by simp [hq]);simp only [sm];grind
theorem Jeo (c:Rat):∀ (l:List Str),sm (fun n=>a n+c*b n) l=sm a l+c*sm b l
 | []=>by simp only [sm];grind
 | n::l=>by simp only [sm,Jeo c l];grind
theorem JlI {l:List Str} {n:Str} (h:∀ q∈l,0<=a q) (hn:n∈l) (lt:0<a n):0<sm a l:=by
 have:=sm_lt (a:=fun _=>0) (b:=a) h hn lt;rw [JcX (a:=fun _=>0) fun _ _=>rfl] at this;exact this
end
structure Gp where
 R:Rat
 way:List Str
structure Fair (N:List Str) (w M:Str->Rat) (gs:List Gp) (lv:Str->Rat):Prop where
 lo:∀ n∈N,0<=lv n
 hi:∀ n∈N,lv n<=M n
 fit:∀ g∈gs,sm (fun n=>lv n*w n) g.way<=g.R
 stop:∀ n∈N,lv n=M n\/∃ g∈gs,n∈g.way/\sm (fun n=>lv n*w n) g.way=g.R/\∀ q∈g.way,lv q<=lv n
section
variable {N:List Str} {w M:Str->Rat} {gs:List Gp} {f f':Str->Rat}
end
def lvv (lvs:List (Str × (Int × Int))) (n:Str):Rat:=((lvs.find? fun x=>decide (x.1=n)).map fun x=>vl x.2).getD 0
def used (lvs:List (Str × (Int × Int))) (w:Str->Rat) (n:Str):Rat:=lvv lvs n*w n
def left (lvs:List (Str × (Int × Int))) (w:Str->Rat) (n:Str):Rat:=if n∈lvs.map (·.1) then 0 else w n
section
variable {lvs:List (Str × (Int × Int))} {n m:Str} {L:Int × Int} {ns:List Str} {w:Str->Rat}
theorem Jcg (h:n∉lvs.map (·.1)):lvv lvs n=0:=by
 unfold lvv;rw [List.find?_eq_none.mpr fun x a=>by
  have : x.1≠n:=fun z=>h (mem_map.mpr ⟨x,a,z⟩);simpa using this]
 rfl
theorem Jd4 (hn:(lvs.map (·.1)).Nodup) {x:Str × (Int × Int)} (hx:x∈lvs):lvv lvs x.1=vl x.2:=by
 induction lvs with
 | nil=>cases hx
 | cons y r ih=>
  rw [map_cons,nodup_cons] at hn;unfold lvv;rw [List.find?_cons];rcases mem_cons.mp hx with e | hx
  ·subst e;simp
  ·have : y.1≠x.1:=fun z=>hn.1 (z ▸ mem_map.mpr ⟨x,hx,rfl⟩);rw [decide_eq_false this];exact ih hn.2 hx
theorem Je1 (h:n∈lvs.map (·.1)):lvv (lvs++ns.map fun m=>(m,L)) n=lvv lvs n:=by
 unfold lvv;rw [List.find?_append];cases e:lvs.find? fun x=>decide (x.1=n) with
 | none=>
  obtain ⟨x,b,a⟩:=mem_map.mp h;have:=List.find?_eq_none.mp e x b;simp [a] at this
 | some y=>rfl
theorem Jgk (h:n∉lvs.map (·.1)) (hn:n∈ns):lvv (lvs++ns.map fun m=>(m,L)) n=vl L:=by
 have a:lvs.find? (fun x=>decide (x.1=n))=none:=List.find?_eq_none.mpr fun x b=>by
  have : x.1≠n:=fun z=>h (mem_map.mpr ⟨x,b,z⟩);simpa using this
 unfold lvv;rw [List.find?_append,a,Option.none_or];cases e:(ns.map fun m=>(m,L)).find? fun x=>decide (x.1=n) with
 | none=>
  have:=List.find?_eq_none.mp e (n,L) (mem_map.mpr ⟨n,hn,rfl⟩);simp at this
 | some y=>
  have:=List.mem_of_find?_eq_some e;obtain ⟨m,_,rfl⟩:=mem_map.mp this;rfl
theorem Jbe:(lvs++ns.map fun m=>(m,L)).map (·.1)=lvs.map (·.1)++ns:=by
 rw [map_append,map_map]
 congr 1
 exact (List.map_congr_left fun _ _=>rfl).trans (List.map_id _)
def dlt (w:Str->Rat) (ns:List Str) (n:Str):Rat:=if n∈ns then w n else 0
theorem Jfs (hd:∀ n∈ns,n∉lvs.map (·.1)) (n:Str):used (lvs++ns.map fun m=>(m,L)) w n=used lvs w n+vl L*dlt w ns n:=by
 unfold used dlt;by_cases c:n∈lvs.map (·.1)
 ·rw [Je1 c,if_neg fun z=>hd n z c];grind
 ·by_cases d:n∈ns
  ·rw [Jgk c d,Jcg c,if_pos d];grind
  ·have : n∉(lvs++ns.map fun m=>(m,L)).map (·.1):=by
    rw [Jbe];simp only [mem_append];exact fun z=>z.elim c d
   rw [Jcg this,Jcg c,if_neg d];grind
theorem Je0 (hd:∀ n∈ns,n∉lvs.map (·.1)) (n:Str):left (lvs++ns.map fun m=>(m,L)) w n=left lvs w n+(-1)*dlt w ns n:=by
 unfold left dlt;rw [Jbe];simp only [mem_append];by_cases c:n∈lvs.map (·.1)
 ·rw [if_pos (.inl c),if_pos c,if_neg fun z=>hd n z c];grind
 ·by_cases d:n∈ns
  ·rw [if_pos (.inr d),if_neg c,if_pos d];grind
  ·rw [if_neg (fun z=>z.elim c d),if_neg c,if_neg d];grind
end
structure RInv (N:List Str) (w M:Str->Rat) (gs:List Gp) (lvs:List (Str × (Int × Int))) (c:Rat):Prop where
 nd:(lvs.map (·.1)).Nodup
 sub:∀ n∈lvs.map (·.1),n∈N
 c0:0<=c
 a:∀ x∈lvs,0<=vl x.2/\vl x.2<=c/\vl x.2<=M x.1
 b:∀ n∈N,n∉lvs.map (·.1)->c<=M n
 cc:∀ g∈gs,c*sm (left lvs w) g.way<=g.R-sm (used lvs w) g.way
 d:∀ x∈lvs,vl x.2=M x.1\/∃ g∈gs,x.1∈g.way/\(∀ q∈g.way,q∈lvs.map (·.1))/\g.R-sm (used lvs w) g.way=0/\∀ q∈g.way,lvv lvs q<=vl x.2
section
variable {N:List Str} {w M:Str->Rat} {gs:List Gp} {lvs:List (Str × (Int × Int))} {c:Rat} {L:Int × Int} {ns:List Str}
theorem Jd1 (hw:∀ n∈N,0<w n) {l:List Str} (hs:∀ n∈l,n∈N):∀ q∈l,0<=left lvs w q:=fun q a=>by
 unfold left;split
 ·exact Rat.le_refl
 ·exact Rat.le_of_lt (hw q (hs q a))
theorem RInv.start (hM:∀ n∈N,0<=M n) (hR:∀ g∈gs,0<=g.R):RInv N w M gs [] 0 where
 nd:=.nil
 sub:=fun n c=>by cases c
 c0:=Rat.le_refl
 a:=fun x f=>by cases f
 b:=fun n c _=>hM n c
 cc:=fun g h=>by
  have e:sm (used [] w) g.way=0:=JcX fun q _=>by
   unfold used;rw [Jcg (by simp)];grind
  have:=hR g h;rw [e];grind
 d:=fun x f=>by cases f
theorem RInv.round (h:RInv N w M gs lvs c) (hw:∀ n∈N,0<w n) (hs:∀ g∈gs, ∀ n∈g.way,n∈N)
  (hnd:ns.Nodup) (hL1:∀ n∈N,n∉lvs.map (·.1)->vl L<=M n) (hL2:∀ g∈gs,0<sm (left lvs w) g.way->vl L*sm (left lvs w) g.way<=g.R-sm (used lvs w) g.way)
  (hns:∀ n,n∈ns↔n∈N/\n∉lvs.map (·.1)/\(M n=vl L\/∃ g∈gs,n∈g.way/\0<sm (left lvs w) g.way/\vl L*sm (left lvs w) g.way=g.R-sm (used lvs w) g.way)) (hc:c<=vl L) :
  RInv N w M gs (lvs++ns.map fun n=>(n,L)) (vl L):=by
 have o:∀ n∈ns,n∉lvs.map (·.1):=fun n i=>((hns n).mp i).2.1;have C:∀ n∈ns,n∈N:=fun n i=>((hns n).mp i).1;have t:∀ l:List Str,sm (used (lvs++ns.map fun n=>(n,L)) w) l=sm (used lvs w) l+vl L*sm (dlt w ns) l:=fun l=>by
  rw [<- Jeo];exact Jbn fun q _=>Jfs o q
 have F:∀ l:List Str,sm (left (lvs++ns.map fun n=>(n,L)) w) l=sm (left lvs w) l+(-1)*sm (dlt w ns) l:=fun l=>by
  rw [<- Jeo];exact Jbn fun q _=>Je0 o q
 have u:=fun (g:Gp) (f:g∈gs)=>sm_nn (Jd1 (lvs:=lvs) hw (hs g f));have s:∀ g∈gs, ¬ 0<sm (left lvs w) g.way->sm (left lvs w) g.way=0/\∀ q∈g.way,q∈lvs.map (·.1):=fun g f z=>by
  have E:sm (left lvs w) g.way=0:=by have:=u g f;grind
  refine ⟨E,fun q b=>Classical.byContradiction fun y=>z ?_⟩;refine JlI (Jd1 hw (hs g f)) b ?_;unfold left;rw [if_neg y];exact hw q (hs g f q b)
 have key:∀ g∈gs,vl L*sm (left lvs w) g.way<=g.R-sm (used lvs w) g.way:=fun g f=>by
  by_cases p:0<sm (left lvs w) g.way
  ·exact hL2 g f p
  ·have:=h.cc g f;rw [(s g f p).1] at this ⊢;grind
 refine ⟨?_,?_,?_,?_,?_,?_,?_⟩
 ·rw [Jbe];exact nodup_append.mpr ⟨h.nd,hnd,fun x j y D z=>o y D (z ▸ j)⟩
 ·intro n i;rw [Jbe] at i;rcases mem_append.mp i with i | i
  ·exact h.sub n i
  ·exact C n i
 ·exact Rat.le_trans h.c0 hc
 ·intro x j;rcases mem_append.mp j with j | j
  ·have:=h.a x j;exact ⟨this.1,Rat.le_trans this.2.1 hc,this.2.2⟩
  ·obtain ⟨n,i,rfl⟩:=mem_map.mp j;exact ⟨Rat.le_trans h.c0 hc,Rat.le_refl,hL1 n (C n i) (o n i)⟩
 ·intro n i k;rw [Jbe] at k;exact hL1 n i fun z=>k (mem_append.mpr (.inl z))
 ·intro g f;rw [t,F];have:=key g f;grind
 ·intro x j;rcases mem_append.mp j with j | j
  ·rcases h.d x j with e | ⟨g,f,A,r,B,h4⟩
   ·exact .inl e
   ·refine .inr ⟨g,f,A,fun q b=>?_,?_,fun q b=>?_⟩
    ·rw [Jbe];exact mem_append.mpr (.inl (r q b))
    ·rw [t,JcX (a:=dlt w ns) fun q b=>if_neg fun z=>o q z (r q b)];grind
    ·rw [Je1 (r q b)];exact h4 q b
  ·obtain ⟨n,i,rfl⟩:=mem_map.mp j;obtain ⟨H,G,e | ⟨g,f,A,r,B⟩⟩:=(hns n).mp i
   ·exact .inl e.symm
   ·have m:∀ q∈g.way,q∉lvs.map (·.1)->q∈ns:=fun q b v=>(hns q).mpr ⟨hs g f q b,v, .inr ⟨g,f,b,r,B⟩⟩;refine .inr ⟨g,f,A,fun q b=>?_,?_,fun q b=>?_⟩
    ·rw [Jbe];by_cases y:q∈lvs.map (·.1)
     ·exact mem_append.mpr (.inl y)
     ·exact mem_append.mpr (.inr (m q b y))
    ·have e:sm (dlt w ns) g.way=sm (left lvs w) g.way:=Jbn fun q b=>by
      unfold dlt left;by_cases y:q∈lvs.map (·.1)
      ·rw [if_neg fun z=>o q z y,if_pos y]
      ·rw [if_pos (m q b y),if_neg y]
     rw [t,e];grind
    ·by_cases y:q∈lvs.map (·.1)
     ·rw [Je1 y];obtain ⟨x,j,rfl⟩:=mem_map.mp y;rw [Jd4 h.nd j];exact Rat.le_trans (h.a x j).2.1 hc
     ·rw [Jgk y (m q b y)];exact Rat.le_refl
theorem RInv.le (h:RInv N w M gs lvs c) (hL:(∃ n∈N,n∉lvs.map (·.1)/\M n=vl L)\/∃ g∈gs,0<sm (left lvs w) g.way/\vl L*sm (left lvs w) g.way=g.R-sm (used lvs w) g.way):c<=vl L:=by
 rcases hL with ⟨n,hn,hS,e⟩ | ⟨g,hg,p,e⟩
 ·rw [<- e];exact h.b n hn hS
 ·have:=h.cc g hg;rw [<- e] at this;exact (scaled p).mp this
theorem RInv.fair (h:RInv N w M gs lvs c) (hw:∀ n∈N,0<w n) (hs:∀ g∈gs, ∀ n∈g.way,n∈N) (hall:∀ n∈N,n∈lvs.map (·.1)):Fair N w M gs (lvv lvs):=by
 have i:∀ n∈N, ∃ x∈lvs,x.1=n/\lvv lvs n=vl x.2:=fun n f=>by
  obtain ⟨x,b,e⟩:=mem_map.mp (hall n f);have e:x.1=n:=e;exact ⟨x,b,e,by rw [<- e];exact Jd4 h.nd b⟩
 refine ⟨fun n f=>?_,fun n f=>?_,fun g k=>?_,fun n f=>?_⟩
 ·obtain ⟨x,b,_,e⟩:=i n f;rw [e];exact (h.a x b).1
 ·obtain ⟨x,b,j,e⟩:=i n f;rw [e, <- j];exact (h.a x b).2.2
 ·have:=h.cc g k;rw [JcX (a:=left lvs w) fun q l=>if_pos (hall q (hs g k q l))] at this;show sm (used lvs w) g.way<=_;grind
 ·obtain ⟨x,b,j,e⟩:=i n f;rcases h.d x b with q | ⟨g,k,h1,_,h3,h4⟩
  ·exact .inl (by rw [e,q,j])
  ·refine .inr ⟨g,k,j ▸ h1,?_,fun q l=>?_⟩
   ·show sm (used lvs w) g.way=_;grind
   ·rw [e];exact h4 q l
end
def Dv (D:Int) (r:Rat):Prop:=∃ k:Int,r*(D:Rat)=(k:Rat)
section
variable {D E:Int} {r s:Rat}
theorem Dv.int (k:Int):Dv D (k:Rat):=⟨k*D,by push_cast;rfl⟩
theorem Dv.add (h:Dv D r) (k:Dv D s):Dv D (r+s):=by
 obtain ⟨a,c⟩:=h;obtain ⟨b,d⟩:=k;exact ⟨a+b,by push_cast;grind⟩
theorem Dv.sub (h:Dv D r) (k:Dv D s):Dv D (r-s):=by
 obtain ⟨a,c⟩:=h;obtain ⟨b,d⟩:=k;exact ⟨a-b,by push_cast;grind⟩
theorem Dv.mul (h:Dv D r) (k:Int):Dv D (r*(k:Rat)):=by
 obtain ⟨a,b⟩:=h;exact ⟨a*k,by push_cast;grind⟩
theorem Dv.more (h:Dv D r) (k:Int):Dv (D*k) r:=by
 obtain ⟨a,b⟩:=h;exact ⟨a*k,by push_cast;grind⟩
theorem Dv.over {k:Int} (hk:1<=k) (h:Dv D (r*(k:Rat))):Dv (D*k) r:=by
 obtain ⟨a,b⟩:=h;exact ⟨a,by push_cast;grind⟩
theorem Dv.den {t:Int × Int} (h:Dv D (vl t)) (ht:1<=t.2) (hg:Mth.g t.1 t.2=1):t.2∣D:=by
 obtain ⟨a,c⟩:=h;have f:=JaH ht;have e:(t.1:Rat)*D=a*t.2:=by
  unfold vl at c;have : (t.1:Rat)=(t.1:Rat)/t.2*t.2:=by rw [Rat.div_mul_cancel f]
  rw [this];grind
 have e:t.1*D=a*t.2:=by exact_mod_cast e
 refine Mth.Jdn (a:=t.1) (b:=t.2) (d:=D) (Mth.Jcf hg) ⟨a,?_⟩;rw [e,Int.mul_comm]
theorem Dv.fb {t:Int × Int} {m n:Nat} {Q:Int} (h:Dv D (vl t)) (ht:1<=t.2) (hg:Mth.g t.1 t.2=1) (hD:1<=D) (sD:Mth.Sz n D) (h0:0<=vl t) (h1:vl t<=(Q:Rat)) (sQ:Mth.Sz m Q):FB (m+n) n t:=by
 have f:=h.den ht hg;have j:t.2<=D:=Int.le_of_dvd ∅ f;have c:Mth.Sz n t.2:=Nat.lt_of_le_of_lt (by ac_nf:t.2.natAbs<=D.natAbs) sD;have i:=JaH ht;have a:(0:Rat)<(t.2:Rat):=by exact_mod_cast (show 0<t.2 by ac_nf)
 have e:(t.1:Rat)=vl t*t.2:=by unfold vl;rw [Rat.div_mul_cancel i]
 have b:(0:Rat)<=(t.1:Rat):=by rw [e];exact Rat.mul_nonneg h0 (Rat.le_of_lt a)
 have d:(t.1:Rat)<=(Q:Rat)*t.2:=by rw [e];exact Rat.mul_le_mul_of_nonneg_right h1 (Rat.le_of_lt a)
 have b:0<=t.1:=by exact_mod_cast b
 have d:t.1<=Q*t.2:=by exact_mod_cast d
 refine ⟨Nat.lt_of_le_of_lt (?_:t.1.natAbs<=(Q*t.2).natAbs) (sQ.mul c),c,ht,hg⟩;ac_nf
end
theorem Jkn {kvs:List (Key × V)} {vs:List (Key × Value)} (rel:KV kvs vs):vs.map (·.1)=kvs.map (·.1):=by
 unfold KV at rel;induction rel with
 | nil=>rfl
 | cons h1 _ ih=>rw [map_cons,map_cons,ih,h1.1]
theorem Jkl {P:Program} {w:World} {z:Str} {v:Value} (h:(Jaw P w).is (Sum.inr z) v=true):∃ t,v=.str z t:=by
 rcases JaN (show keyIs (Sum.inr z) v=true from h) with ⟨b,hb,_⟩ | ⟨y,t,hy,rfl⟩
 ·cases hb
 ·cases hy;exact ⟨t,rfl⟩
def Itk (d:Addr) (od:Obj) (kvs:List (Key × V)) (ss:List Str):It :=
 ⟨fun i H=>H d=some (.frz od (.dK kvs))/\i<ss.length,fun i H x H'=>H'=H/\(ss.map V.str)[i]?=some x,fun i H=>H d=some (.frz od (.dK kvs))/\ss.length<=i⟩
theorem JiQ {P:Program} {w:World} {K:W.Frag} {tg:Expr} {d it:Addr} {od:Obj} {kvs:List (Key × V)} {ss:List Str} {vs:List (Key × Value)} {ep:Nat} (rel:KV kvs vs) (hk:kvs.map (·.1)=ss.map Sum.inr) (hd:∀ h:Heap,h.get? d=some od->h.DictAt (Jaw P w) d vs ep) :
  Turn P w K tg (Itk d od kvs ss) [it] it (fun i h=>h.IsKeyIter it d i vs.length ep) where
 mem:=by simp
 obj:=fun i h a b j=>by
  obtain rfl:b=it:=by simpa using j
  obtain ⟨o,e,c,z⟩:=a;exact ⟨o,e,fun v q=>by rw [z] at q;cases q⟩
 keep:=fun i h y a k=>a.at fun o e=>k it (by simp) o e
 item:=by
  intro X G L A O i f s σ H E I u a J;subst G L A;obtain ⟨l,D⟩:=J;obtain ⟨B,C,T,M,N,F⟩:=u it (by simp);have g:=(I.hok d _ l).1;have R:=rel.length;have U:kvs.length=ss.length:=by simpa using congrArg List.length hk
  obtain ⟨⟨k,Y⟩,m⟩:∃ p,vs[i]?=some p:=⟨_,List.getElem?_eq_getElem (show i<vs.length by ac_nf)⟩;have x:(vs.map (·.1))[i]?=some k:=by rw [List.getElem?_map,m];rfl
  rw [Jkn rel,hk,List.getElem?_map,List.getElem?_eq_getElem D] at x;have x:Sum.inr ss[i]=k:=Option.some.inj x;subst x;refine wpAny_pyNext_dict_item a (hd _ g) m fun key y r n Q=>?_;obtain ⟨t,rfl⟩:=Jkl r;have I1:Inv X f σ H { s with heap:=y }:=I.turned (t':=s.toks) (fun b o j e=>(Q.2 b j).trans e) B C M N F;obtain ⟨o,e,c,z⟩:=id n;exact ⟨_,rfl,go_of (s:={ s with heap:=y }) e c z ⋯ ⟨.str ss[i],H,I1,⟨t,rfl⟩,⟨rfl,by rw [List.getElem?_map,List.getElem?_eq_getElem D];rfl⟩,n,fun b j=>(u b j).1⟩⟩
 done:=by
  intro X G L A O i f s σ H E I u a J;subst G L A;obtain ⟨l,D⟩:=J;obtain ⟨B,C,T,M,N,F⟩:=u it (by simp);have g:=(I.hok d _ l).1;have R:=rel.length;have U:kvs.length=ss.length:=by simpa using congrArg List.length hk
  exact wpAny_pyNext_dict_end (I.ok.hd O) a (hd _ g) (List.getElem?_eq_none ∅) fun y S=>⟨rfl,I.turned (t':=s.toks) (fun b o j e=>S b o j e) B C M N F⟩
 self:=fun _ _ _ _ _ a h=>wpAny_pyIter_keyiter a h
section
variable {X:Cx} {tg:Expr}
def iKeys (td:TE):TI:=fun σ H R=>td σ H fun x H1=>∃ (d:Addr) (kvs:List (Key × V)) (ss:List Str),x=.ref d/\H1 d=some (.dK kvs)/\kvs.map (·.1)=ss.map Sum.inr/\∀ od,R (Itk d od kvs ss) (upd H1 d (.frz od (.dK kvs)))
theorem Jiq {o:Expr} {td:TE} (ho:PE X o td):PI X tg o (iKeys td):=by
 intro c s σ H R I h;refine thn (ho c s σ H _ I h) fun v f ζ=>?_;obtain ⟨y,A,I1,n,d,kvs,B,p,e,x,l⟩:=ζ;subst p;obtain rfl:v=Value.ref d:=n;obtain ⟨C,t,vs,g,r⟩:=dk_of I1.hok e;obtain ⟨ep,j⟩:=r.dictAt;obtain ⟨k,u,a,rest⟩:=id j;refine wpAny_pyIter_dict (knd:=Jaw X.prog X.w) (d:=d) (kvs:=vs) (ep:=ep) t j ?_;have m:∀ b o,f.heap.get? b=some o->(f.heap.push { cls:=.type "dict_keyiterator",data:=.fields #[.ref d, .int 0 0, .int vs.length 0, .int ep 0] }).get? b=some o:=fun b o z=>Heap.get?_push_of_some _ z;have I2:=(I1.freeze e a).kept (t':=f.toks) m;refine ⟨_,[_],_,_,_,rfl,I2,JiQ (vs:=vs) (ep:=ep) g x (fun h q=>⟨k,u,q,rest⟩),⟨_,Heap.get?_push_size _ rfl,rfl,rfl⟩,fun b i=>?_,l k⟩;obtain rfl:=mem_singleton.mp i;exact I1.fpOk (Nat.le_refl _) ((I1.freeze e a).hok.fresh (Nat.le_refl _))
def JjT (ts:TS):TS:=fun D σ H=>∃ d kvs,H d=some (.dK kvs)/\ts { nx:=fun σ' H'=>∃ od kvs',H' d=some (.frz od (.dK kvs'))/\D.nx σ' (upd H' d (.dK kvs')),rt:=fun _ _=>False } σ H
theorem Inv.thawS {pins:List (Addr × Obj)} {σ σ':List (Option V)} {H H':Hp} {s s':Shared} {d:Addr} {kvs kvs':List (Key × V)} {od:Obj} (I:Inv X pins σ H s) (e:H d=some (.dK kvs)) (I':Inv X pins σ' H' s') (e':H' d=some (.frz od (.dK kvs'))):Inv X pins σ' (upd H' d (.dK kvs')) s':=by
 have m:∀ {b:Addr} {o:HO},H' b=some o->(∀ u v,o≠.frz u v)->b≠d:=fun q h z=>by rw [z,e'] at q;cases q;exact h _ _ rfl
 refine ⟨I'.ok,I'.os,I'.bare,⟨I'.base.keep,I'.base.slot,fun b o q n A=>?_,I'.base.there,fun b j q=>?_,fun b o u q=>?_,fun b B q=>?_⟩,I'.loc,I'.cell,?_,fun x c z=>?_,fun p t=>?_,fun a o q=>?_,I'.len⟩
 ·have:=I'.base.free b o q n A;rw [Jag (fun z=>by rw [z,e'] at this;cases this)];exact this
 ·have:=I'.base.tups b j q;rw [Jag (m this (by intro u v z;cases z))];exact this
 ·have f:=I'.base.frzs b o u q;have g:=I.base.frzs b o u q;rw [Jag (fun z=>by rw [z,e] at g;cases g)];exact f
 ·obtain ⟨l,f⟩:=I'.base.tbls b B q;exact ⟨l,by rw [Jag (m f (by intro u v z;cases z))];exact f⟩
 ·have:=I'.free;rw [Jag (fun z=>by rw [z,e'] at this;cases this)];exact this
 ·have:=I'.freeC x c z;rw [Jag (fun z=>by rw [z,e'] at this;cases this)];exact this
 ·obtain ⟨f,g,y⟩:=I'.pin p t;exact ⟨f,by rw [Jag (fun z=>by rw [z,e'] at g;cases g)];exact g,y⟩
 ·have k:∀ r b,H' b=some (.own r)->upd H' d (.dK kvs') b=some (.own r):=fun r b q=>by
   rw [Jag (m q (by intro u v z;cases z))];exact q
  have i:∀ b j,H' b=some (.tup j)->upd H' d (.dK kvs') b=some (.tup j):=fun b j q=>by
   rw [Jag (m q (by intro u v z;cases z))];exact q
  by_cases c:a=d
  ·subst c;rw [Jak] at q;cases q;have f:ObjOk X.prog X.w H' s'.heap a (.dK kvs'):=(I'.hok a _ e').2;exact f.stay (fun _ _ _ z=>z) (k a) i
  ·rw [Jag c] at q;exact (I'.hok a o q).stay (fun _ _ _ z=>z) (k a) i
theorem JkL {st:Stmt} {ts:TS} (h:PS X st ts):PS X st (JjT ts):=by
 intro b s σ H D I ⟨d,g,j,q⟩;refine wpAny_mono (h b s σ H _ I q) (fun f k z=>?_) fun _ _ z=>z;cases f with
 | next=>
  obtain ⟨σ',c,I1,l,e,i,a⟩:=z;exact ⟨σ',_,I.thawS j I1 i,a⟩
 | brk=>obtain ⟨σ',c,I1,a⟩:=z;exact a.elim
 | cont=>obtain ⟨σ',c,I1,a⟩:=z;exact a.elim
 | ret v=>obtain ⟨y,σ',c,I1,r,a⟩:=z;exact a.elim
theorem ps_no {st:Stmt}:PS X st (fun _ _ _=>False):=fun _ _ _ _ _ _ h=>h.elim
def tSumV (td:TE):TE:=fun σ H Q=>td σ H fun x H1=>∃ (d:Addr) (kvs:List (Key × V)) (ns:List Int),x=.ref d/\H1 d=some (.dK kvs)/\kvs.map (·.2)=ns.map V.int/\Q (.int ns.sum) H1
theorem Jiu (ns:List Int):∀ k,k<=ns.length->preSum (fun i=>ns.getD i 0) k=(ns.take k).sum
 | 0,_=>by simp [preSum]
 | k+1,h=>by
  rw [take_sum_succ ns k ∅, <- Jiu ns k ∅];rfl
theorem JkH {o:Expr} {td:TE} {p1 apos cpos pos:Pos} {x:Str} (hc:X.calm=true) (hx:x="sum") (hg:Gl X x) (hm:X.mg x=none) (hv:bootBuiltins x=some (.builtin "sum")) (ho:PE X o td)
  (hb:attributeBase o "values" X.env (eval o X.env)=eval o X.env:=by rfl) (hn:(apos.endLine == cpos.line)=true:=by rfl) :
  PE X (.Call (.Name x p1) [.Call (.Attribute o "values" apos) [] [] cpos] [] pos) (tSumV td):=by
 intro g s σ H Q I h;have N:x≠"__name__":=by rw [hx];decide
 have M:(x == ("__debug__" : Str))=false:=by rw [hx];decide
 refine wpAny_Call_Name_kw (JeL I hg hm hv ?_ N M);refine PyProof.Rows.callWith_builtin1 ?_ rfl rfl;show wpAny _ _ (spliced ((false,eval (.Call (.Attribute o "values" apos) [] [] cpos) X.env)::backTo pos (starEach [] X.env))) _ _ s;refine Calls.spliced_cons ?_;refine wpAny_Call_method0_late hb hn (thn (ho g s σ H _ I h) fun v n ζ=>?_);obtain ⟨y,D,I1,K,d,kvs,a,L,e,m,E⟩:=ζ;subst L;obtain rfl:v=Value.ref d:=K;obtain ⟨r,J,U⟩:=JfG I1 (.inl ⟨kvs, .inl e⟩);obtain ⟨hz,_,l,c,t⟩:=dk_of I1.hok e;refine ⟨"dict","dict.values",PySem.F.plainAttrs_dict,PySem.F.slot_dict_values,PySem.F.type_dict_values,r,J,Calls.callWith_builtin rfl (PySem.evalArgs_none ?_)⟩;refine call_meetsIn PySem.F.slot_dict_values r PySem.F.entry_dict_values (PySem.F.args_dict_values_1 _) (meets_dict_values (Jaw X.prog X.w) d U) ⟨⟨l,t⟩,?_⟩;refine Calls.spliced_nil ?_;obtain ⟨ep,p⟩:=t.dictAt;have S:X.A.in1.handled=none:=by have:=I.ok.hd hc;simp [this]
 have B:d<n.heap.objs.size:=p.lt_size;have q:(n.heap.push { cls:=.type "dict_values",data:=.fields #[.ref d] }).objs.size=n.heap.objs.size+1:=Heap.size_push ..;refine call_sum_walkG (wpAny_pyIter_values (knd:=Jaw X.prog X.w) (v:=n.heap.objs.size) (d:=d) (kvs:=l) (ep:=ep) ⟨_,Heap.get?_push_size _ rfl,rfl,rfl⟩ (p.push _) ?_);have Z:=c.length;have V:a.length=kvs.length:=by simpa using (congrArg List.length m).symm
 refine ⟨_,_,_,_,_,_,fun i=>a.getD i 0,rfl,Walks.dictValues (knd:=Jaw X.prog X.w) S _ d (by rw [q];exact Nat.ne_of_lt (Nat.lt_succ_of_lt B)) l ep,⟨⟨_,Heap.get?_push_size _ rfl,rfl,rfl⟩,(p.push _).push _⟩,fun b f=>?_,fun i u P=>?_,fun h' R t' k=>?_⟩
 ·simp only [mem_cons,not_mem_nil,or_false] at f;show b<(Heap.push _ _).objs.size;rw [Heap.size_push];rcases f with rfl | rfl
  ·exact Nat.lt_succ_self _
  ·rw [q];exact Nat.lt_succ_of_lt (Nat.lt_succ_of_lt B)
 ·obtain ⟨W,C⟩:=P;have O:=JiT c;have T:(l.map (·.2))[i]?=some u:=by rw [List.getElem?_map,C];rfl
  have Y:i<kvs.length:=by
   have:=(List.getElem?_eq_some_iff.mp C).1;ac_nf
  obtain ⟨u',j,G⟩:=O.get (i:=i) (x:=.int (a.getD i 0)) (by rw [m,List.getElem?_map,List.getElem?_eq_getElem (show i<a.length by ac_nf)];simp [List.getD_eq_getElem?_getD,List.getElem?_eq_getElem (show i<a.length by ac_nf)]);rw [T] at j;cases j;exact G
 ·rw [show l.length=a.length by ac_nf,Jiu a _ (Nat.le_refl _),take_of_length_le (Nat.le_refl _)];exact ⟨.int _,D,I1.kept (t':=R) (fun b o z=>k b o (by simp only [mem_cons,not_mem_nil,or_false];have:=Heap.lt_size z;rw [q];exact Nat.ne_of_lt (Nat.lt_succ_of_lt this)) (Heap.get?_push_of_some _ (Heap.get?_push_of_some _ z))),⟨_,rfl⟩,E⟩
end
section
variable {k:Nat} {cs:List (Nat × Str)} {g:TG} {te tl td:TE} {tt:TT} {σ : St} {H H1:Hp} {Q:VK} {d:Addr} {od:Obj} {kvs:List (Key × V)} {ss:List Str}
theorem y88y:tSumV td σ H Q=td σ H fun x H1=>∃ (d:Addr) (kvs:List (Key × V)) (ns:List Int),x=.ref d/\H1 d=some (.dK kvs)/\kvs.map (·.2)=ns.map V.int/\Q (.int ns.sum) H1:=rfl
theorem y37y:JfZ k cs (iKeys td) g tt te σ H Q=td σ H fun x H1=>∃ (d1:Addr) (kvs1:List (Key × V)) (ss:List Str),x=.ref d1/\H1 d1=some (.dK kvs1)/\kvs1.map (·.1)=ss.map Sum.inr/\∀ od,JbW (Itk d1 od kvs1 ss) k cs g tt te σ Q (upd H1 d1 (.frz od (.dK kvs1))):=rfl
theorem y38y:tThaw (JfZ k cs (iKeys td) g tt te) σ H Q=∃ d kvs,H d=some (.dK kvs)/\td σ H fun x H1=>∃ (d1:Addr) (kvs1:List (Key × V)) (ss:List Str),x=.ref d1/\H1 d1=some (.dK kvs1)/\kvs1.map (·.1)=ss.map Sum.inr/\∀ od,JbW (Itk d1 od kvs1 ss) k cs g tt te σ (fun v H'=>∃ od kvs',H' d=some (.frz od (.dK kvs'))/\Q v (upd H' d (.dK kvs'))) (upd H1 d1 (.frz od (.dK kvs1))):=rfl
theorem JbW.keys (Pv:Nat->List V->Hp->Prop) (h0:Pv 0 [] H1) (hl:∀ i ys H',i<=ss.length->Pv i ys H'->H' d=some (.frz od (.dK kvs))/\ys.length<=sizeLine)
  (hs:∀ i z ys H2,ss[i]?=some z->Pv i ys H2->g (.str z) (List.replicate k none++JaB cs σ) H2 fun σ4 H4=>tt σ4 H4 fun b H5=>if b=true then te σ4 H5 fun y H6=>Pv (i+1) (ys++[y]) H6 else Pv (i+1) ys H5) (hd:∀ ys H2,Pv ss.length ys H2->∀ p,H2 p=none->Q (.ref p) (upd H2 p (.lst ys))) :
  JbW (Itk d od kvs ss) k cs g tt te σ Q H1:=by
 refine ⟨fun i m ys H'=>Pv i ys H'/\i<=ss.length/\m=ss.length-i,⟨_,h0,Nat.zero_le _,rfl⟩,?_⟩;rintro i m ys H2 ⟨f,o,rfl⟩;obtain ⟨l,r⟩:=hl i ys H2 o f;refine ⟨r,?_⟩;by_cases c:i<ss.length
 ·refine .inr ⟨⟨l,c⟩,?_⟩;rintro x u ⟨rfl,j⟩;rw [List.getElem?_map] at j;obtain ⟨z,s,rfl⟩:=Option.map_eq_some_iff.mp j;have w:∀ (h:List V) (H5:Hp),Pv (i+1) h H5=∃ m',m'<ss.length-i/\Pv (i+1) h H5/\i+1<=ss.length/\m'=ss.length-(i+1):=fun h H5=>
   propext ⟨fun q=>⟨_,Nat.sub_lt_sub_left c (Nat.lt_succ_self i),q,c,rfl⟩,fun ⟨_,_,q,_⟩=>q⟩
  have n:(fun (y:V) (H6:Hp)=>Pv (i+1) (ys++[y]) H6)=fun y H6=>∃ m',m'<ss.length-i/\Pv (i+1) (ys++[y]) H6/\i+1<=ss.length/\m'=ss.length-(i+1):=by
   funext y H6
   exact w _ _
  have e:(fun (σ4:St) (H4:Hp)=>tt σ4 H4 fun b H5=>if b=true then te σ4 H5 fun y H6=>Pv (i+1) (ys++[y]) H6 else Pv (i+1) ys H5)=fun σ4 H4=>tt σ4 H4 fun b H5=>if b=true then te σ4 H5 fun y H6=>∃ m',m'<ss.length-i/\Pv (i+1) (ys++[y]) H6/\i+1<=ss.length/\m'=ss.length-(i+1) else ∃ m',m'<ss.length-i/\Pv (i+1) ys H5/\i+1<=ss.length/\m'=ss.length-(i+1):=by
   funext σ4 H4
   congr 1
   funext b H5
   by_cases a:b=true
   ·rw [if_pos a,if_pos a, <- n]
   ·rw [if_neg a,if_neg a];exact w ys H5
  have:=hs i z ys _ s f;rw [e] at this;exact this
 ·have t:i=ss.length:=by ac_nf
  subst t;exact .inl ⟨⟨l,Nat.le_refl _⟩,hd ys H2 f⟩
theorem y8by {ts:TS} {En:Ends}:JjT ts En σ H=∃ d kvs,H d=some (.dK kvs)/\ts { nx:=fun σ' H'=>∃ od kvs',H' d=some (.frz od (.dK kvs'))/\En.nx σ' (upd H' d (.dK kvs')),rt:=fun _ _=>False } σ H:=rfl
theorem DGet.f {H:Hp} {a:Addr} {kvs:List (Key × V)} {k:Key} {od:Obj} (e:H a=some (.frz od (.dK kvs))):DGet H a (kV k) (valV kvs k):=.inl ⟨kvs,k, .inr ⟨od,e⟩,rfl,rfl⟩
end
def mulF (a c:Int × Int):Int × Int:=(Mth.top (a.1*c.1) (a.2*c.2),Mth.bot (a.1*c.1) (a.2*c.2))
def divF (a c:Int × Int):Int × Int:=(Mth.top (a.1*c.2) (a.2*c.1),Mth.bot (a.1*c.2) (a.2*c.1))
def subF (a c:Int × Int):Int × Int:=(Mth.top (a.1*c.2-c.1*a.2) (a.2*c.2),Mth.bot (a.1*c.2-c.1*a.2) (a.2*c.2))
structure Lo (a:Int × Int):Prop where
 b1:1<=a.2
 g1:Mth.g a.1 a.2=1
theorem FB.lo {A B:Nat} {a:Int × Int} (h:FB A B a):Lo a:=⟨h.b1,h.g1⟩
theorem Lo.inj {a c:Int × Int} (h:Lo a) (k:Lo c) (e:vl a=vl c):a=c:=JjW h.b1 k.b1 h.g1 k.g1 e
theorem JfI {t b:Int} (hb:1<=b):Lo (Mth.top t b,Mth.bot t b):=⟨Mth.JcQ ∅,Mth.g_low ∅⟩
section
variable {a c:Int × Int}
theorem JbO {x y:Int} (hx:1<=x) (hy:1<=y):1<=x*y:=by
 have:=Int.mul_pos (show 0<x by ac_nf) (show 0<y by ac_nf);ac_nf
theorem JjX (ha:1<=a.2) (hc:1<=c.2):vl (mulF a c)=vl a*vl c:=by
 unfold mulF;rw [JiV (JbO ha hc)];have b:=JaH ha;have d:=JaH hc;unfold vl;push_cast;generalize (a.1:Rat)=x at *;generalize (a.2:Rat)=y at *;generalize (c.1:Rat)=z at *;generalize (c.2:Rat)=t at *;grind
theorem JjV (ha:1<=a.2) (hc:1<=c.1) (hd:1<=c.2):vl (divF a c)=vl a/vl c:=by
 unfold divF;rw [JiV (JbO ha hc)];have b:=JaH ha;have d:=JaH hc;have e:=JaH hd;unfold vl;push_cast;generalize (a.1:Rat)=x at *;generalize (a.2:Rat)=y at *;generalize (c.1:Rat)=z at *;generalize (c.2:Rat)=t at *;grind
theorem JlQ (ha:1<=a.2) (hc:1<=c.2):vl (subF a c)=vl a-vl c:=by
 unfold subF;rw [JiV (JbO ha hc)];have b:=JaH ha;have d:=JaH hc;unfold vl;push_cast;generalize (a.1:Rat)=x at *;generalize (a.2:Rat)=y at *;generalize (c.1:Rat)=z at *;generalize (c.2:Rat)=t at *;grind
theorem Je2 (ha:1<=a.2) (hc:1<=c.2):Lo (mulF a c):=JfI (JbO ha hc)
theorem Jkb (ha:1<=a.2) (hc:1<=c.1):Lo (divF a c):=JfI (JbO ha hc)
theorem JkX (ha:1<=a.2) (hc:1<=c.2):Lo (subF a c):=JfI (JbO ha hc)
theorem Jf6 (k:Int):vl (k,1)=(k:Rat):=by
 unfold vl;have : ((1:Int):Rat)=1:=rfl;grind
theorem Jft:vl (0,1)=0:=Jf6 0
end
structure LidD where
 nm:Str
 rest:Int × Int
 ws:List (Str × Int)
 load:Int
 last:Int × Int
def wtOf (ws:List (Str × Int)) (n:Str):Option Int:=(ws.find? fun x=>decide (x.1=n)).map (·.2)
def LidD.settle (e:LidD) (n:Str) (L:Int × Int):LidD:=match wtOf e.ws n with
 | none=>e
 | some k=>{ e with rest:=subF e.rest (mulF L (k,1)),load:=e.load-k,last:=L }
theorem JgJ {ws:List (Str × Int)} {n:Str}:wtOf ws n=none↔n∉ws.map (·.1):=by
 unfold wtOf;rw [Option.map_eq_none_iff,List.find?_eq_none];constructor
 ·intro h z;obtain ⟨x,a,e⟩:=mem_map.mp z;have:=h x a;simp [e] at this
 ·intro h x a;have : x.1≠n:=fun z=>h (mem_map.mpr ⟨x,a,z⟩);simpa using this
theorem JiY {ws:List (Str × Int)} {n:Str} {k:Int} (h:wtOf ws n=some k):(n,k)∈ws:=by
 unfold wtOf at h;obtain ⟨x,b,e⟩:=Option.map_eq_some_iff.mp h;have c:=List.mem_of_find?_eq_some b;have d:=List.find?_some b;have a:x.1=n:=by simpa using d
 obtain ⟨y,z⟩:=x;have e:z=k:=e;have a:y=n:=a;subst e;subst a;exact c
structure LidOk (w:Str->Rat) (g:Gp) (lvs:List (Str × (Int × Int))) (e:LidD):Prop where
 pm:(e.ws.map (·.1)).Perm g.way
 nd:(e.ws.map (·.1)).Nodup
 wt:∀ x∈e.ws,w x.1=(x.2:Rat)/\1<=x.2
 rest:vl e.rest=g.R-sm (used lvs w) g.way
 load:(e.load:Rat)=sm (left lvs w) g.way
 low:Lo e.rest
 llow:Lo e.last
 l1:∀ n∈g.way,n∈lvs.map (·.1)->lvv lvs n<=vl e.last
 l2:(∃ n∈g.way,n∈lvs.map (·.1))->∃ n∈g.way,n∈lvs.map (·.1)/\lvv lvs n=vl e.last
theorem JjO {w:Str->Rat} {m:Str}:∀ {l:List Str},l.Nodup->sm (dlt w [m]) l=if m∈l then w m else 0
 | [],_=>by simp [sm]
 | n::l,h=>by
  rw [nodup_cons] at h;simp only [sm,JjO h.2];unfold dlt;by_cases c:n=m
  ·subst c;rw [if_neg h.1];simp;grind
  ·have c':m≠n:=fun z=>c z.symm;simp only [mem_singleton,mem_cons,c,c',false_or,if_false];grind
section
variable {w:Str->Rat} {g:Gp} {lvs:List (Str × (Int × Int))} {e:LidD} {m:Str} {L:Int × Int}
theorem LidOk.settle (h:LidOk w g lvs e) (hnd:(lvs.map (·.1)).Nodup) (hm:m∉lvs.map (·.1)) (hL:Lo L) (hle:∀ x∈lvs,vl x.2<=vl L):LidOk w g (lvs++[(m,L)]) (e.settle m L):=by
 have u:∀ n∈[m],n∉lvs.map (·.1):=fun n d=>by rw [mem_singleton.mp d];exact hm
 have p:g.way.Nodup:=h.pm.nodup_iff.mp h.nd;have j:sm (used (lvs++[(m,L)]) w) g.way=sm (used lvs w) g.way+vl L*sm (dlt w [m]) g.way:=by
  rw [<- Jeo];exact Jbn fun q _=>Jfs (ns:=[m]) u q
 have l:sm (left (lvs++[(m,L)]) w) g.way=sm (left lvs w) g.way+(-1)*sm (dlt w [m]) g.way:=by
  rw [<- Jeo];exact Jbn fun q _=>Je0 (ns:=[m]) u q
 have nms:(lvs++[(m,L)]).map (·.1)=lvs.map (·.1)++[m]:=Jbe (ns:=[m]);have i:∀ n∈lvs.map (·.1),lvv (lvs++[(m,L)]) n=lvv lvs n:=fun n d=>Je1 (ns:=[m]) d;have o:lvv (lvs++[(m,L)]) m=vl L:=Jgk (ns:=[m]) hm (by simp);rw [JjO p] at j l;unfold LidD.settle;cases hw:wtOf e.ws m with
 | none=>
  have s:m∉g.way:=fun z=>(JgJ.mp hw) (h.pm.mem_iff.mpr z);rw [if_neg s] at j l;refine ⟨h.pm,h.nd,h.wt,?_,?_,h.low,h.llow,fun n d b=>?_,fun ⟨n,d,b⟩=>?_⟩
  ·rw [j,h.rest];grind
  ·rw [l,h.load];grind
  ·rw [nms] at b;rcases mem_append.mp b with b | b
   ·rw [i n b];exact h.l1 n d b
   ·rw [mem_singleton.mp b] at d;exact absurd d s
  ·rw [nms] at b;rcases mem_append.mp b with b | b
   ·obtain ⟨q,C,A,B⟩:=h.l2 ⟨n,d,b⟩;exact ⟨q,C,by rw [nms];exact mem_append.mpr (.inl A),by rw [i q A];exact B⟩
   ·rw [mem_singleton.mp b] at d;exact absurd d s
 | some k=>
  have f:=JiY hw;have v:m∈g.way:=h.pm.mem_iff.mp (mem_map.mpr ⟨_,f,rfl⟩);have D:=h.wt _ f;have r:w m=(k:Rat):=D.1;rw [if_pos v,r] at j l;have y:=Je2 (a:=L) (c:=(k,1)) hL.b1 (Int.le_refl 1);refine ⟨h.pm,h.nd,h.wt,?_,?_,JkX h.low.b1 y.b1,hL,fun n d b=>?_,fun _=>⟨m,v,by rw [nms];simp,o⟩⟩
  ·show vl (subF e.rest (mulF L (k,1)))=_;rw [JlQ h.low.b1 y.b1,JjX hL.b1 (Int.le_refl 1),Jf6,j,h.rest];grind
  ·show ((e.load-k:Int):Rat)=_;rw [l, <- h.load];push_cast;grind
  ·rw [nms] at b;rcases mem_append.mp b with b | b
   ·rw [i n b];obtain ⟨x,t,rfl⟩:=mem_map.mp b;rw [Jd4 hnd t];exact hle x t
   ·rw [mem_singleton.mp b,o];exact Rat.le_refl
end
structure SInv (N:List Str) (w:Str->Rat) (gs:List Gp) (lvs:List (Str × (Int × Int))) (L:Int × Int):Prop where
 nd:(lvs.map (·.1)).Nodup
 sub:∀ n∈lvs.map (·.1),n∈N
 a:∀ x∈lvs,0<=vl x.2/\vl x.2<=vl L
 L0:0<=vl L
 cc:∀ g∈gs,vl L*sm (left lvs w) g.way<=g.R-sm (used lvs w) g.way
section
variable {N:List Str} {w:Str->Rat} {gs:List Gp} {lvs:List (Str × (Int × Int))} {L:Int × Int} {m:Str}
theorem SInv.step (h:SInv N w gs lvs L) (hg:∀ g∈gs,g.way.Nodup) (hm:m∈N) (hn:m∉lvs.map (·.1)):SInv N w gs (lvs++[(m,L)]) L:=by
 have e:∀ n∈[m],n∉lvs.map (·.1):=fun n b=>by rw [mem_singleton.mp b];exact hn
 have nms:(lvs++[(m,L)]).map (·.1)=lvs.map (·.1)++[m]:=Jbe (ns:=[m]);refine ⟨?_,fun n b=>?_,fun x c=>?_,h.L0,fun g d=>?_⟩
 ·rw [nms];exact nodup_append.mpr ⟨h.nd,by simp,fun x c y i z=>hn (by rw [mem_singleton.mp i] at z;rw [<- z];exact c)⟩
 ·rw [nms] at b;rcases mem_append.mp b with q | q
  ·exact h.sub n q
  ·rw [mem_singleton.mp q];exact hm
 ·rcases mem_append.mp c with c | c
  ·exact h.a x c
  ·rw [mem_singleton.mp c];exact ⟨h.L0,Rat.le_refl⟩
 ·have j:sm (used (lvs++[(m,L)]) w) g.way=sm (used lvs w) g.way+vl L*sm (dlt w [m]) g.way:=by
   rw [<- Jeo];exact Jbn fun q _=>Jfs (ns:=[m]) e q
  have f:sm (left (lvs++[(m,L)]) w) g.way=sm (left lvs w) g.way+(-1)*sm (dlt w [m]) g.way:=by
   rw [<- Jeo];exact Jbn fun q _=>Je0 (ns:=[m]) e q
  have:=h.cc g d;rw [j,f];grind
theorem SInv.range (h:SInv N w gs lvs L) (hw:∀ n∈N,0<w n) (hs:∀ g∈gs, ∀ n∈g.way,n∈N) {g:Gp} (hg:g∈gs):0<=g.R-sm (used lvs w) g.way/\g.R-sm (used lvs w) g.way<=g.R:=by
 have f:=h.cc g hg;have d:=sm_nn (Jd1 (lvs:=lvs) hw (hs g hg));have i:=Rat.mul_nonneg h.L0 d;have j:0<=sm (used lvs w) g.way:=sm_nn fun q e=>by
  unfold used;refine Rat.mul_nonneg ?_ (Rat.le_of_lt (hw q (hs g hg q e)));by_cases c:q∈lvs.map (·.1)
  ·obtain ⟨x,b,rfl⟩:=mem_map.mp c;rw [Jd4 h.nd b];exact (h.a x b).1
  ·rw [Jcg c];exact Rat.le_refl
 grind
end
theorem Dv.sm {D:Int} {a:Str->Rat}:∀ {l:List Str},(∀ q∈l,Dv D (a q))->Dv D (L2.sm a l)
 | [],_=>Dv.int 0
 | n::l,h=>(h n (by simp)).add (Dv.sm (l:=l) fun q hq=>h q (by simp [hq]))
theorem JhT {D:Int} {b:Rat} {w:Str->Rat} {g:Gp} {lvs:List (Str × (Int × Int))} (hR:Dv D (g.R/b)) (hw:∀ n∈g.way, ∃ k:Int,w n=(k:Rat)) (hl:∀ x∈lvs,Dv D (vl x.2/b)) (hnd:(lvs.map (·.1)).Nodup):Dv D ((g.R-sm (used lvs w) g.way)/b):=by
 have e:(g.R-sm (used lvs w) g.way)/b=g.R/b-sm (fun n=>lvv lvs n/b*w n) g.way:=by
  have : sm (used lvs w) g.way/b=sm (fun n=>lvv lvs n/b*w n) g.way:=by
   generalize g.way=l;induction l with
   | nil=>simp only [sm];grind
   | cons n l ih=>
    simp only [sm, <- ih];unfold used;grind
  rw [<- this];grind
 rw [e];refine hR.sub (Dv.sm fun q f=>?_);obtain ⟨k,d⟩:=hw q f;rw [d];refine Dv.mul ?_ k;by_cases c:q∈lvs.map (·.1)
 ·obtain ⟨x,a,rfl⟩:=mem_map.mp c;rw [Jd4 hnd a];exact hl x a
 ·rw [Jcg c];have : (0:Rat)/b=((0:Int):Rat):=by
   show (0:Rat)/b=0;grind
  rw [this];exact Dv.int 0
theorem Dv.up {D b:Int} {r:Rat} (hb:1<=b) (h:Dv D (r/(b:Rat))):Dv D r:=by
 have:=h.mul b
 rwa [Rat.div_mul_cancel (JaH hb)] at this
def wsK (ws:List (Str × Int)):List (Key × V):=ws.map fun p=>(Sum.inr p.1, .int p.2)
theorem JgI (n:Str):∀ ws:List (Str × Int),valV (wsK ws) (Sum.inr n)=(wtOf ws n).map V.int
 | []=>rfl
 | x::ws=>by
  have ih:=JgI n ws;unfold wsK wtOf at ih ⊢;rw [map_cons,List.find?_cons];by_cases c:x.1=n
  ·rw [Jbb (by rw [c]),decide_eq_true c];rfl
  ·rw [Jbf (fun z=>c (by injection z)),decide_eq_false c];exact ih
theorem Jjz (ws:List (Str × Int)):(wsK ws).map (·.1)=(ws.map (·.1)).map Sum.inr:=by
 unfold wsK;rw [map_map,map_map];rfl
theorem JjA (ws:List (Str × Int)):(wsK ws).map (·.2)=(ws.map (·.2)).map V.int:=by
 unfold wsK;rw [map_map,map_map];rfl
theorem Jg1:∀ (ps acc:List (Str × V)),((acc++ps).map (·.1)).Nodup->ps.foldl (fun l p=>putK l (Sum.inr p.1) p.2) (acc.map fun p=>((Sum.inr p.1:Key),p.2))=(acc++ps).map fun p=>((Sum.inr p.1:Key),p.2)
 | [],acc,_=>by simp
 | p::ps,acc,h=>by
  have ea:acc++p::ps=(acc++[p])++ps:=by simp
  rw [List.foldl_cons];have nn:valV (acc.map fun p=>((Sum.inr p.1:Key),p.2)) (Sum.inr p.1)=none:=by
   cases e:valV (acc.map fun p=>((Sum.inr p.1:Key),p.2)) (Sum.inr p.1) with
   | none=>rfl
   | some v=>
    have:=Jh4.mp (show (valV (acc.map fun p=>((Sum.inr p.1:Key),p.2)) (Sum.inr p.1)).isSome=true by rw [e];rfl);rw [map_map] at this;obtain ⟨q,hq,eq⟩:=mem_map.mp this;have eq:(Sum.inr q.1:Key)=Sum.inr p.1:=eq;have eq:q.1=p.1:=by injection eq
    rw [map_append,map_cons,nodup_append] at h;exact absurd rfl (h.2.2 p.1 (mem_map.mpr ⟨q,hq,eq⟩) p.1 (by simp))
  rw [Jjo p.2 nn];have : (acc.map fun p=>((Sum.inr p.1:Key),p.2))++[(Sum.inr p.1,p.2)]=(acc++[p]).map fun p=>((Sum.inr p.1:Key),p.2):=by simp
  rw [this,Jg1 ps (acc++[p]) (by rw [<- ea];exact h),ea]
theorem Jin {ps:List (Str × V)} (h:(ps.map (·.1)).Nodup):JdB ps=ps.map fun p=>((Sum.inr p.1:Key),p.2):=by
 unfold JdB;exact (Jg1 ps [] (by simpa using h)).trans (by rw [nil_append])
structure LoInv (n:Int × Int) (q:Int) (t:Int × Int):Prop where
 lo:Lo t
 cr:t.1*(n.2*q)=n.1*t.2
 le1:t.1.natAbs<=n.1.natAbs
 le2:t.2.natAbs<=n.2.natAbs*q.natAbs
theorem LoInv.nil {n:Int × Int} (h:Lo n):LoInv n 1 n:=⟨h,by rw [Int.mul_one],Nat.le_refl _,by simp⟩
theorem LoInv.step {n t:Int × Int} {q f:Int} (h:LoInv n q t) (hf:1<=f):LoInv n (q*f) (t.1.fdiv (Mth.g t.1 f),t.2*f.fdiv (Mth.g t.1 f)):=by
 have w:0<Mth.g t.1 f:=Mth.g_pos ∅;have j:=Mth.Jcw t.1 f;have e:=Mth.JbK t.1 f;have k:=Mth.JaL j ∅;have u:=Mth.JaL e ∅;have o:=Mth.JcM (b:=t.1) (d:=f) rfl ∅;have m:=Mth.JbZ e ∅ hf;have i:=Mth.JdV j ∅;have a:=Mth.JdV e ∅;have v:t.1.fdiv (Mth.g t.1 f)∣t.1:=⟨_,k.symm⟩;have p:Int.gcd (t.1.fdiv (Mth.g t.1 f)) t.2=1:=Mth.Jb3 (Mth.Jcf h.lo.g1) v;have c:=h.cr;have l:=h.lo.b1;generalize t.1.fdiv (Mth.g t.1 f)=r at *;generalize f.fdiv (Mth.g t.1 f)=f' at *;generalize Mth.g t.1 f=s at *;refine ⟨⟨JbO l m,Mth.JdM (Mth.JbY p o)⟩,?_,?_,?_⟩
 ·show r*(n.2*(q*f))=n.1*(t.2*f');have : r*(n.2*(q*f))=(t.1*(n.2*q))*f':=by
   rw [<- k, <- u];simp only [Int.mul_assoc,Int.mul_comm,Int.mul_left_comm]
  rw [this,c,Int.mul_assoc]
 ·exact Nat.le_trans i h.le1
 ·show (t.2*f').natAbs<=n.2.natAbs*(q*f).natAbs;rw [Int.natAbs_mul,Int.natAbs_mul, <- Nat.mul_assoc];exact Nat.mul_le_mul h.le2 a
theorem LoInv.vl {n t:Int × Int} {q:Int} (h:LoInv n q t) (hn:1<=n.2) (hq:1<=q):vl t=vl n/(q:Rat):=by
 have f:=JaH hn;have g:=JaH h.lo.b1;have i:=JaH hq;have e:(t.1:Rat)*((n.2:Rat)*(q:Rat))=(n.1:Rat)*(t.2:Rat):=by exact_mod_cast h.cr
 unfold L2.vl;generalize (t.1:Rat)=a at *;generalize (t.2:Rat)=b at *;generalize (n.1:Rat)=c at *;generalize (n.2:Rat)=d at *;generalize (q:Rat)=q at *;grind
def stF (ms:List (Str × (Int × Int))) (lds:List LidD) (S:List Str):List ((Int × Int) × List Str) :=
 (ms.filter fun m=>decide (m.1∉S)).map (fun m=>(m.2,[m.1]))++(lds.filter fun e=>decide (0<e.load)).map fun e=>(divF e.rest (e.load,1),(e.ws.map (·.1)).filter fun n=>decide (n∉S))
def StV (K:W.Frag) (H:Hp) (s:(Int × Int) × List Str) (x:V):Prop:=∃ t v l,x=.ref t/\SqT K H t [v, .ref l]/\FrV K H v s.1.1 s.1.2/\H l=some (.lst (s.2.map V.str))
theorem StV.same {K:W.Frag} {H H':Hp} {s:(Int × Int) × List Str} {x:V} (S:Same H H'):StV K H s x->StV K H' s x:=by rintro ⟨t,v,l,a,d,b,c⟩;exact ⟨t,v,l,a,d.same S,b.same S,S _ _ c⟩
def NFV (K:W.Frag) (H:Hp) (a:Str × (Int × Int)) (x:V):Prop:=FrV K H x a.2.1 a.2.2
theorem NFV.sameT {K:W.Frag} {H H':Hp} {a:Str × (Int × Int)} {x:V} (S:SameT H H') (h:NFV K H a x):NFV K H' a x:=FrV.sameT S h
def thw (d:Addr) (kv:List (Key × V)) (H:Hp):Hp:=upd H d (.dK kv)
section
variable {H H':Hp} {d a:Addr} {od:Obj} {kv kw:List (Key × V)} {k:Key}
theorem JiN (h:H d=some (.dK kv)):thw d kv (upd H d (.frz od (.dK kv)))=H:=by
 funext b
 unfold thw;by_cases c:b=d
 ·subst c;rw [Jak,h]
 ·rw [Jag c,Jag c]
theorem Jfr (S:Same H H'):Same (thw d kv H) (thw d kv H'):=fun b u h=>by
 unfold thw at h ⊢;by_cases c:b=d
 ·subst c;rw [Jak] at h ⊢;exact h
 ·rw [Jag c] at h ⊢;exact S _ _ h
theorem JiO (hd:H d=some (.frz od (.dK kv))) (ha:thw d kv H a=some (.dK kw)):DGet H a (kV k) (valV kw k):=by
 unfold thw at ha;by_cases c:a=d
 ·subst c;rw [Jak] at ha;cases ha;exact DGet.f hd
 ·rw [Jag c] at ha;exact DGet.k ha
theorem Jfq (hd:H d=some (.frz od (.dK kv))) (ha:H a=none):thw d kv H a=none:=by
 unfold thw;rw [Jag (fun z=>by rw [z,hd] at ha;cases ha)];exact ha
end
theorem StV.cut {K:W.Frag} {H:Hp} {s:(Int × Int) × List Str} {x:V} {p:Addr} (h:StV K (cut p H) s x):StV K H s x:=h.same Jc5
structure SHC (ls:List PD) (es:List (GD × List Str)) (pl:Str->Int × Int):Prop where
 l12:ls.length<=12
 l7:es.length<=7
 l14:ls.length+es.length<=14
 nd:(ls.map (·.nm)).Nodup
 gn:∀ e∈es, ∀ u∈es.map (·.1),u.nm=e.1.nm->u=e.1
 pok:∀ p∈ls,POk p
 pb:∀ p∈ls,(1<=p.sz.2/\Mth.Sz 70 p.sz.2)/\FB 200 12 p.mo
 wt:∀ p∈ls,Mth.Sz 21 p.wt
 tok:∀ e∈es,TOk e.1.td
 gb:∀ e∈es,(1<=e.1.lo.2/\Mth.Sz 70 e.1.lo.2)/\1<=e.1.hi.2/\Mth.Sz 70 e.1.hi.2
 rb:∀ e∈es,FB 200 12 (roomF pl e.1)
 plb:∀ f,FB 302 161 (pl f)
 pls:∀ p∈ls,vl (pl p.en)=vl (pl p.st)+vl p.sz
 way:∀ e∈es, ∀ w:List Pr,Jbh ls e.1.st w e.1.en->(w.map (·.1)).Nodup->e.2.Perm (w.map (·.1))
structure LSt (b:Int) (ls:List PD) (pl:Str->Int × Int) (e:GD × List Str) (l:LidD):Prop where
 nm:l.nm=e.1.nm
 rest:vl l.rest=vl (roomF pl e.1)*(b:Rat)
 fb:FB 2200 12 l.rest
 pm:(l.ws.map (·.1)).Perm e.2
 nd:(l.ws.map (·.1)).Nodup
 wt:∀ x∈l.ws, ∃ p∈ls,p.nm=x.1/\p.wt=x.2
 load:l.load=(l.ws.map (·.2)).sum
 last:l.last=(0,1)
structure MSt (b:Int) (p:PD) (m:Str × (Int × Int)):Prop where
 nm:m.1=p.nm
 vl:L2.vl m.2=L2.vl p.mo*(b:Rat)/(p.wt:Rat)
 fb:FB 2200 33 m.2
theorem Jg8 {H:Hp} {d a:Addr} {od:Obj} {kv:List (Key × V)} {u:HO} (hd:H d=some (.frz od (.dK kv))) (ha:H a=some u) (hu:∀ o w,u≠.frz o w):thw d kv H a=some u:=by
 unfold thw;rw [Jag (fun z=>by rw [z,hd] at ha;cases ha;exact hu _ _ rfl)];exact ha
theorem JgS {β : Type}:∀ {ls:List (Str × β)} {p q:Str × β},(ls.map (·.1)).Nodup->p∈ls->q∈ls->p.1=q.1->p=q
 | [],_,_,_,hp,_,_=>by cases hp
 | a::ls,p,q,hn,hp,hq,e=>by
  rw [map_cons,nodup_cons] at hn;rcases mem_cons.mp hp with h1 | h1 <;> rcases mem_cons.mp hq with h2 | h2
  ·rw [h1,h2]
  ·subst h1;exact absurd (e ▸ mem_map.mpr ⟨q,h2,rfl⟩) hn.1
  ·subst h2;exact absurd (e ▸ mem_map.mpr ⟨p,h1,rfl⟩) hn.1
  ·exact JgS hn.2 h1 h2 e
theorem BG.keysS {P:(Str × (Int × Int))->V->Prop} {as:List (Str × (Int × Int))} {kvs:List (Key × V)} (h:BG (·.1) P as kvs):kvs.map (·.1)=(as.map (·.1)).map Sum.inr:=by
 rw [h.1,map_map];rfl
structure RC (b Q:Int) (N:List Str) (w M:Str->Rat) (gs:List Gp) (ms:List (Str × (Int × Int))):Prop where
 b1:1<=b
 nm:ms.map (·.1)=N
 nd:N.Nodup
 l12:N.length<=12
 wt:∀ n∈N, ∃ k:Int,w n=(k:Rat)/\1<=k/\Mth.Sz 21 k
 ml:∀ m∈ms,vl m.2=M m.1/\FB 2200 33 m.2/\0<=M m.1
 gw:∀ g∈gs,(∀ n∈g.way,n∈N)/\g.way.Nodup/\0<=g.R/\g.R<=(Q:Rat)
 mq:∀ n∈N,M n<=(Q:Rat)
 sQ:Mth.Sz 2200 Q
def LOks (w:Str->Rat) (lvs:List (Str × (Int × Int))) (gs:List Gp) (lds:List LidD):Prop:=lds.length=gs.length/\∀ (i:Nat) g e,gs[i]?=some g->lds[i]?=some e->LidOk w g lvs e
structure RB (b:Int) (N:List Str) (w M:Str->Rat) (gs:List Gp) (k:Nat) (lvs:List (Str × (Int × Int))) (D:Int):Prop where
 D1:1<=D
 sD:Mth.Sz (230+25*k) D
 dl:∀ x∈lvs,Dv D (vl x.2/(b:Rat))
 dr:∀ g∈gs,Dv D (g.R/(b:Rat))
 dm:∀ n∈N,Dv D (M n/(b:Rat)*w n)
structure RSt (b:Int) (N:List Str) (w M:Str->Rat) (gs:List Gp) (lvs:List (Str × (Int × Int))) (lds:List LidD):Prop where
 inv:∃ L,RInv N w M gs lvs (vl L)
 ok:LOks w lvs gs lds
 bt:∃ D,RB b N w M gs lvs.length lvs D
 lo:∀ x∈lvs,Lo x.2
structure RMd (b:Int) (N:List Str) (w M:Str->Rat) (gs:List Gp) (L:Int × Int) (D:Int) (k:Nat) (lvs:List (Str × (Int × Int))) (lds:List LidD):Prop where
 inv:SInv N w gs lvs L
 ok:LOks w lvs gs lds
 bt:RB b N w M gs k lvs D
 k12:k<=12
 dL:Dv D (vl L/(b:Rat))
 fL:FB 3000 1000 L
section
variable {b Q:Int} {N:List Str} {w M:Str->Rat} {gs:List Gp} {ms lvs:List (Str × (Int × Int))} {lds:List LidD} {L:Int × Int} {ns:List Str} {D:Int} {k:Nat}
theorem LOks.fwd (h:LOks w lvs gs lds) {g:Gp} (hg:g∈gs):∃ e∈lds,LidOk w g lvs e:=by
 obtain ⟨i,b⟩:=List.getElem?_of_mem hg;have c:=(List.getElem?_eq_some_iff.mp b).1;have a:i<lds.length:=by rw [h.1];exact c
 exact ⟨lds[i],List.getElem_mem a,h.2 i g _ b (List.getElem?_eq_getElem a)⟩
theorem LOks.bwd (h:LOks w lvs gs lds) {e:LidD} (he:e∈lds):∃ g∈gs,LidOk w g lvs e:=by
 obtain ⟨i,b⟩:=List.getElem?_of_mem he;have c:=(List.getElem?_eq_some_iff.mp b).1;have a:i<gs.length:=by rw [<- h.1];exact c
 exact ⟨gs[i],List.getElem_mem a,h.2 i _ e (List.getElem?_eq_getElem a) b⟩
theorem RC.wpos (hc:RC b Q N w M gs ms):∀ n∈N,0<w n:=fun n a=>by
 obtain ⟨k,c,d,_⟩:=hc.wt n a;rw [c];exact_mod_cast (show 0<k by ac_nf)
theorem RInv.s (h:RInv N w M gs lvs (vl L)):SInv N w gs lvs L:=⟨h.nd,h.sub,fun x b=>⟨(h.a x b).1,(h.a x b).2.1⟩,h.c0,h.cc⟩
theorem JgB (hc:RC b Q N w M gs ms) (hi:SInv N w gs lvs L) (hb:RB b N w M gs k lvs D) (k12:k<=13) {g:Gp} (hg:g∈gs) {e:LidD} (he:LidOk w g lvs e):FB 2800 600 e.rest:=by
 have a:=hi.range hc.wpos (fun g hg=>(hc.gw g hg).1) hg;have d:=hc.gw g hg;have c:=(JhT (hb.dr g hg) (fun n f=>by obtain ⟨k,h,_⟩:=hc.wt n (d.1 n f);exact ⟨k,h⟩) hb.dl hi.nd).up hc.b1;rw [<- he.rest] at c a;exact c.fb (m:=2200) (n:=600) he.low.b1 he.low.g1 hb.D1 (hb.sD.mono ∅) a.1 (Rat.le_trans a.2 d.2.2.2) hc.sQ
theorem JiH {a:Str->Rat} {B:Int} (hB:0<=B):∀ {l:List Str} {n:Nat},(∀ q∈l,a q<=(B:Rat))->l.length<=n->sm a l<=((B*n:Int):Rat)
 | [],n,_,_=>by
  have : 0<=B*(n:Int):=Int.mul_nonneg hB ∅;simp only [sm];exact_mod_cast this
 | q::l,0,_,h=>by simp at h
 | q::l,n+1,h,hl=>by
  have h1:=h q (by simp);have h2:=JiH hB (l:=l) (n:=n) (fun r hr=>h r (by simp [hr])) (by simpa using hl);have e:((B*((n+1:Nat):Int):Int):Rat)=(B:Rat)+((B*(n:Int):Int):Rat):=by
   have : B*((n+1:Nat):Int)=B+B*(n:Int):=by push_cast;rw [Int.mul_add,Int.mul_one,Int.add_comm]
   rw [this];push_cast;rfl
  simp only [sm];rw [e];grind
theorem JiX (hc:RC b Q N w M gs ms) {g:Gp} (hg:g∈gs):g.way.length<=12:=Nat.le_trans (sub_len _ _ (hc.gw g hg).2.1 (hc.gw g hg).1) hc.l12
theorem Jgj (hc:RC b Q N w M gs ms) {g:Gp} (hg:g∈gs) {e:LidD} (he:LidOk w g lvs e):0<=e.load/\Mth.Sz 25 e.load:=by
 have d:=hc.gw g hg;have a:=sm_nn (Jd1 (lvs:=lvs) hc.wpos d.1);obtain ⟨B,l⟩:∃ B:Int,B=2097152:=⟨_,rfl⟩;have B0:0<=B:=by ac_nf
 have c:sm (left lvs w) g.way<=((B*(12:Nat):Int):Rat):=JiH B0 (fun q i=>by
  obtain ⟨k,f,h,j⟩:=hc.wt q (d.1 q i);have : k<=B:=by unfold Mth.Sz at j;ac_nf
  have : (k:Rat)<=(B:Rat):=by exact_mod_cast this
  unfold left;split
  ·exact_mod_cast B0
  ·rw [f];exact this) (JiX hc hg)
 rw [<- he.load] at a c;have a:0<=e.load:=by exact_mod_cast a
 have c:e.load<=B*(12:Nat):=Rat.intCast_le_intCast.mp c;refine ⟨a,?_⟩;unfold Mth.Sz;ac_nf
theorem JcH {S:List Str} {s:(Int × Int) × List Str}:s∈stF ms lds S↔(∃ m∈ms,m.1∉S/\s=(m.2,[m.1]))\/∃ e∈lds,0<e.load/\s=(divF e.rest (e.load,1),(e.ws.map (·.1)).filter fun n=>decide (n∉S)):=by
 unfold stF;rw [mem_append,mem_map,mem_map];constructor
 ·rintro (⟨m,a,rfl⟩ | ⟨e,b,rfl⟩)
  ·have:=mem_filter.mp a;exact .inl ⟨m,this.1,by simpa using this.2,rfl⟩
  ·have:=mem_filter.mp b;exact .inr ⟨e,this.1,by simpa using this.2,rfl⟩
 ·rintro (⟨m,a,h,rfl⟩ | ⟨e,b,h,rfl⟩)
  ·exact .inl ⟨m,mem_filter.mpr ⟨a,by simpa using h⟩,rfl⟩
  ·exact .inr ⟨e,mem_filter.mpr ⟨b,by simpa using h⟩,rfl⟩
theorem RSt.len (hc:RC b Q N w M gs ms) (h:RSt b N w M gs lvs lds):lvs.length<=N.length:=by
 obtain ⟨L,a⟩:=h.inv;have:=sub_len _ _ a.nd a.sub;simpa using this
theorem RSt.all (hc:RC b Q N w M gs ms) (h:RSt b N w M gs lvs lds) (hl:N.length<=lvs.length):∀ n∈N,n∈lvs.map (·.1):=by
 obtain ⟨L,c⟩:=h.inv;intro n d;refine Classical.byContradiction fun z=>?_;have:=sub_len (n::lvs.map (·.1)) N (nodup_cons.mpr ⟨z,c.nd⟩) (fun q a=>by
  rcases mem_cons.mp a with e | a
  ·rw [e];exact d
  ·exact c.sub q a)
 simp at this;ac_nf
theorem RSt.lids (hc:RC b Q N w M gs ms) (h:RSt b N w M gs lvs lds):∀ e∈lds,FB 3000 1000 e.rest/\Mth.Sz 64 e.load/\e.ws.length<=12:=by
 intro e i;obtain ⟨L,j⟩:=h.inv;obtain ⟨D,d⟩:=h.bt;obtain ⟨g,c,a⟩:=h.ok.bwd i;have f:=JgB hc j.s d (by have:=h.len hc;have:=hc.l12;ac_nf) c a;refine ⟨⟨f.s1.mono ⋯,f.s2.mono ⋯,f.b1,f.g1⟩,(Jgj hc c a).2.mono ⋯,?_⟩;have:=a.pm.length_eq;rw [length_map] at this;rw [this];exact JiX hc c
theorem RSt.some (hc:RC b Q N w M gs ms) (h:RSt b N w M gs lvs lds) (hl:lvs.length<N.length):stF ms lds (lvs.map (·.1))≠[]:=by
 intro z;have : ∀ n∈N,n∈lvs.map (·.1):=fun n a=>by
  rw [<- hc.nm] at a;obtain ⟨m,c,rfl⟩:=mem_map.mp a;refine Classical.byContradiction fun y=>?_;have : ((m.2,[m.1]):(Int × Int) × List Str)∈stF ms lds (lvs.map (·.1)):=JcH.mpr (.inl ⟨m,c,y,rfl⟩);rw [z] at this;cases this
 have:=sub_len N (lvs.map (·.1)) hc.nd (fun q d=>this q d);simp at this;ac_nf
theorem RSt.stops (hc:RC b Q N w M gs ms) (h:RSt b N w M gs lvs lds):∀ s∈stF ms lds (lvs.map (·.1)),FB 3000 1000 s.1/\∀ n∈s.2,n∈N/\n∉lvs.map (·.1):=by
 intro s k;rcases JcH.mp k with ⟨m,hm,hS,rfl⟩ | ⟨e,he,hl,rfl⟩
 ·have f:=(hc.ml m hm).2.1;refine ⟨⟨f.s1.mono ⋯,f.s2.mono ⋯,f.b1,f.g1⟩,fun n a=>?_⟩;rw [mem_singleton.mp a];exact ⟨hc.nm ▸ mem_map.mpr ⟨m,hm,rfl⟩,hS⟩
 ·obtain ⟨L,j⟩:=h.inv;obtain ⟨D,i⟩:=h.bt;obtain ⟨g,d,c⟩:=h.ok.bwd he;have f:=JgB hc j.s i (by have:=h.len hc;have:=hc.l12;ac_nf) d c;have z:=Jgj hc d c;refine ⟨?_,fun n a=>?_⟩
  ·refine FB.low (JbO f.b1 ∅) ?_ ?_
   ·show Mth.Sz 3000 (e.rest.1*1);rw [Int.mul_one];exact f.s1.mono ⋯
   ·exact (f.s2.mul z.2).mono ⋯
  ·have:=mem_filter.mp a;exact ⟨(hc.gw g d).1 n (c.pm.mem_iff.mp this.1),by simpa using this.2⟩
theorem RSt.first (hc:RC b Q N w M gs ms) (h:RSt b N w M gs lvs lds) (hlt:lvs.length<N.length) (hL:L∈(stF ms lds (lvs.map (·.1))).map (·.1)) (hmin:∀ s∈stF ms lds (lvs.map (·.1)),vl L<=vl s.1) (hnd:ns.Nodup) (hns:∀ n,n∈ns↔∃ s∈stF ms lds (lvs.map (·.1)),s.1=L/\n∈s.2) :
  ns≠[]/\(∀ n∈ns,n∈N/\n∉lvs.map (·.1))/\RInv N w M gs (lvs++ns.map fun n=>(n,L)) (vl L)/\∃ D,RMd b N w M gs L D (lvs.length+1) lvs lds:=by
 obtain ⟨L0,u⟩:=h.inv;obtain ⟨D,B⟩:=h.bt;have V:=h.stops hc;obtain ⟨s0,F,A⟩:=mem_map.mp hL;have U:FB 3000 1000 L:=A ▸ (V s0 F).1;have Y:=hc.wpos;have O:=fun (g:Gp) (c:g∈gs)=>(hc.gw g c).1;have T:∀ n∈N,n∉lvs.map (·.1)->vl L<=M n:=fun n f r=>by
  rw [<- hc.nm] at f;obtain ⟨m,j,rfl⟩:=mem_map.mp f;have:=hmin _ (JcH.mpr (.inl ⟨m,j,r,rfl⟩));rw [<- (hc.ml m j).1];exact this
 have P:∀ e g,g∈gs->LidOk w g lvs e->0<e.load->vl (divF e.rest (e.load,1))*sm (left lvs w) g.way=g.R-sm (used lvs w) g.way:=fun e g c d i=>by
  rw [JjV d.low.b1 (by show 1<=e.load;ac_nf) (Int.le_refl 1),Jf6, <- d.load, <- d.rest];exact Rat.div_mul_cancel (JaH ∅)
 have G:∀ g∈gs,0<sm (left lvs w) g.way->vl L*sm (left lvs w) g.way<=g.R-sm (used lvs w) g.way:=fun g c l=>by
  obtain ⟨e,E,d⟩:=h.ok.fwd c;have i:0<e.load:=by rw [<- d.load] at l;exact_mod_cast l
  have:=hmin _ (JcH.mpr (.inr ⟨e,E,i,rfl⟩));rw [<- P e g c d i];exact Rat.mul_le_mul_of_nonneg_right this (Rat.le_of_lt l)
 have key:∀ n,n∈ns↔n∈N/\n∉lvs.map (·.1)/\(M n=vl L\/∃ g∈gs,n∈g.way/\0<sm (left lvs w) g.way/\vl L*sm (left lvs w) g.way=g.R-sm (used lvs w) g.way):=fun n=>by
  rw [hns n];constructor
  ·rintro ⟨s,H,e1,S⟩;have I:=(V s H).2 n S;refine ⟨I.1,I.2,?_⟩;rcases JcH.mp H with ⟨m,j,r,rfl⟩ | ⟨e,E,i,rfl⟩
   ·left
    rw [mem_singleton.mp S, <- e1];exact (hc.ml m j).1.symm
   ·right
    obtain ⟨g,c,d⟩:=h.ok.bwd E;refine ⟨g,c,d.pm.mem_iff.mp (mem_filter.mp S).1,?_,?_⟩
    ·rw [<- d.load];exact_mod_cast i
    ·rw [<- e1];exact P e g c d i
  ·rintro ⟨f,r,e | ⟨g,c,hw,l,e⟩⟩
   ·rw [<- hc.nm] at f;obtain ⟨m,j,rfl⟩:=mem_map.mp f;exact ⟨_,JcH.mpr (.inl ⟨m,j,r,rfl⟩),(hc.ml m j).2.1.lo.inj U.lo ((hc.ml m j).1.trans e),by simp⟩
   ·obtain ⟨o,E,d⟩:=h.ok.fwd c;have i:0<o.load:=by rw [<- d.load] at l;exact_mod_cast l
    have j:((divF o.rest (o.load,1),(o.ws.map (·.1)).filter fun n=>decide (n∉lvs.map (·.1))):(Int × Int) × List Str)∈stF ms lds (lvs.map (·.1)):=JcH.mpr (.inr ⟨o,E,i,rfl⟩);refine ⟨_,j,(V _ j).1.lo.inj U.lo ?_,mem_filter.mpr ⟨d.pm.mem_iff.mpr hw,by simpa using r⟩⟩;have:=P o g c d i;rw [<- e] at this;have p':sm (left lvs w) g.way≠0:=fun z=>by rw [z] at l;exact absurd l ⋯
    show vl (divF o.rest (o.load,1))=vl L;grind
 have t:(∃ n∈N,n∉lvs.map (·.1)/\M n=vl L)\/∃ g∈gs,0<sm (left lvs w) g.way/\vl L*sm (left lvs w) g.way=g.R-sm (used lvs w) g.way/\∃ e:LidD,LidOk w g lvs e/\0<e.load/\L=divF e.rest (e.load,1):=by
  rcases JcH.mp F with ⟨m,j,r,rfl⟩ | ⟨e,E,i,rfl⟩
  ·exact .inl ⟨m.1,hc.nm ▸ mem_map.mpr ⟨m,j,rfl⟩,r,by rw [<- A];exact (hc.ml m j).1.symm⟩
  ·obtain ⟨g,c,d⟩:=h.ok.bwd E;refine .inr ⟨g,c,?_,by rw [<- A];exact P e g c d i,e,d,i,A.symm⟩;rw [<- d.load];exact_mod_cast i
 have C:vl L0<=vl L:=u.le (t.imp id fun ⟨g,c,W,X,_⟩=>⟨g,c,W,X⟩);have ne:ns≠[]:=fun z=>by
  rcases t with ⟨n,f,r,e⟩ | ⟨g,c,l,e,_⟩
  ·have:=(key n).mpr ⟨f,r, .inl e⟩;rw [z] at this;cases this
  ·have : ∃ n∈g.way,n∉lvs.map (·.1):=Classical.byContradiction fun y=>by
    rw [JcX (a:=left lvs w) fun q hq=>if_pos (Classical.byContradiction fun v=>y ⟨q,hq,v⟩)] at l;exact absurd l ⋯
   obtain ⟨n,f,r⟩:=this;have:=(key n).mpr ⟨O g c n f,r, .inr ⟨g,c,f,l,e⟩⟩;rw [z] at this;cases this
 refine ⟨ne,fun n f=>⟨((key n).mp f).1,((key n).mp f).2.1⟩,u.round Y O hnd T G key C,?_⟩;have si:SInv N w gs lvs L:=by
  refine ⟨u.nd,u.sub,fun x K=>⟨(u.a x K).1,Rat.le_trans (u.a x K).2.1 C⟩,Rat.le_trans u.c0 C,fun g c=>?_⟩;by_cases p:0<sm (left lvs w) g.way
  ·exact G g c p
  ·have e0:sm (left lvs w) g.way=0:=by have:=sm_nn (Jd1 (lvs:=lvs) Y (O g c));grind
   have:=u.cc g c;rw [e0] at this ⊢;grind
 obtain ⟨k,k1,ks,J⟩:∃ k:Int,1<=k/\Mth.Sz 25 k/\Dv D (vl L/(b:Rat)*(k:Rat)):=by
  rcases t with ⟨n,f,r,e⟩ | ⟨g,c,l,e,o,d,i,eL⟩
  ·obtain ⟨k,J,W,X⟩:=hc.wt n f;refine ⟨k,W,X.mono ⋯,?_⟩;have:=B.dm n f;rw [e,J] at this;exact this
  ·refine ⟨o.load,by ac_nf,(Jgj hc c d).2,?_⟩;have Z:=JhT (B.dr g c) (fun n f=>by obtain ⟨k,J,_⟩:=hc.wt n (O g c n f);exact ⟨k,J⟩) B.dl u.nd;rw [<- e, <- d.load] at Z;have : vl L/(b:Rat)*(o.load:Rat)=vl L*(o.load:Rat)/(b:Rat):=by grind
   rw [this];exact Z
 refine ⟨D*k,si,h.ok,⟨JbO B.D1 k1,?_,fun x K=>(B.dl x K).more k,fun g c=>(B.dr g c).more k,fun n f=>(B.dm n f).more k⟩,by have:=hc.l12;ac_nf,J.over k1,U⟩;have:=B.sD.mul ks;rw [show 230+25*(lvs.length+1)=230+25*lvs.length+25 by ac_nf];exact this
theorem RMd.rest (hc:RC b Q N w M gs ms) (h:RMd b N w M gs L D k lvs lds):∀ e∈lds,FB 3000 1000 e.rest/\∀ x∈e.ws,Mth.Sz 64 x.2:=by
 intro e j;obtain ⟨g,i,c⟩:=h.ok.bwd j;have f:=JgB hc h.inv h.bt (by have:=h.k12;ac_nf) i c;refine ⟨⟨f.s1.mono ⋯,f.s2.mono ⋯,f.b1,f.g1⟩,fun x d=>?_⟩;have a:x.1∈N:=(hc.gw g i).1 _ (c.pm.mem_iff.mp (mem_map.mpr ⟨x,d,rfl⟩));obtain ⟨k,l,_,m⟩:=hc.wt _ a;have:=(c.wt x d).1;rw [l] at this;have : k=x.2:=by exact_mod_cast this
 rw [<- this];exact m.mono ⋯
theorem RMd.step (hc:RC b Q N w M gs ms) (h:RMd b N w M gs L D k lvs lds) {n:Str} (hn:n∈N) (hS:n∉lvs.map (·.1)):RMd b N w M gs L D k (lvs++[(n,L)]) (lds.map fun e=>e.settle n L):=by
 refine ⟨h.inv.step (fun g f=>(hc.gw g f).2.1) hn hS,⟨by rw [length_map];exact h.ok.1,fun i g e f j=>?_⟩,⟨h.bt.D1,h.bt.sD,fun x c=>?_,h.bt.dr,h.bt.dm⟩,h.k12,h.dL,h.fL⟩
 ·rw [List.getElem?_map] at j;obtain ⟨l,d,rfl⟩:=Option.map_eq_some_iff.mp j;exact (h.ok.2 i g l f d).settle h.inv.nd hS h.fL.lo fun x c=>(h.inv.a x c).2
 ·rcases mem_append.mp c with c | c
  ·exact h.bt.dl x c
  ·rw [mem_singleton.mp c];exact h.dL
theorem RMd.next (hc:RC b Q N w M gs ms) (h:RMd b N w M gs L D k (lvs++ns.map fun n=>(n,L)) lds) (hi:RInv N w M gs (lvs++ns.map fun n=>(n,L)) (vl L)) (hlo:∀ x∈lvs,Lo x.2) (hk:k<=lvs.length+ns.length):RSt b N w M gs (lvs++ns.map fun n=>(n,L)) lds:=by
 refine ⟨⟨L,hi⟩,h.ok,⟨D,h.bt.D1,h.bt.sD.mono (by simp;ac_nf),h.bt.dl,h.bt.dr,h.bt.dm⟩,fun x a=>?_⟩;rcases mem_append.mp a with a | a
 ·exact hlo x a
 ·obtain ⟨n,_,rfl⟩:=mem_map.mp a;exact h.fL.lo
end
theorem All2.put {α : Type} {P P' : α->V->Prop}:∀ {as:List α} {xs:List V} {j:Nat} {a' : α} {x:V},All2 P as xs->xs[j]?=some x->P' a' x->(∀ (i:Nat) a y,i≠j->as[i]?=some a->xs[i]?=some y->P a y->P' a y)->All2 P' (as.set j a') xs
 | [],xs,j,a',x,h,hx,_,_=>by
  have h:xs=[]:=h;subst h;cases hx
 | a::as,xs,0,a',x,h,hx,p,m=>by
  obtain ⟨y,r,rfl,h1,h2⟩:=h;have hx:y=x:=by simpa using hx
  subst hx;refine ⟨y,r,rfl,p,?_⟩;have go:∀ {as:List α} {r:List V},All2 P as r->(∀ (i:Nat) a y,as[i]?=some a->r[i]?=some y->P a y->P' a y)->All2 P' as r:=by
   intro as;induction as with
   | nil=>intro r h _;exact h
   | cons b bs ih=>
    intro r h m;obtain ⟨z,t,rfl,h1,h2⟩:=h;exact ⟨z,t,rfl,m 0 b z rfl rfl h1,ih h2 fun i a y ha hy=>m (i+1) a y (by simpa using ha) (by simpa using hy)⟩
  exact go h2 fun i a y ha hy=>m (i+1) a y ∅ (by simpa using ha) (by simpa using hy)
 | a::as,xs,j+1,a',x,h,hx,p,m=>by
  obtain ⟨y,r,rfl,h1,h2⟩:=h;refine ⟨y,r,rfl,m 0 a y ∅ rfl rfl h1,All2.put h2 (by simpa using hx) p fun i a y ne ha hy=>m (i+1) a y ∅ (by simpa using ha) (by simpa using hy)⟩
theorem Jkh {α : Type} {f : α->α} {ls:List α} {j:Nat}:((ls.take j).map f++ls.drop j)[j]?=ls[j]?:=by
 by_cases c:j<=ls.length
 ·have e:((ls.take j).map f).length=j:=by rw [length_map,length_take];ac_nf
  rw [List.getElem?_append_right ∅,e,List.getElem?_drop];simp
 ·have e:((ls.take j).map f++ls.drop j).length<=j:=by simp;ac_nf
  rw [List.getElem?_eq_none e,List.getElem?_eq_none ∅]
theorem JgU {α : Type} {f : α->α}:∀ {ls:List α} {j:Nat} {e : α},ls[j]?=some e->((ls.take j).map f++ls.drop j).set j (f e)=(ls.take (j+1)).map f++ls.drop (j+1)
 | [],j,e,h=>by simp at h
 | a::ls,0,e,h=>by
  have h:a=e:=by simpa using h
  subst h;simp
 | a::ls,j+1,e,h=>by
  have:=JgU (f:=f) (ls:=ls) (j:=j) (e:=e) (by simpa using h);simp only [List.take_succ_cons,map_cons,List.drop_succ_cons,cons_append,List.set_cons_succ,this]
theorem JdJ {α : Type} {ns:List α} {i:Nat} {n : α} (h:ns.Nodup) (hn:ns[i]?=some n):n∉ns.take i:=by
 intro z;rw [<- List.take_append_drop i ns,nodup_append] at h;refine h.2.2 n z n (List.mem_of_getElem? (i:=0) ?_) rfl;rw [List.getElem?_drop];exact hn
theorem JiD {e:LidD} {n:Str} {L:Int × Int}:(e.settle n L).nm=e.nm:=by
 unfold LidD.settle;split <;> rfl
theorem JhA {ls:List LidD} {n:Str} {L:Int × Int}:(ls.map fun e=>e.settle n L).map (·.nm)=ls.map (·.nm):=by
 rw [map_map];exact List.map_congr_left fun e _=>JiD
structure ShD where
 nm:Str
 sl:Int × Int
 sp:Option Str
def wtF (ls:List PD) (n:Str):Rat:=((ls.find? fun p=>decide (p.nm=n)).map fun p=>(p.wt:Rat)).getD 0
def moF (ls:List PD) (n:Str):Rat:=((ls.find? fun p=>decide (p.nm=n)).map fun p=>vl p.mo/(p.wt:Rat)).getD 0
def gpF (es:List (GD × List Str)) (pl:Str->Int × Int):List Gp:=es.map fun e=>⟨vl (roomF pl e.1),e.2⟩
def gpB (b:Int) (es:List (GD × List Str)) (pl:Str->Int × Int):List Gp:=es.map fun e=>⟨vl (roomF pl e.1)*(b:Rat),e.2⟩
def stp (w f:Str->Rat) (pl:Str->Int × Int) (n:Str) (e:GD × List Str):Bool:=decide (n∈e.2)&&(decide (sm (fun q=>f q*w q) e.2=vl (roomF pl e.1))&&decide (∀ q∈e.2,f q<=f n))
structure ShRow (ls:List PD) (es:List (GD × List Str)) (pl:Str->Int × Int) (f:Str->Rat) (p:PD) (r:ShD):Prop where
 nm:r.nm=p.nm
 lo:Lo r.sl
 val:vl r.sl=f p.nm*(p.wt:Rat)
 sp:(r.sl=p.mo/\r.sp=none)\/(r.sl≠p.mo/\∃ e,es.find? (stp (wtF ls) f pl p.nm)=some e/\r.sp=some e.1.nm)
structure ShF (ls:List PD) (es:List (GD × List Str)) (pl:Str->Int × Int) (f:Str->Rat) (D:Int):Prop where
 sub:∀ e∈es,(∀ n∈e.2,n∈ls.map (·.nm))/\e.2.Nodup
 fair:Fair (ls.map (·.nm)) (wtF ls) (moF ls) (gpF es pl) f
 D1:1<=D
 sD:Mth.Sz 600 D
 dv:∀ n∈ls.map (·.nm),Dv D (f n)
structure ShR (ls:List PD) (es:List (GD × List Str)) (pl:Str->Int × Int) (rs:List ShD):Prop where
 len:rs.length=ls.length
 ex:∃ f D,ShF ls es pl f D/\∀ (i:Nat) p r,ls[i]?=some p->rs[i]?=some r->ShRow ls es pl f p r
theorem Jgf:∀ {ls:List PD} {p:PD},(ls.map (·.nm)).Nodup->p∈ls->ls.find? (fun q=>decide (q.nm=p.nm))=some p
 | [],_,_,h=>by cases h
 | a::ls,p,hn,h=>by
  rw [map_cons,nodup_cons] at hn;rw [List.find?_cons];rcases mem_cons.mp h with e | h
  ·subst e;simp
  ·have : a.nm≠p.nm:=fun z=>hn.1 (z ▸ mem_map.mpr ⟨p,h,rfl⟩);rw [decide_eq_false this];exact Jgf hn.2 h
section
variable {ls:List PD} {es:List (GD × List Str)} {pl:Str->Int × Int} {p:PD} {f f':Str->Rat} {rs rs':List ShD}
theorem JdF (hn:(ls.map (·.nm)).Nodup) (hp:p∈ls):wtF ls p.nm=(p.wt:Rat):=by
 unfold wtF;rw [Jgf hn hp];rfl
theorem Jd5 (hn:(ls.map (·.nm)).Nodup) (hp:p∈ls):moF ls p.nm=vl p.mo/(p.wt:Rat):=by
 unfold moF;rw [Jgf hn hp];rfl
theorem Jgh {g:Gp} (h:g∈gpF es pl):∃ e∈es,g=⟨vl (roomF pl e.1),e.2⟩:=by
 obtain ⟨e,a,rfl⟩:=mem_map.mp h;exact ⟨e,a,rfl⟩
end
theorem JjD:∀ (fs:List (Int × Int)) (k:Nat),(∀ a∈fs,1<=a.2/\Mth.Sz 12 a.2)->fs.length<=k->∃ D:Int,1<=D/\Mth.Sz (12*k+1) D/\∀ a∈fs,Dv D (vl a)
 | [],k,_,_=>⟨1,by decide,by unfold Mth.Sz;exact Nat.one_lt_two_pow ∅,fun a ha=>by cases ha⟩
 | a::fs,0,_,h=>by simp at h
 | a::fs,k+1,h,hl=>by
  obtain ⟨D,h1,h2,h3⟩:=JjD fs k (fun x hx=>h x (by simp [hx])) (by simpa using hl);obtain ⟨a1,a2⟩:=h a (by simp);refine ⟨D*a.2,JbO h1 a1,?_,fun x hx=>?_⟩
  ·have:=h2.mul a2;rw [show 12*(k+1)+1=12*k+1+12 by ac_nf];exact this
  ·rcases mem_cons.mp hx with e | hx
   ·subst e;refine Dv.over a1 ?_;have : vl x*(x.2:Rat)=(x.1:Rat):=by
     unfold vl;exact Rat.div_mul_cancel (JaH a1)
    rw [this];exact Dv.int _
   ·exact (h3 x hx).more _
theorem Jet {a:Int × Int} (h:1<=a.2) (h0:0<=a.1):vl a<=(a.1:Rat):=by
 unfold vl;have p:(0:Rat)<(a.2:Rat):=by exact_mod_cast (show 0<a.2 by ac_nf)
 have e:(a.1:Rat)/(a.2:Rat)*(a.2:Rat)=(a.1:Rat):=Rat.div_mul_cancel (JaH h);have q:(a.1:Rat)<=(a.1:Rat)*(a.2:Rat):=by
  have : a.1<=a.1*a.2:=by
   have:=Int.mul_le_mul_of_nonneg_left h h0;ac_nf
  exact_mod_cast this
 rw [<- scaled p,e];exact q
theorem vl_nn {a:Int × Int} (h:1<=a.2):0<=vl a↔0<=a.1:=by
 unfold vl;have p:(0:Rat)<(a.2:Rat):=by exact_mod_cast (show 0<a.2 by ac_nf)
 have e:(a.1:Rat)/(a.2:Rat)*(a.2:Rat)=(a.1:Rat):=Rat.div_mul_cancel (JaH h);rw [<- scaled p,e,Rat.zero_mul];exact_mod_cast Iff.rfl
theorem JiK:∀ (ws:List (Str × Int)) (w:Str->Rat),(∀ x∈ws,w x.1=(x.2:Rat))->(((ws.map (·.2)).sum:Int):Rat)=sm w (ws.map (·.1))
 | [],_,_=>rfl
 | x::ws,w,h=>by
  have ih:=JiK ws w fun y hy=>h y (by simp [hy]);simp only [map_cons,List.sum_cons,sm,h x (by simp), <- ih];push_cast;rfl
section
variable {ls:List PD} {es:List (GD × List Str)} {pl:Str->Int × Int} {lds:List LidD} {ms lvs:List (Str × (Int × Int))} {b q0:Int}
theorem LSt.way {e:GD × List Str} {l:LidD} (h:LSt b ls pl e l):(∀ n∈e.2,n∈ls.map (·.nm))/\e.2.Nodup:=by
 refine ⟨fun n c=>?_,h.pm.nodup_iff.mp h.nd⟩;obtain ⟨x,d,rfl⟩:=mem_map.mp (h.pm.mem_iff.mpr c);obtain ⟨p,a,e,_⟩:=h.wt x d;exact mem_map.mpr ⟨p,a,e⟩
theorem JjN (hl:lds.length=es.length) (hls:∀ (i:Nat) e l,es[i]?=some e->lds[i]?=some l->LSt b ls pl e l):∀ e∈es,(∀ n∈e.2,n∈ls.map (·.nm))/\e.2.Nodup:=fun e c=>by
 obtain ⟨i,a⟩:=List.getElem?_of_mem c;have d:=(List.getElem?_eq_some_iff.mp a).1;exact (hls i e _ a (List.getElem?_eq_getElem ∅)).way
theorem Jjv (b1:1<=b) (sb:Mth.Sz 2000 b) (hc:SHC ls es pl) (hr:∀ e∈es,0<=vl (roomF pl e.1)) (hl:lds.length=es.length) (hls:∀ (i:Nat) e l,es[i]?=some e->lds[i]?=some l->LSt b ls pl e l) (hm:ms.length=ls.length) (hms:∀ (i:Nat) p m,ls[i]?=some p->ms[i]?=some m->MSt b p m):∃ q0,RC b q0 (ls.map (·.nm)) (wtF ls) (fun n=>moF ls n*(b:Rat)) (gpB b es pl) ms/\RSt b (ls.map (·.nm)) (wtF ls) (fun n=>moF ls n*(b:Rat)) (gpB b es pl) [] lds:=by
 have O:=JjN hl hls;have u:(0:Rat)<(b:Rat):=by exact_mod_cast (show 0<b by ac_nf)
 have X:=JaH b1;have E:∀ m∈ms, ∃ p∈ls,MSt b p m:=fun m s=>by
  obtain ⟨i,L⟩:=List.getElem?_of_mem s;have Y:=(List.getElem?_eq_some_iff.mp L).1;exact ⟨ls[i]'∅,List.getElem_mem _,hms i _ m (List.getElem?_eq_getElem ∅) L⟩
 obtain ⟨B,S,V,F⟩:∃ B:Int,Mth.Sz 200 B/\0<=B/\∀ x,Mth.Sz 200 x->x<=B:=⟨2 ^ 200-1,by unfold Mth.Sz;decide,by decide,fun x k=>by unfold Mth.Sz at k;ac_nf⟩;have C:∀ g∈gpB b es pl, ∃ e∈es,g=⟨vl (roomF pl e.1)*(b:Rat),e.2⟩:=fun g C=>by
  obtain ⟨e,f,rfl⟩:=mem_map.mp C;exact ⟨e,f,rfl⟩
 have A:∀ p∈ls,1<=p.wt:=fun p d=>(hc.pok p d).w;have v:∀ p∈ls,0<=vl p.mo:=fun p d=>(vl_nn (hc.pb p d).2.b1).mpr (hc.pok p d).m0;have M0:∀ p∈ls,0<=moF ls p.nm/\moF ls p.nm<=vl p.mo:=fun p d=>by
  rw [Jd5 hc.nd d];have M:=A p d;have J:(0:Rat)<(p.wt:Rat):=by exact_mod_cast (show 0<p.wt by ac_nf)
  have e:vl p.mo/(p.wt:Rat)*(p.wt:Rat)=vl p.mo:=Rat.div_mul_cancel (JaH M);have N:=v p d;constructor
  ·rw [<- scaled J,e,Rat.zero_mul];exact N
  ·rw [<- scaled J,e];have : (1:Rat)<=(p.wt:Rat):=by exact_mod_cast M
   have:=Rat.mul_le_mul_of_nonneg_left this N;rw [Rat.mul_one] at this;exact this
 have top:∀ a:Int × Int,FB 200 12 a->0<=vl a->vl a<=(B:Rat):=fun a G T=>by
  refine Rat.le_trans (Jet G.b1 ((vl_nn G.b1).mp T)) ?_;exact_mod_cast F _ G.s1
 have y:((B*b:Int):Rat)=(B:Rat)*(b:Rat):=by push_cast;rfl
 have K:RC b (B*b) (ls.map (·.nm)) (wtF ls) (fun n=>moF ls n*(b:Rat)) (gpB b es pl) ms:=by
  refine ⟨b1,?_,hc.nd,by rw [length_map];exact hc.l12,fun n r=>?_,fun m s=>?_,fun g j=>?_,fun n r=>?_,(S.mul sb)⟩
  ·refine List.ext_getElem? fun i=>?_;rw [List.getElem?_map,List.getElem?_map];by_cases c:i<ls.length
   ·rw [List.getElem?_eq_getElem c,List.getElem?_eq_getElem (by ac_nf:i<ms.length)];exact congrArg some (hms i _ _ (List.getElem?_eq_getElem c) (List.getElem?_eq_getElem ∅)).nm
   ·rw [List.getElem?_eq_none ∅,List.getElem?_eq_none ∅];rfl
  ·obtain ⟨p,d,rfl⟩:=mem_map.mp r;exact ⟨p.wt,JdF hc.nd d,A p d,hc.wt p d⟩
  ·obtain ⟨p,d,h⟩:=E m s;refine ⟨?_,h.fb,?_⟩
   ·rw [h.vl,h.nm,Jd5 hc.nd d];grind
   ·rw [h.nm];exact Rat.mul_nonneg (M0 p d).1 (Rat.le_of_lt u)
  ·obtain ⟨e,f,rfl⟩:=C g j;refine ⟨(O e f).1,(O e f).2,Rat.mul_nonneg (hr e f) (Rat.le_of_lt u),?_⟩;rw [y];exact Rat.mul_le_mul_of_nonneg_right (top _ (hc.rb e f) (hr e f)) (Rat.le_of_lt u)
  ·obtain ⟨p,d,rfl⟩:=mem_map.mp r;rw [y];exact Rat.mul_le_mul_of_nonneg_right (Rat.le_trans (M0 p d).2 (top _ (hc.pb p d).2 (v p d))) (Rat.le_of_lt u)
 refine ⟨_,K,⟨(0,1),?_⟩,⟨by unfold gpB;rw [length_map];exact hl,fun i g l o I=>?_⟩,?_,fun x k=>by cases k⟩
 ·rw [Jft];refine RInv.start (fun n r=>?_) (fun g j=>(K.gw g j).2.2.1);obtain ⟨p,d,rfl⟩:=mem_map.mp r;exact Rat.mul_nonneg (M0 p d).1 (Rat.le_of_lt u)
 ·unfold gpB at o;rw [List.getElem?_map] at o;obtain ⟨e,f,rfl⟩:=Option.map_eq_some_iff.mp o;have h:=hls i e l f I;have t:∀ x∈l.ws,wtF ls x.1=(x.2:Rat)/\1<=x.2:=fun x k=>by
   obtain ⟨p,d,W,R⟩:=h.wt x k;rw [<- W, <- R];exact ⟨JdF hc.nd d,A p d⟩
  have Q:sm (used [] (wtF ls)) e.2=0:=JcX fun q _=>by
   unfold used;rw [Jcg (by simp),Rat.zero_mul]
  refine ⟨h.pm,h.nd,t,?_,?_,h.fb.lo,?_,(fun n _ H=>by cases H),fun ⟨n,_,H⟩=>by cases H⟩
  ·rw [h.rest];show _=_-sm (used [] (wtF ls)) e.2;rw [Q];grind
  ·rw [h.load,JiK l.ws (wtF ls) fun x k=>(t x k).1,JkU h.pm];exact Jbn fun q _=>by unfold left;rw [if_neg (by simp)]
  ·rw [h.last];exact ⟨Int.le_refl 1,by unfold Mth.g;simp⟩
 ·obtain ⟨D,D1,U,P⟩:=JjD (ls.map (·.mo)++es.map fun e=>roomF pl e.1) 14 (fun a z=>by
   rcases mem_append.mp z with z | z
   ·obtain ⟨p,d,rfl⟩:=mem_map.mp z;exact ⟨(hc.pb p d).2.b1,(hc.pb p d).2.s2⟩
   ·obtain ⟨e,f,rfl⟩:=mem_map.mp z;exact ⟨(hc.rb e f).b1,(hc.rb e f).s2⟩) (by rw [length_append,length_map,length_map];exact hc.l14)
  refine ⟨D,D1,U.mono (by simp),fun x k=>(by cases k),fun g j=>?_,fun n r=>?_⟩
  ·obtain ⟨e,f,rfl⟩:=C g j;show Dv D (vl (roomF pl e.1)*(b:Rat)/(b:Rat));rw [show vl (roomF pl e.1)*(b:Rat)/(b:Rat)=vl (roomF pl e.1) by grind];exact P _ (mem_append.mpr (.inr (mem_map.mpr ⟨e,f,rfl⟩)))
  ·obtain ⟨p,d,rfl⟩:=mem_map.mp r;rw [Jd5 hc.nd d,JdF hc.nd d];have Z:=JaH (A p d);rw [show vl p.mo/(p.wt:Rat)*(b:Rat)/(b:Rat)*(p.wt:Rat)=vl p.mo by grind];exact P _ (mem_append.mpr (.inl (mem_map.mpr ⟨p,d,rfl⟩)))
end
theorem JfF {α β γ : Type} {P : α->Bool} {R : β->Bool} {f : α->γ} {g : β->γ}:∀ {as:List α} {bs:List β},as.length=bs.length->(∀ (i:Nat) a b,as[i]?=some a->bs[i]?=some b->P a=R b/\f a=g b)->(as.find? P).map f=(bs.find? R).map g
 | [],[],_,_=>rfl
 | [],b::bs,h,_=>by simp at h
 | a::as,[],h,_=>by simp at h
 | a::as,b::bs,h,k=>by
  obtain ⟨h1,h2⟩:=k 0 a b rfl rfl;have ih:=JfF (as:=as) (bs:=bs) (by simpa using h) fun i x y hx hy=>k (i+1) x y (by simpa using hx) (by simpa using hy);rw [List.find?_cons,List.find?_cons,h1];cases R b with
  | true=>exact congrArg some h2
  | false=>exact ih
theorem JiG {lv w:Str->Rat} {c:Rat}:∀ (l:List Str),sm (fun n=>lv n/c*w n) l=sm (fun n=>lv n*w n) l/c
 | []=>by simp only [sm];grind
 | n::l=>by
  simp only [sm,JiG l];grind
section
variable {ls:List PD} {es:List (GD × List Str)} {pl:Str->Int × Int} {lds:List LidD} {ms lvs:List (Str × (Int × Int))} {b q0:Int}
abbrev RCs (b q0:Int) (ls:List PD) (es:List (GD × List Str)) (pl:Str->Int × Int) (ms:List (Str × (Int × Int))):Prop:=RC b q0 (ls.map (·.nm)) (wtF ls) (fun n=>moF ls n*(b:Rat)) (gpB b es pl) ms
abbrev RSs (b:Int) (ls:List PD) (es:List (GD × List Str)) (pl:Str->Int × Int) (lvs:List (Str × (Int × Int))) (lds:List LidD):Prop:=RSt b (ls.map (·.nm)) (wtF ls) (fun n=>moF ls n*(b:Rat)) (gpB b es pl) lvs lds
def lvf (b:Int) (lvs:List (Str × (Int × Int))) (n:Str):Rat:=lvv lvs n/(b:Rat)
theorem JlH (rc:RCs b q0 ls es pl ms) (rs:RSs b ls es pl lvs lds) (hl:(ls.map (·.nm)).length<=lvs.length) {n:Str} (hn:n∈ls.map (·.nm)):∃ x∈lvs,x.1=n/\lvv lvs n=vl x.2:=by
 obtain ⟨x,a,e⟩:=mem_map.mp (rs.all rc hl n hn);obtain ⟨L,c⟩:=rs.inv;have e:x.1=n:=e;exact ⟨x,a,e,e ▸ Jd4 c.nd a⟩
theorem sh_at (rs:RSs b ls es pl lvs lds) {x:Str × (Int × Int)} (hx:x∈lvs):lvv lvs x.1=vl x.2:=by
 obtain ⟨L,a⟩:=rs.inv;exact Jd4 a.nd hx
theorem sh_lv (rc:RCs b q0 ls es pl ms) (rs:RSs b ls es pl lvs lds) {x:Str × (Int × Int)} (hx:x∈lvs):FB 2800 600 x.2:=by
 obtain ⟨L,f⟩:=rs.inv;obtain ⟨D,c⟩:=rs.bt;have e:=f.a x hx;have h:=rc.mq x.1 (f.sub _ (mem_map.mpr ⟨x,hx,rfl⟩));have d:=rs.lo x hx;have i:=rs.len rc;have g:=rc.l12;exact ((c.dl x hx).up rc.b1).fb (m:=2200) (n:=600) d.b1 d.g1 c.D1 (c.sD.mono ∅) e.1 (Rat.le_trans e.2.2 h) rc.sQ
theorem JiE (hw:∀ e∈es,(∀ n∈e.2,n∈ls.map (·.nm))/\e.2.Nodup) (rc:RCs b q0 ls es pl ms) (rs:RSs b ls es pl lvs lds) (hl:(ls.map (·.nm)).length<=lvs.length):∃ D,ShF ls es pl (lvf b lvs) D:=by
 obtain ⟨L,r⟩:=rs.inv;obtain ⟨D,i⟩:=rs.bt;have F:=r.fair rc.wpos (fun g d=>(rc.gw g d).1) (rs.all rc hl);have f:(0:Rat)<(b:Rat):=by have:=rc.b1;exact_mod_cast (show 0<b by ac_nf)
 have k:=JaH rc.b1;have e:∀ n,lvf b lvs n*(b:Rat)=lvv lvs n:=fun n=>Rat.div_mul_cancel k;have t:=rs.len rc;have o:=rc.l12;have m:∀ l,sm (fun n=>lvf b lvs n*wtF ls n) l*(b:Rat)=sm (fun n=>lvv lvs n*wtF ls n) l:=fun l=>by
  unfold lvf;rw [JiG,Rat.div_mul_cancel k]
 refine ⟨D,hw,⟨fun n a=>?_,fun n a=>?_,fun g d=>?_,fun n a=>?_⟩,i.D1,i.sD.mono ∅,fun n a=>?_⟩
 ·rw [<- scaled f,e,Rat.zero_mul];exact F.lo n a
 ·rw [<- scaled f,e];exact F.hi n a
 ·obtain ⟨x,c,rfl⟩:=Jgh d;rw [<- scaled f,m];exact F.fit ⟨vl (roomF pl x.1)*(b:Rat),x.2⟩ (mem_map.mpr ⟨x,c,rfl⟩)
 ·rcases F.stop n a with h | ⟨g,d,h1,j,h3⟩
  ·left
   have:=e n;rw [h] at this;grind
  ·right
   obtain ⟨x,c,rfl⟩:=mem_map.mp d;refine ⟨⟨vl (roomF pl x.1),x.2⟩,mem_map.mpr ⟨x,c,rfl⟩,h1,?_,fun q s=>?_⟩
   ·have j:sm (fun n=>lvv lvs n*wtF ls n) x.2=vl (roomF pl x.1)*(b:Rat):=j;rw [<- m] at j;show sm (fun n=>lvf b lvs n*wtF ls n) x.2=vl (roomF pl x.1);grind
   ·rw [<- scaled f,e,e];exact h3 q s
 ·obtain ⟨x,c,rfl,p⟩:=JlH rc rs hl a;unfold lvf;rw [p];exact i.dl x c
theorem Jkq (rc:RCs b q0 ls es pl ms) (rs:RSs b ls es pl lvs lds) (hl:(ls.map (·.nm)).length<=lvs.length) {i:Nat} {e:GD × List Str} {l:LidD} (he:es[i]?=some e) (hli:lds[i]?=some l) {x:Str × (Int × Int)} (hx:x∈lvs):((wtOf l.ws x.1).isSome&&(decide (l.rest=(0,1))&&decide (l.last=x.2)))=stp (wtF ls) (lvf b lvs) pl x.1 e:=by
 have a:=rs.ok.2 i ⟨vl (roomF pl e.1)*(b:Rat),e.2⟩ l (by unfold gpB;rw [List.getElem?_map,he];rfl) hli;have s:(0:Rat)<(b:Rat):=by have:=rc.b1;exact_mod_cast (show 0<b by ac_nf)
 have r:=JaH rc.b1;have d:∀ n,lvf b lvs n*(b:Rat)=lvv lvs n:=fun n=>Rat.div_mul_cancel r;have v:∀ l,sm (fun n=>lvf b lvs n*wtF ls n) l*(b:Rat)=sm (fun n=>lvv lvs n*wtF ls n) l:=fun l=>by
  unfold lvf;rw [JiG,Rat.div_mul_cancel r]
 have all:=rs.all rc hl;have m:=(rc.gw ⟨vl (roomF pl e.1)*(b:Rat),e.2⟩ (by unfold gpB;exact mem_map.mpr ⟨e,List.mem_of_getElem? he,rfl⟩)).1;have f:=rs.lo x hx;have o:=sh_at rs hx;unfold stp;have y:(wtOf l.ws x.1).isSome=decide (x.1∈e.2):=by
  by_cases c:x.1∈e.2
  ·rw [decide_eq_true c];cases h:wtOf l.ws x.1 with
   | none=>exact absurd (a.pm.mem_iff.mpr c) (JgJ.mp h)
   | some k=>rfl
  ·rw [decide_eq_false c,JgJ.mpr fun z=>c (a.pm.mem_iff.mp z)];rfl
 have A:decide (l.rest=(0,1))=decide (sm (fun q=>lvf b lvs q*wtF ls q) e.2=vl (roomF pl e.1)):=by
  refine decide_eq_decide.mpr ?_;have j:l.rest=(0,1)↔vl l.rest=0:=by
   rw [<- Jft];exact ⟨fun h=>by rw [h],fun h=>a.low.inj ⟨Int.le_refl 1,by unfold Mth.g;simp⟩ h⟩
  have p:vl l.rest=vl (roomF pl e.1)*(b:Rat)-sm (fun n=>lvv lvs n*wtF ls n) e.2:=a.rest;rw [j,p, <- v];constructor <;> intro h <;> grind
 rw [y,A];by_cases c:x.1∈e.2
 ·have u:decide (l.last=x.2)=decide (∀ q∈e.2,lvf b lvs q<=lvf b lvs x.1):=by
   refine decide_eq_decide.mpr ?_;have j:l.last=x.2↔vl l.last=lvv lvs x.1:=by
    rw [o];exact ⟨fun h=>by rw [h],fun h=>a.llow.inj f h⟩
   rw [j];constructor
   ·intro h q t;rw [<- scaled s,d,d, <- h];exact a.l1 q t (all q (m q t))
   ·intro h;obtain ⟨n,B,_,w⟩:=a.l2 ⟨x.1,c,all _ (m _ c)⟩;have p:=h n B;rw [<- scaled s,d,d,w] at p;have C:=a.l1 x.1 c (all _ (m _ c));grind
  rw [u]
 ·rw [decide_eq_false c];rfl
theorem JkR (hw:∀ e∈es,(∀ n∈e.2,n∈ls.map (·.nm))/\e.2.Nodup) (rc:RCs b q0 ls es pl ms) (rs:RSs b ls es pl lvs lds) (hl:(ls.map (·.nm)).length<=lvs.length) (hn:lds.map (·.nm)=es.map (·.1.nm)) {x:Str × (Int × Int)} (hx:x∈lvs) (hne:vl x.2≠moF ls x.1*(b:Rat)):∃ l e,lds.find? (fun l=>(wtOf l.ws x.1).isSome&&(decide (l.rest=(0,1))&&decide (l.last=x.2)))=some l/\es.find? (stp (wtF ls) (lvf b lvs) pl x.1)=some e/\l.nm=e.1.nm:=by
 have k:lds.length=es.length:=by simpa using congrArg List.length hn
 have m:=JfF (P:=fun l:LidD=>(wtOf l.ws x.1).isSome&&(decide (l.rest=(0,1))&&decide (l.last=x.2))) (R:=stp (wtF ls) (lvf b lvs) pl x.1) (f:=fun l:LidD=>l.nm) (g:=fun e:GD × List Str=>e.1.nm) k fun i l e a c=>⟨Jkq rc rs hl c a hx,by
  have:=congrArg (·[i]?) hn;simp only [List.getElem?_map,a,c] at this;exact Option.some.inj this⟩
 obtain ⟨D,F⟩:=JiE hw rc rs hl;obtain ⟨L,q⟩:=rs.inv;have d:=q.sub _ (mem_map.mpr ⟨x,hx,rfl⟩);have p:=JaH rc.b1;have o:∃ e∈es,stp (wtF ls) (lvf b lvs) pl x.1 e=true:=by
  rcases F.fair.stop x.1 d with h | ⟨g,hg,a,c,h3⟩
  ·refine absurd ?_ hne;rw [<- h, <- sh_at rs hx];exact (Rat.div_mul_cancel p).symm
  ·obtain ⟨e,j,rfl⟩:=Jgh hg;refine ⟨e,j,?_⟩;unfold stp;rw [decide_eq_true a,decide_eq_true c,decide_eq_true h3];rfl
 cases hf:es.find? (stp (wtF ls) (lvf b lvs) pl x.1) with
 | none=>
  obtain ⟨e,j,h⟩:=o;have:=List.find?_eq_none.mp hf e j;exact absurd h this
 | some e=>
  rw [hf] at m;obtain ⟨l,a,c⟩:=Option.map_eq_some_iff.mp m;exact ⟨l,e,a,rfl,c⟩
theorem JkT (hc:SHC ls es pl) (rc:RCs b q0 ls es pl ms) (rs:RSs b ls es pl lvs lds) {p:PD} (hp:p∈ls) {x:Str × (Int × Int)} (hx:x∈lvs) (e1:x.1=p.nm) (he:vl x.2=moF ls x.1*(b:Rat)):ShRow ls es pl (lvf b lvs) p ⟨p.nm,p.mo,none⟩:=by
 have c:=JaH rc.b1;have a:=JaH (hc.pok p hp).w;refine ⟨rfl,(hc.pb p hp).2.lo,?_, .inl ⟨rfl,rfl⟩⟩;show vl p.mo=_;unfold lvf;rw [<- e1,sh_at rs hx,he,e1,Jd5 hc.nd hp];grind
theorem JkS (hc:SHC ls es pl) (rc:RCs b q0 ls es pl ms) (rs:RSs b ls es pl lvs lds) {p:PD} (hp:p∈ls) {x:Str × (Int × Int)} (hx:x∈lvs) (e1:x.1=p.nm) (hne:vl x.2≠moF ls x.1*(b:Rat)) {t:Int × Int} (ht:LoInv (mulF x.2 (p.wt,1)) b t) {e:GD × List Str} (hf:es.find? (stp (wtF ls) (lvf b lvs) pl x.1)=some e):ShRow ls es pl (lvf b lvs) p ⟨p.nm,t,some e.1.nm⟩:=by
 have j:=JaH rc.b1;have i:=JaH (hc.pok p hp).w;have g:=rs.lo x hx;have h:=Je2 (a:=x.2) (c:=(p.wt,1)) g.b1 (Int.le_refl 1);have d:=ht.vl h.b1 rc.b1;rw [JjX g.b1 (Int.le_refl 1),Jf6] at d;have f:vl t=lvf b lvs p.nm*(p.wt:Rat):=by
  unfold lvf;rw [<- e1,sh_at rs hx,d];grind
 refine ⟨rfl,ht.lo,f, .inr ⟨fun z=>hne ?_,e,by rw [<- e1];exact hf,rfl⟩⟩;have z:t=p.mo:=z;rw [z] at d;rw [e1,Jd5 hc.nd hp,d];grind
end
structure GOQ (ls:List PD) (xs:List (SpD × List Str)) (e:GD × List Str):Prop where
 tok:TOk e.1.td
 con:Conn ls e.1.st e.1.en
 nm:NmOk xs e
 rb:FB 101 3 (roomF (spOf (xs.map (·.1))) e.1)
 r0:0<=vl (roomF (spOf (xs.map (·.1))) e.1)
 gb:(1<=e.1.lo.2/\Mth.Sz 70 e.1.lo.2)/\1<=e.1.hi.2/\Mth.Sz 70 e.1.hi.2
 f1:e.1.st∈(xs.map (·.1)).map (·.f)
 f2:e.1.en∈(xs.map (·.1)).map (·.f)
 sub:∀ n∈e.2,n∈ls.map (·.nm)
def rvl (rs:List ShD) (n:Str):Rat:=((rs.find? fun r=>decide (r.nm=n)).map fun r=>vl r.sl).getD 0
theorem JeS:∀ {rs:List ShD} {r:ShD},(rs.map (·.nm)).Nodup->r∈rs->rvl rs r.nm=vl r.sl
 | [],_,_,h=>by cases h
 | a::rs,r,hn,h=>by
  rw [map_cons,nodup_cons] at hn;unfold rvl;rw [List.find?_cons];rcases mem_cons.mp h with e | h
  ·subst e;simp
  ·have : a.nm≠r.nm:=fun z=>hn.1 (z ▸ mem_map.mpr ⟨r,h,rfl⟩);rw [decide_eq_false this];exact JeS hn.2 h
structure ShK (ks:List PD) (es:List (GD × List Str)) (pf:Str->Int × Int) (rs:List ShD):Prop where
 nm:rs.map (·.nm)=ks.map (·.nm)
 fb:∀ r∈rs,FB 800 600 r.sl
 bd:∀ (i:Nat) p r,ks[i]?=some p->rs[i]?=some r->0<=vl r.sl/\vl r.sl<=vl p.mo/\((∀ e∈es,p.nm∉e.2)->r.sl=p.mo)
 fit:∀ e∈es,sm (rvl rs) e.2<=vl (roomF pf e.1)
 par:∀ e∈es, ∀ (j:Nat) (u:Int × Int),Lo u->vl u=sm (rvl rs) (e.2.take j)->FB 800 600 u
theorem ShR.k {ks:List PD} {es:List (GD × List Str)} {pf:Str->Int × Int} {rs:List ShD} (hc:SHC ks es pf) (hm:∀ p∈ks,FB 100 6 p.mo) (h:ShR ks es pf rs):ShK ks es pf rs:=by
 obtain ⟨hl,f,D,F,R⟩:=h;have hn:rs.map (·.nm)=ks.map (·.nm):=by
  refine List.ext_getElem? fun i=>?_;rw [List.getElem?_map,List.getElem?_map];by_cases c:i<ks.length
  ·rw [List.getElem?_eq_getElem c,List.getElem?_eq_getElem (by ac_nf:i<rs.length)];exact congrArg some (R i _ _ (List.getElem?_eq_getElem c) (List.getElem?_eq_getElem ∅)).nm
  ·rw [List.getElem?_eq_none ∅,List.getElem?_eq_none ∅];rfl
 have S:(rs.map (·.nm)).Nodup:=hn ▸ hc.nd;have s:∀ (i:Nat) p r,ks[i]?=some p->rs[i]?=some r->0<=vl r.sl/\vl r.sl<=vl p.mo:=fun i p r o q=>by
  have d:=R i p r o q;have a:=List.mem_of_getElem? o;have t:p.nm∈ks.map (·.nm):=mem_map.mpr ⟨p,a,rfl⟩;have K:=(hc.pok p a).w;have X:(0:Rat)<(p.wt:Rat):=by exact_mod_cast (show 0<p.wt by ac_nf)
  have T:=F.fair.lo _ t;have U:=F.fair.hi _ t;rw [Jd5 hc.nd a] at U;have e:vl p.mo/(p.wt:Rat)*(p.wt:Rat)=vl p.mo:=Rat.div_mul_cancel (JaH K);rw [d.val];exact ⟨Rat.mul_nonneg T (Rat.le_of_lt X),by rw [<- e];exact Rat.mul_le_mul_of_nonneg_right U (Rat.le_of_lt X)⟩
 have y:∀ n∈ks.map (·.nm), ∃ (i:Nat) (p:PD) (r:ShD),ks[i]?=some p/\rs[i]?=some r/\p.nm=n/\rvl rs n=vl r.sl/\rvl rs n=f n*wtF ks n:=fun n b=>by
  obtain ⟨p,o,rfl⟩:=mem_map.mp b;obtain ⟨i,A⟩:=List.getElem?_of_mem o;have li:=(List.getElem?_eq_some_iff.mp A).1;have q:=List.getElem?_eq_getElem (by ac_nf:i<rs.length);have d:=R i p _ A q;have e:=JeS S (List.mem_of_getElem? q);rw [d.nm] at e;exact ⟨i,p,_,A,q,rfl,e,by rw [e,d.val,JdF hc.nd o]⟩
 have Q:∀ n∈ks.map (·.nm),Dv D (rvl rs n):=fun n b=>by
  obtain ⟨i,p,r,o,q,e,H,E⟩:=y n b;have a:=List.mem_of_getElem? o;rw [E, <- e,JdF hc.nd a];exact (F.dv _ (e ▸ b)).mul _
 have nn:∀ n∈ks.map (·.nm),0<=rvl rs n:=fun n b=>by
  obtain ⟨i,p,r,o,q,e,H,E⟩:=y n b;rw [H];exact (s i p r o q).1
 have V:∀ l:List Str,(∀ n∈l,n∈ks.map (·.nm))->sm (rvl rs) l=sm (fun n=>f n*wtF ks n) l:=fun l I=>Jbn fun n b=>by
  obtain ⟨i,p,r,o,q,e,H,E⟩:=y n (I n b);exact E
 refine ⟨hn,fun r q=>?_,fun i p r o q=>⟨(s i p r o q).1,(s i p r o q).2,fun M=>?_⟩,fun e z=>?_,fun e z j u Z N=>?_⟩
 ·obtain ⟨i,A⟩:=List.getElem?_of_mem q;have li:=(List.getElem?_eq_some_iff.mp A).1;have o:=List.getElem?_eq_getElem (by ac_nf:i<ks.length);have d:=R i _ r o A;have a:=List.mem_of_getElem? o;have Y:=s i _ r o A;generalize ks[i]=p at *;have G:=hm p a;have:=(F.dv p.nm (mem_map.mpr ⟨p,a,rfl⟩)).mul p.wt;rw [<- d.val] at this;have v:=this.fb (m:=100) (n:=600) d.lo.b1 d.lo.g1 F.D1 F.sD Y.1 (Rat.le_trans Y.2 (Jet G.b1 (hc.pok p a).m0)) G.s1;exact ⟨v.s1.mono ⋯,v.s2,v.b1,v.g1⟩
 ·have d:=R i p r o q;have a:=List.mem_of_getElem? o;have t:p.nm∈ks.map (·.nm):=mem_map.mpr ⟨p,a,rfl⟩;have K:=(hc.pok p a).w;rcases F.fair.stop _ t with h | ⟨g,hg,h,_⟩
  ·refine d.lo.inj (hm p a).lo ?_;rw [d.val,h,Jd5 hc.nd a];exact Rat.div_mul_cancel (JaH K)
  ·obtain ⟨e,z,rfl⟩:=Jgh hg;exact absurd h (M e z)
 ·rw [V e.2 (F.sub e z).1];exact F.fair.fit ⟨vl (roomF pf e.1),e.2⟩ (mem_map.mpr ⟨e,z,rfl⟩)
 ·have C:∀ n∈e.2.take j,n∈ks.map (·.nm):=fun n b=>(F.sub e z).1 n (List.mem_of_mem_take b);obtain ⟨B,hB,O,P⟩:∃ B:Int,Mth.Sz 100 B/\0<=B/\∀ x,Mth.Sz 100 x->x<=B:=⟨2 ^ 100-1,by unfold Mth.Sz;decide,by decide,fun x hx=>by unfold Mth.Sz at hx;ac_nf⟩;have L:(e.2.take j).length<=12:=by
   have T:=sub_len _ _ (F.sub e z).2 (F.sub e z).1;rw [length_map] at T;have U:=hc.l12;rw [length_take];ac_nf
  have dv:Dv D (vl u):=by
   rw [N];exact Dv.sm fun n b=>Q n (C n b)
  have up:vl u<=((B*(12:Nat):Int):Rat):=by
   rw [N];refine JiH O (fun n b=>?_) L;obtain ⟨i,p,r,o,q,e',H,E⟩:=y n (C n b);have a:=List.mem_of_getElem? o;have G:=hm p a;rw [H];refine Rat.le_trans (Rat.le_trans (s i p r o q).2 (Jet G.b1 (hc.pok p a).m0)) ?_;exact_mod_cast P _ G.s1
  have J:0<=vl u:=by
   rw [N];exact sm_nn fun n b=>nn n (C n b)
  have W:Mth.Sz 4 ((12:Nat):Int):=.lit ⋯ ⋯;have v:=dv.fb (m:=100+4) (n:=600) Z.b1 Z.g1 F.D1 F.sD J up (hB.mul W);exact ⟨v.s1.mono ⋯,v.s2,v.b1,v.g1⟩
theorem JiF:∀ {ls:List ShD} {p q:ShD},(ls.map (·.nm)).Nodup->p∈ls->q∈ls->p.nm=q.nm->p=q
 | [],_,_,_,hp,_,_=>by cases hp
 | a::ls,p,q,hn,hp,hq,e=>by
  rw [map_cons,nodup_cons] at hn;rcases mem_cons.mp hp with h1 | h1 <;> rcases mem_cons.mp hq with h2 | h2
  ·rw [h1,h2]
  ·subst h1;exact absurd (e ▸ mem_map.mpr ⟨q,h2,rfl⟩) hn.1
  ·subst h2;exact absurd (e ▸ mem_map.mpr ⟨p,h1,rfl⟩) hn.1
  ·exact JiF hn.2 h1 h2 e
section
variable {a b c d B:TS} {D:Ends} {σ : St} {H:Hp}
end
structure Nxt (R:St->Hp->Prop) (b:TS) (D:Ends):Prop where
 go:∀ {σ : St} {H:Hp},b D σ H->R σ H
theorem Jfm {a b:TS} {D:Ends} {σ : St} {H:Hp} (h:∀ R,Nxt R b D->a { D with nx:=R } σ H):tSeq a b D σ H:=h _ ⟨fun z=>z⟩
theorem JgX {s t st i j:Nat} (h:nmK s st i=nmK t st j):i=j:=by
 unfold nmK at h;injection h with h
 have h:=congrArg Array.toList h;simp only at h;have:=(List.append_inj h (by simp)).2;simp at this;exact this.1
section
variable {α : Type} {f : α->Str} {l:List α} {st:Nat}
theorem Jja (h:∀ i a,l[i]?=some a->∃ s,f a=nmK s st i) {a b : α} (ha:a∈l) (hb:b∈l) (e:f a=f b):a=b:=by
 obtain ⟨i,d⟩:=List.getElem?_of_mem ha;obtain ⟨j,c⟩:=List.getElem?_of_mem hb;obtain ⟨s,g⟩:=h i a d;obtain ⟨t,k⟩:=h j b c;rw [g,k] at e;have:=JgX e;subst this;rw [d] at c;exact Option.some.inj c
theorem Jia (h:∀ i a,l[i]?=some a->∃ s,f a=nmK s st i):(l.map f).Nodup:=by
 rw [List.Nodup,List.pairwise_iff_getElem];intro i j c b d e;rw [length_map] at c b;obtain ⟨s,g⟩:=h i _ (List.getElem?_eq_getElem c);obtain ⟨t,k⟩:=h j _ (List.getElem?_eq_getElem b);rw [List.getElem_map,List.getElem_map,g,k] at e;have:=JgX e;ac_nf
end
theorem JlB {n:Nat} (h:n<2):∃ (sg:Str) (sc:Nat),[V.str (Str.ofString "g"), .str (Str.ofString "p")][n]?=some (.str sg)/\sg.cps=#[sc]/\(97<=sc/\sc<=122):=by
 match n,h with
 | 0,_=>exact ⟨_,103,rfl,by decide,by decide⟩
 | 1,_=>exact ⟨_,112,rfl,by decide,by decide⟩
 | n+2,h=>ac_nf
section
variable {K:W.Frag} {H H':Hp} {a c:Addr} {x:V}
def RWT (K:W.Frag) (a c:Addr) (pl:Str->Int × Int) (H:Hp) (e:GD × List Str) (x:V):Prop:=∃ b w l,x=.ref b/\SqT K H b [.str e.1.nm,w, .ref l]/\FrV K H w (roomF pl e.1).1 (roomF pl e.1).2/\l≠a/\l≠c/\H l=some (.lst (e.2.map V.str))
theorem RWT.keep {pl:Str->Int × Int} {e:GD × List Str} (T:SameT H H') (S:Same2 a c H H'):RWT K a c pl H e x->RWT K a c pl H' e x:=by rintro ⟨b,w,l,g,i,h,f,d,j⟩;exact ⟨b,w,l,g,i.sameT T,h.sameT T,f,d,S _ _ f d j⟩
theorem RWT.same {pl:Str->Int × Int} {e:GD × List Str} (S:Same H H'):RWT K a c pl H e x->RWT K a c pl H' e x:=RWT.keep S.t S.two
end
structure ShS (ks:List PD) (es:List (GD × List Str)) (pf:Str->Int × Int) (rs:List ShD) (f:Str->Rat):Prop where
 k:ShK ks es pf rs
 val:∀ n∈ks.map (·.nm),rvl rs n=f n*wtF ks n
 sp:∀ (i:Nat) p r,ks[i]?=some p->rs[i]?=some r->(r.sl=p.mo/\r.sp=none)\/(r.sl≠p.mo/\∃ e,es.find? (stp (wtF ks) f pf p.nm)=some e/\r.sp=some e.1.nm)
theorem ShR.s {ks:List PD} {es:List (GD × List Str)} {pf:Str->Int × Int} {rs:List ShD} (hc:SHC ks es pf) (hm:∀ p∈ks,FB 100 6 p.mo) (h:ShR ks es pf rs):∃ f,ShS ks es pf rs f:=by
 have j:=h.k hc hm;obtain ⟨m,f,D,F,R⟩:=h;refine ⟨f,j,fun n g=>?_,fun i p r b c=>(R i p r b c).sp⟩;obtain ⟨p,b,rfl⟩:=mem_map.mp g;obtain ⟨i,l⟩:=List.getElem?_of_mem b;have o:=(List.getElem?_eq_some_iff.mp l).1;have c:=List.getElem?_eq_getElem (by ac_nf:i<rs.length);have a:=R i p _ l c;have d:(rs.map (·.nm)).Nodup:=j.nm ▸ hc.nd;have e:=JeS d (List.mem_of_getElem? c);rw [a.nm] at e;rw [e,a.val,JdF hc.nd b]
theorem Ji9 {a c:Int × Int} {w u:Int} {f g:Rat} (ha:1<=a.2) (hc:1<=c.2) (hw:1<=w) (hu:1<=u) (h1:vl a=f*(w:Rat)) (h2:vl c=g*(u:Rat)):a.1*c.2*u<c.1*a.2*w↔f<g:=by
 have i:(a.1:Rat)=f*(w:Rat)*(a.2:Rat):=by
  rw [<- h1];unfold vl;exact (Rat.div_mul_cancel (JaH ha)).symm
 have b:(c.1:Rat)=g*(u:Rat)*(c.2:Rat):=by
  rw [<- h2];unfold vl;exact (Rat.div_mul_cancel (JaH hc)).symm
 have p:(0:Rat)<((w*u*(a.2*c.2):Int):Rat):=by
  have : 0<w*u*(a.2*c.2):=Int.mul_pos (Int.mul_pos ∅ ∅) (Int.mul_pos ∅ ∅);exact_mod_cast this
 have d:((a.1*c.2*u:Int):Rat)=f*((w*u*(a.2*c.2):Int):Rat):=by
  push_cast;rw [i];grind
 have e:((c.1*a.2*w:Int):Rat)=g*((w*u*(a.2*c.2):Int):Rat):=by
  push_cast;rw [b];grind
 have : (a.1*c.2*u<c.1*a.2*w)↔((a.1*c.2*u:Int):Rat)<((c.1*a.2*w:Int):Rat):=by
  constructor
  ·intro h;exact_mod_cast h
  ·intro h;exact_mod_cast h
 rw [this,d,e];exact ⟨fun h=>Rat.lt_of_mul_lt_mul_right h (Rat.le_of_lt p),fun h=>Rat.mul_lt_mul_of_pos_right h p⟩
theorem JkV {w f:Str->Rat} {pl:Str->Int × Int} {n:Str} {e:GD × List Str} {u:Int × Int} {b:Bool} (hn:n∈e.2) (hu:Lo u) (hr:Lo (roomF pl e.1)) (eu:vl u=sm (fun q=>f q*w q) e.2) (hb:b=!decide (∀ q∈e.2,f q<=f n)):stp w f pl n e=(decide (u=roomF pl e.1)&&!b):=by
 unfold stp;rw [decide_eq_true hn, <- eu,hb,Bool.not_not,Bool.true_and]
 congr 1
 exact decide_eq_decide.mpr ⟨fun h=>hu.inj hr h,fun h=>by rw [h]⟩
def spL:Option Str->List Str
 | none=>[Str.ofString "most"]
 | some g=>[Str.ofString "gap",g]
theorem neTS {K:W.Frag} {H:Hp} {Q:VK} {p q:Addr} {ls:List Str} (hp:SqT K H p (ls.map V.str)) (hq:SqT K H q (ls.map V.str)) (k:Q (.bl false) H):rNeU K (.ref p) (.ref q) H Q:=by
 refine ⟨.tup (ls.map D.str), .tup (ls.map D.str),by simp only [Rep];exact ⟨p,_,rfl,hp,Jff ls⟩,by simp only [Rep];exact ⟨q,_,rfl,hq,Jff ls⟩,?_,rfl,?_⟩
 ·have : ∀ l:List Str,depL (l.map D.str)<=10:=JgO (n:=10) fun a=>by simp [depD]
  rw [depD];have:=this ls;ac_nf
 ·rw [JdL];exact k
end L2
open PySem L2
local macro_rules|`(tactic|rename_i $p:ident $h:ident $q:ident $H:ident $G:ident $S:ident $e:ident)=>`(tactic|(intro $p:ident $h:ident;generalize $q:ident:upd $H $p _=$G;have $S:ident:=newS $h $q;have $e:ident:=newE $q))
local macro_rules|`(tactic|bv_decide)=>`(tactic|exact ⟨rfl,rfl,rfl,by decide +kernel,rfl,by decide +kernel,by decide +kernel⟩)
local macro_rules|`(tactic|simpa! only [$xs,*])=>`(tactic|simp only [y4fy,y50y,y51y,y72y,y2by,y6dy,y80y,y81y,y47y,y2ey,y79y,y93y,y30y,y3cy,y73y,y2fy,y89y,y23y,y29y,y7ay,y75y,y2ay,y7by,y77y,y5by,y95y,y26y,y87y,y71y,y6ay,y4cy,y69y,y7ey,y33y,y4ay,y6fy,y4by,y70y,y49y,y6ey,y8ey,y65y,y61y,y90y,y92y,y8fy,y91y,y25y,y68y,y24y,true_and,if_true,if_false,Bool.not_true,Bool.not_false,Bool.false_eq_true,yby,ydy,yay,ycy,yey,y15y,y17y,y14y,y16y,y18y,y6y,y8y,y5y,y7y,y9y,y1y,y3y,y0y,y2y,y4y,y10y,y12y,yfy,y11y,y13y,y1ay,y1cy,y19y,y1by,y1dy,y1fy,y21y,y1ey,y20y,y22y,y85y,y7dy,y74y,y31y,y32y,y55y,y63y,y64y,y4ey,y86y,y8cy,y96y,y7fy,y27y,V.int.injEq,V.str.injEq,List.set_cons_zero,List.set_cons_succ,List.getElem?_cons_zero,List.getElem?_cons_succ,Option.some.injEq,exists_eq_left,exists_eq_left',V.bl.injEq,Int.reduceToNat,Int.reducePow,append_nil,nil_append,cons_append,y57y,y59y,y2cy,y2dy,y6by,y60y,y76y,y66y,y67y,y3dy,y3ey,y3fy,y46y,y48y,y41y,y7cy,y43y,y42y,y34y,y36y,y3ay,y40y,y44y,y52y,y54y,y5cy,y38y,y8by,y88y,y37y,y98y,reduceCtorEq,decide_false,decide_true,$xs,*])
local macro_rules|`(tactic|infer_instance)=>`(tactic|simpa! only [y83y])
local macro_rules|`(tactic|contradiction)=>`(tactic|simpa! only [y83y,y4dy])
local macro_rules|`(tactic|ac_rfl)=>`(tactic|simpa! only [y83y,y84y])
local macro_rules|`(tactic|symm_saturate)=>`(tactic|((try simpa! only [y4dy,y84y]);repeat ((first | (with_reducible refine Jfm fun _ _=>?_) | (with_reducible refine Nxt.go (by assumption) ?_));(try simpa! only [y4dy,y84y]))))
local macro_rules|`(tactic|exfalso)=>`(tactic|((try simpa! only [y84y]);repeat ((first | (with_reducible refine Jfm fun _ _=>?_) | (with_reducible refine Nxt.go (by assumption) ?_));(try simpa! only [y84y]))))
local macro_rules|`(tactic|and_intros)=>`(tactic|((try simpa! only [y4dy]);repeat ((first | (with_reducible refine Jfm fun _ _=>?_) | (with_reducible refine Nxt.go (by assumption) ?_));(try simpa! only [y4dy]))))
local macro_rules|`(tactic|nofun)=>`(tactic|((try simpa! only [true_and]);repeat ((first | (with_reducible refine Jfm fun _ _=>?_) | (with_reducible refine Nxt.go (by assumption) ?_));(try simpa! only [true_and]))))
local macro_rules|`(tactic|simpa only [$xs,*])=>`(tactic|simpa! only [y83y, $xs,*])
namespace Prg
open PySem L2 Ch
variable {f:Addr} {fd:FuncData} {dV:Value}
def top (i:Nat):Stmt:=PySem.Challenge.pw_slackchain_k55_what_stops_each_part.main.body.getD i (.Pass ⟨0,0,0,0⟩)
structure Adr where
 NoNumber:Addr
 Twice:Addr
 NoName:Addr
 NoPart:Addr
 NoGap:Addr
 InRing:Addr
 Apart:Addr
 Part:Addr
 Gap:Addr
 Joints:Addr
 Thing:Addr
 Scale:Addr
 Lid:Addr
 SMALL_LETTERS:Value
 LONGEST_NAME:Value
 ZERO:Addr
structure PartC (K:W.Frag) (C:Addr):Prop where
 cls:Cls K C
 n1:JaU K C "name"
 n2:JaU K C "start"
 n3:JaU K C "end"
 n4:JaU K C "size"
 n5:JaU K C "most"
 n6:JaU K C "weight"
def IsPart (Ad:Adr) (C:Addr):Prop:=C=Ad.Part
structure GapC (K:W.Frag) (C:Addr):Prop where
 cls:Cls K C
 n1:JaU K C "name"
 n2:JaU K C "one"
 n3:JaU K C "other"
 n4:JaU K C "low"
 n5:JaU K C "high"
def IsGap (Ad:Adr) (C:Addr):Prop:=C=Ad.Gap
structure JjZ (K:W.Frag) (C:Addr):Prop where
 cls:Cls K C
 n1:JaU K C "leads"
def Jc2 (Ad:Adr) (C:Addr):Prop:=C=Ad.Joints
structure Jk1 (K:W.Frag) (C:Addr):Prop where
 cls:Cls K C
 n1:JaU K C "parts_by_name"
 n2:JaU K C "gaps_by_name"
 n3:JaU K C "ways"
def Jbd (Ad:Adr) (C:Addr):Prop:=C=Ad.Thing
structure Jk0 (K:W.Frag) (C:Addr):Prop where
 cls:Cls K C
 n1:JaU K C "bottom"
 n2:JaU K C "factors"
def Jdm (Ad:Adr) (C:Addr):Prop:=C=Ad.Scale
structure LidC (K:W.Frag) (C:Addr):Prop where
 cls:Cls K C
 n1:JaU K C "name"
 n2:JaU K C "rest"
 n3:JaU K C "weights"
 n4:JaU K C "load"
 n5:JaU K C "last_level"
def IsLid (Ad:Adr) (C:Addr):Prop:=C=Ad.Lid
theorem SqT.put {K:W.Frag} {H:Hp} {x a C dx:Addr} {fs fs':List (Str × V)} {xs:List V} (hx:H x=some (.ins C dx fs)) (h:SqT K H a xs):SqT K (upd H x (.ins C dx fs')) a xs:=by
 rcases h with (h | ⟨o,h⟩) | h
 ·exact .inl (.inl (by rw [Jag (ne_of h hx (by intro z;cases z))];exact h))
 ·exact .inl (.inr ⟨o,by rw [Jag (ne_of h hx (by intro z;cases z))];exact h⟩)
 ·exact .inr h
def partF (n s e z m w:V):List (Str × V):=[("name",n),("start",s),("end",e),("size",z),("most",m),("weight",w)]
def gapF (n s e l g:V):List (Str × V):=[("name",n),("one",s),("other",e),("low",l),("high",g)]
structure Txt (K:W.Frag) (mg:Str->Option Value) (Ad:Adr):Prop where
 BdM:mg "abs"=none
 Bav:mg "isinstance"=none
 BbE:mg "len"=none
 BdU:mg "int"=none
 Bd1:mg "bool"=none
 Bc0:mg "tuple"=none
 Bd4:mg "str"=none
 Bcm:mg "range"=none
 BdT:mg "list"=none
 Bd5:mg "min"=none
 Bdz:mg "sorted"=none
 Bd6:mg "all"=none
 n_sum:mg "sum"=none
 n_dict:mg "dict"=none
 m_NoNumber:mg "NoNumber"=some (.ref Ad.NoNumber)
 BdC:mg "Twice"=some (.ref Ad.Twice)
 BdN:mg "NoName"=some (.ref Ad.NoName)
 BdO:mg "NoPart"=some (.ref Ad.NoPart)
 BdV:mg "NoGap"=some (.ref Ad.NoGap)
 BdP:mg "InRing"=some (.ref Ad.InRing)
 BdW:mg "Apart"=some (.ref Ad.Apart)
 Bd9:mg "Part"=some (.ref Ad.Part)
 Bea:mg "Gap"=some (.ref Ad.Gap)
 Bd2:mg "Joints"=some (.ref Ad.Joints)
 Bd7:mg "Thing"=some (.ref Ad.Thing)
 Bd8:mg "Scale"=some (.ref Ad.Scale)
 m_Lid:mg "Lid"=some (.ref Ad.Lid)
 Bcw:mg "SMALL_LETTERS"=some Ad.SMALL_LETTERS
 Bcx:RelV (.str "abcdefghijklmnopqrstuvwxyz") Ad.SMALL_LETTERS
 BcS:mg "LONGEST_NAME"=some Ad.LONGEST_NAME
 BcT:RelV (.int 8) Ad.LONGEST_NAME
 Bdl:mg "ZERO"=some (.ref Ad.ZERO)
 Bdm:RelV (.ref Ad.ZERO) (.ref Ad.ZERO)
 Bdn:∀ H:Hp,SqT K H Ad.ZERO [.int 0, .int 1]
 x_NoNumber:W.excIn K Ad.NoNumber [.type "ValueError", .type "Exception", .type "BaseException", .type "object"] "ValueError.__new__"=true
 Bcn:W.excIn K Ad.Twice [.type "ValueError", .type "Exception", .type "BaseException", .type "object"] "ValueError.__new__"=true
 Bb8:W.excIn K Ad.NoName [.type "ValueError", .type "Exception", .type "BaseException", .type "object"] "ValueError.__new__"=true
 Bb9:W.excIn K Ad.NoPart [.type "ValueError", .type "Exception", .type "BaseException", .type "object"] "ValueError.__new__"=true
 Bcy:W.excIn K Ad.NoGap [.type "ValueError", .type "Exception", .type "BaseException", .type "object"] "ValueError.__new__"=true
 Bca:W.excIn K Ad.InRing [.type "ValueError", .type "Exception", .type "BaseException", .type "object"] "ValueError.__new__"=true
 Bcz:W.excIn K Ad.Apart [.type "ValueError", .type "Exception", .type "BaseException", .type "object"] "ValueError.__new__"=true
 Bcb:W.plainGet K Ad.Part Str.empty=true
 Bcc:W.hasDictIn K Ad.Part=true
 Bcd:W.plainOver K Ad.Part=true
 Bce:W.findIn K (.ref Ad.Part) "__setattr__"=some (some (.builtin "object.__setattr__"))
 Bcf:W.findIn K (.ref Ad.Part) "name"=some none
 Bcg:W.findIn K (.ref Ad.Part) "start"=some none
 Bch:W.findIn K (.ref Ad.Part) "end"=some none
 Bci:W.findIn K (.ref Ad.Part) "size"=some none
 Bcj:W.findIn K (.ref Ad.Part) "most"=some none
 Bck:W.findIn K (.ref Ad.Part) "weight"=some none
 BcA:W.plainGet K Ad.Gap Str.empty=true
 BcB:W.hasDictIn K Ad.Gap=true
 BcC:W.plainOver K Ad.Gap=true
 BcD:W.findIn K (.ref Ad.Gap) "__setattr__"=some (some (.builtin "object.__setattr__"))
 BcE:W.findIn K (.ref Ad.Gap) "name"=some none
 BcF:W.findIn K (.ref Ad.Gap) "one"=some none
 BcG:W.findIn K (.ref Ad.Gap) "other"=some none
 BcH:W.findIn K (.ref Ad.Gap) "low"=some none
 BcI:W.findIn K (.ref Ad.Gap) "high"=some none
 Bbm:W.plainGet K Ad.Joints Str.empty=true
 Bbn:W.hasDictIn K Ad.Joints=true
 Bbo:W.plainOver K Ad.Joints=true
 Bbp:W.findIn K (.ref Ad.Joints) "__setattr__"=some (some (.builtin "object.__setattr__"))
 Bbq:W.findIn K (.ref Ad.Joints) "leads"=some none
 BbF:W.plainGet K Ad.Thing Str.empty=true
 BbG:W.hasDictIn K Ad.Thing=true
 BbH:W.plainOver K Ad.Thing=true
 BbI:W.findIn K (.ref Ad.Thing) "__setattr__"=some (some (.builtin "object.__setattr__"))
 BbJ:W.findIn K (.ref Ad.Thing) "parts_by_name"=some none
 BbK:W.findIn K (.ref Ad.Thing) "gaps_by_name"=some none
 BbL:W.findIn K (.ref Ad.Thing) "ways"=some none
 BbM:W.plainGet K Ad.Scale Str.empty=true
 BbN:W.hasDictIn K Ad.Scale=true
 BbO:W.plainOver K Ad.Scale=true
 BbP:W.findIn K (.ref Ad.Scale) "__setattr__"=some (some (.builtin "object.__setattr__"))
 BbQ:W.findIn K (.ref Ad.Scale) "bottom"=some none
 BbR:W.findIn K (.ref Ad.Scale) "factors"=some none
 cl1_Lid:W.plainGet K Ad.Lid Str.empty=true
 cl2_Lid:W.hasDictIn K Ad.Lid=true
 cl3_Lid:W.plainOver K Ad.Lid=true
 cl4_Lid:W.findIn K (.ref Ad.Lid) "__setattr__"=some (some (.builtin "object.__setattr__"))
 na1_Lid:W.findIn K (.ref Ad.Lid) "name"=some none
 na2_Lid:W.findIn K (.ref Ad.Lid) "rest"=some none
 na3_Lid:W.findIn K (.ref Ad.Lid) "weights"=some none
 na4_Lid:W.findIn K (.ref Ad.Lid) "load"=some none
 na5_Lid:W.findIn K (.ref Ad.Lid) "last_level"=some none
 BcU:∀ C,IsPart Ad C->PartC K C
 BdD:∀ C,IsGap Ad C->GapC K C
 Bcl:∀ C,Jc2 Ad C->JjZ K C
 Ba7:∀ C,Jbd Ad C->Jk1 K C
 BcJ:∀ C,Jdm Ad C->Jk0 K C
 c_Lid:∀ C,IsLid Ad C->LidC K C
def PEV (K:W.Frag) (H:Hp) (e:PD ⊕ D) (x:V):Prop:=match e with
 | .inl p=>PDV K H p x/\POk p
 | .inr c=>Rep K H c x/\szD c/\partB c=false
def GEV (K:W.Frag) (H:Hp) (e:GD ⊕ D) (x:V):Prop:=match e with
 | .inl g=>TV K H g.td x/\TOk g.td
 | .inr c=>Rep K H c x/\szD c/\gapB c=false
def POV (K:W.Frag) (Ad:Adr) (H:Hp) (p:PD) (v:V):Prop:=∃ q dx vz vm,v=.ref q/\H q=some (.ins Ad.Part dx (partF (.str p.nm) (.str p.st) (.str p.en) vz vm (.int p.wt)))/\FrV K H vz p.sz.1 p.sz.2/\FrV K H vm p.mo.1 p.mo.2
def GOV (K:W.Frag) (Ad:Adr) (H:Hp) (g:GD) (v:V):Prop:=∃ q dx vl vg,v=.ref q/\H q=some (.ins Ad.Gap dx (gapF (.str g.nm) (.str g.st) (.str g.en) vl vg))/\FrV K H vl g.lo.1 g.lo.2/\FrV K H vg g.hi.1 g.hi.2
section
variable {K:W.Frag} {Ad:Adr} {H H':Hp} {v x:V}
def isTI:HO->Bool
 | .ins _ _ _=>true
 | u=>isTF u
def SameI (H H':Hp):Prop:=∀ b u,isTI u=true->H b=some u->H' b=some u
theorem SameI.t (S:SameI H H'):SameT H H':=fun b u t h=>S b u (by cases u <;> first | exact t | (simp [isTF] at t)) h
theorem Same.i (S:Same H H'):SameI H H':=fun b u _ h=>S b u h
theorem PEV.same {e:PD ⊕ D} (S:Same H H') (h:PEV K H e x):PEV K H' e x:=by
 match e,h with
 | .inl t,h=>exact ⟨h.1.sameT S.t,h.2⟩
 | .inr c,h=>exact ⟨h.1.same S,h.2⟩
theorem GEV.same {e:GD ⊕ D} (S:Same H H') (h:GEV K H e x):GEV K H' e x:=by
 match e,h with
 | .inl t,h=>exact ⟨h.1.sameT S.t,h.2⟩
 | .inr c,h=>exact ⟨h.1.same S,h.2⟩
theorem POV.si {p:PD} (S:SameI H H'):POV K Ad H p v->POV K Ad H' p v:=by rintro ⟨q,d,f,g,a,e,b,c⟩;exact ⟨q,d,f,g,a,S _ _ rfl e,b.sameT S.t,c.sameT S.t⟩
theorem GOV.si {g:GD} (S:SameI H H'):GOV K Ad H g v->GOV K Ad H' g v:=by rintro ⟨q,d,f,h,a,e,b,c⟩;exact ⟨q,d,f,h,a,S _ _ rfl e,b.sameT S.t,c.sameT S.t⟩
end
def JK (Ad:Adr) (H0 H:Hp) (j d:Addr) (ls:List PD):Prop:=(∃ dx,H j=some (.ins Ad.Joints dx [("leads", .ref d)]))/\H0 d=none/\∃ kvs,H d=some (.dK kvs)/\kvs.length<=2*ls.length/\JD H0 H (JaE ls) kvs
theorem JK.same {Ad:Adr} {H0 H H':Hp} {j d:Addr} {ls:List PD} (S:Same H H'):JK Ad H0 H j d ls->JK Ad H0 H' j d ls:=fun ⟨⟨g,c⟩,h,a,e,f,b⟩=>⟨⟨g,S _ _ c⟩,h,a,S _ _ e,f,b.same S⟩
def TK (K:W.Frag) (Ad:Adr) (H:Hp) (x:Addr) (ls:List PD) (gs:List GD):Prop:=∃ dx d1 d2 d3 k1 k2 k3,H x=some (.ins Ad.Thing dx [("parts_by_name", .ref d1),("gaps_by_name", .ref d2),("ways", .ref d3)])/\H d1=some (.dK k1)/\BG (·.nm) (POV K Ad H) ls k1/\H d2=some (.dK k2)/\BG (·.nm) (GOV K Ad H) gs k2/\H d3=some (.dK k3)/\BG (·.nm) (WOV H ls) gs k3
theorem TK.same {K:W.Frag} {Ad:Adr} {H H':Hp} {x:Addr} {ls:List PD} {gs:List GD} (S:Same H H'):TK K Ad H x ls gs->TK K Ad H' x ls gs:=by rintro ⟨f,g,l,e,o,m,k,h,b,n,j,c,d,a⟩;exact ⟨f,g,l,e,o,m,k,S _ _ h,S _ _ b,n.mono fun _ _ z=>z.si (Same.i S),S _ _ j,c.mono fun _ _ z=>z.si (Same.i S),S _ _ d,a.mono fun _ _ z=>z.same S⟩
def SameJ (d:Addr) (H H':Hp):Prop:=∀ b u,b≠d->(∀ xs,u≠.lst xs)->H b=some u->H' b=some u
def SCK (Ad:Adr) (H:Hp) (x:Addr) (b:Int) (fs:List Int):Prop:=∃ dx fl,H x=some (.ins Ad.Scale dx [("bottom", .int b),("factors", .ref fl)])/\H fl=some (.lst (fs.map V.int))/\Scl b fs/\Mth.Sz 2000 b/\fs.length<=30
theorem SCK.same {Ad:Adr} {H H':Hp} {x:Addr} {b:Int} {fs:List Int} (S:Same H H'):SCK Ad H x b fs->SCK Ad H' x b fs:=by rintro ⟨e,a,c,f,d⟩;exact ⟨e,a,S _ _ c,S _ _ f,d⟩
def LDV (K:W.Frag) (Ad:Adr) (H:Hp) (e:LidD) (v:V):Prop:=∃ q dx vr vt wd,v=.ref q/\H q=some (.ins Ad.Lid dx [("name", .str e.nm),("rest",vr),("weights", .ref wd),("load", .int e.load),("last_level",vt)])/\FrV K H vr e.rest.1 e.rest.2/\FrV K H vt e.last.1 e.last.2/\H wd=some (.dK (wsK e.ws))
theorem LDV.same {K:W.Frag} {Ad:Adr} {H H':Hp} {e:LidD} {v:V} (S:Same H H'):LDV K Ad H e v->LDV K Ad H' e v:=by rintro ⟨q,g,h,j,c,b,i,d,f,a⟩;exact ⟨q,g,h,j,c,b,S _ _ i,d.same S,f.same S,S _ _ a⟩
theorem LDV.keep {K:W.Frag} {Ad:Adr} {H H':Hp} {e:LidD} {v:V} {q C dq:Addr} {fs:List (Str × V)} (S:∀ b u,b≠q->H b=some u->H' b=some u) (hq:H q=some (.ins C dq fs)) (hne:v≠.ref q):LDV K Ad H e v->LDV K Ad H' e v:=fun ⟨k,i,j,m,d,c,l,f,g,a⟩=>by
 have T:SameT H H':=fun b u t h=>S b u (fun z=>by rw [z,hq] at h;cases h;simp [isTF] at t) h;exact ⟨k,i,j,m,d,c,S _ _ (fun z=>hne (by rw [c,z])) l,f.sameT T,g.sameT T,S _ _ (fun z=>by rw [z,hq] at a;cases a) a⟩
theorem Same.cutN {H H':Hp} {d:Addr} (S:Same H H') (hd:H d=none):Same H (cut d H'):=fun b u h=>by
 rw [JbJ (fun z=>by rw [z,hd] at h;cases h)];exact S b u h
theorem SameT.cutO {H:Hp} {d:Addr} {o:HO} (h:H d=some o) (ho:isTF o=false):SameT H (cut d H):=fun b u t a=>by
 rw [JbJ (fun z=>by rw [z,h] at a;cases a;rw [ho] at t;cases t)];exact a
theorem LDV.notin {K:W.Frag} {Ad:Adr} {H:Hp} {es:List LidD} {xs:List V} {a:Addr} {u:HO} (hX:All2 (LDV K Ad H) es xs) (h:H a=some u) (hu:∀ dx fs,u≠.ins Ad.Lid dx fs):V.ref a∉xs:=fun z=>by
 obtain ⟨i,c⟩:=List.getElem?_of_mem z;obtain ⟨e,_,q,dx,g,j,f,b,d,_⟩:=hX.at_ c;have b:a=q:=by injection b
 rw [b,d] at h;exact hu _ _ (Option.some.inj h).symm
theorem LDV.dict {K:W.Frag} {Ad:Adr} {H H0 H':Hp} {e:LidD} {v:V} {d:Addr} {kv:List (Key × V)} (S:∀ b u,b≠d->H b=some u->H' b=some u) (hd:H d=some (.dK kv)) (hn:∀ wd,v=.ref wd->True) (h0:∀ q dx vr vt wd,H q=some (.ins Ad.Lid dx [("name", .str e.nm),("rest",vr),("weights", .ref wd),("load", .int e.load),("last_level",vt)])->v=.ref q->wd≠d):LDV K Ad H e v->LDV K Ad H' e v:=fun ⟨j,dx,vr,vt,wd,c,a,g,i,f⟩=>by
 have T:SameT H H':=fun b u t h=>S b u (fun z=>by rw [z,hd] at h;cases h;simp [isTF] at t) h;exact ⟨j,dx,vr,vt,wd,c,S _ _ (fun z=>by rw [z,hd] at a;cases a) a,g.sameT T,i.sameT T,S _ _ (h0 _ _ _ _ _ a c) f⟩
def ShV (K:W.Frag) (H:Hp) (r:ShD) (v:V):Prop:=∃ p vs t,v=.ref p/\SqT K H p [.str r.nm,vs, .ref t]/\FrV K H vs r.sl.1 r.sl.2/\SqT K H t (match r.sp with | none=>[.str (Str.ofString "most")] | some g=>[.str (Str.ofString "gap"), .str g])
theorem ShV.sameT {K:W.Frag} {H H':Hp} {r:ShD} {v:V} (S:SameT H H'):ShV K H r v->ShV K H' r v:=by rintro ⟨p,a,t,b,e,c,d⟩;exact ⟨p,a,t,b,e.sameT S,c.sameT S,d.sameT S⟩
def shD (r:ShD):D:=.tup [.str r.nm,frD r.sl, .tup (match r.sp with | none=>[.str (Str.ofString "most")] | some g=>[.str (Str.ofString "gap"), .str g])]
theorem ShV.rep {K:W.Frag} {H:Hp} {r:ShD} {v:V} (h:ShV K H r v):Rep K H (shD r) v:=by
 obtain ⟨p,d,t,rfl,c,a,b⟩:=h;have a:=FrV.rep a;cases e:r.sp with
 | none=>
  rw [e] at b;unfold shD;rw [e];simp only [Rep,RepL];exact ⟨p,_,rfl,c,_,_,rfl,rfl,_,_,rfl,by simpa only [Rep,RepL,frD] using a,_,_,rfl,⟨t,_,rfl,b,_,_,rfl,rfl,rfl⟩,rfl⟩
 | some g=>
  rw [e] at b;unfold shD;rw [e];simp only [Rep,RepL];exact ⟨p,_,rfl,c,_,_,rfl,rfl,_,_,rfl,by simpa only [Rep,RepL,frD] using a,_,_,rfl,⟨t,_,rfl,b,_,_,rfl,rfl,_,_,rfl,rfl,rfl⟩,rfl⟩
section
variable {P:Program} {w:World} {K:W.Frag} {mg:Str->Option Value} {base:Heap} {Ad:Adr}
seal PE PA PS PSs PT PW PG PGs PI PO
abbrev Bah:Stmt:=top 11
theorem JaR:Jan ["one","other","greater","lesser","rest"] ["one","other"] (Jae Bah):=by bv_decide
def JaD  : Sp:=fun vs H Q E=>∃ (a b:Int),vs=[.int a, .int b]/\Q (.int (Mth.g a b)) H
theorem Jdu (F:FunD K "common_divisor" "common_divisor" Bah dV f fd) (T:Txt K mg Ad)  : FnOk P w K mg base (CX1 P w) 1 f fd ["one","other"] (JaD):=by
 refine F.okn JaR (by subst_eqs) (fun p A d s H r Q E o h=>?_)
 obtain ⟨a,b,rfl,h⟩:=h;have j:=o.units;refine ⟨_,(Jab (Jaj (i:=2) JaR.nd rfl (Or.inl rfl) (Jat Jc4 rfl T.BdM JgL (Jaa (pv 0) Jad)))
   (Jab (Jaj (i:=3) JaR.nd rfl (Or.inl rfl) (Jat Jc4 rfl T.BdM JgL (Jaa (pv 1) Jad)))
   (Jab (JdP PassesOwn.never (Jaz (Jdc j) (pv 3) Jac (JaC _))
   (Jab (Jaj (i:=4) JaR.nd rfl (Or.inl rfl) (pe_op JaA (pv 2) (pv 3)))
   (Jab (Jaj (i:=2) JaR.nd rfl (Or.inl rfl) (pv 3))
   (Jai (Jaj (i:=3) JaR.nd rfl (Or.inl rfl) (pv 4))))))
   (Jai (Jaq (pv 2)))))),?_⟩
 clear j;show tSeq _ _ _ [some (.int a),some (.int b),none,none,none] H;try infer_instance
 refine ⟨fun m σ k=>∃ (x y:Int) (z:Option V),σ=[some (.int a),some (.int b),some (.int x),some (.int y),z]/\k=H/\0<=x/\0<=y/\Mth.g x y=Mth.g a b/\y.toNat=m,⟨_,_,_,none,rfl,rfl,Mth.JjB a,Mth.JjB b,Mth.Bd3 a b,rfl⟩,?_⟩;rintro m σ k ⟨x,y,z,rfl,rfl,t,n,l,rfl⟩;try infer_instance
 by_cases c:y=0
 ·subst c;rw [if_neg (by simp)];have e:Mth.g a b=x:=by rw [<- l,Mth.JjH];ac_nf
  rw [e] at h;exact h
 ·rw [if_pos (by simp [c])];have f:=Mth.fm (x:=x) (y:=y) ∅;exact ⟨_,fun _ _ q=>q,c,(x.fmod y).toNat,by ac_nf,y,x.fmod y,_,rfl,rfl,n,f.1,by rw [Mth.JhW ∅];exact l,rfl⟩
abbrev BcV:Stmt:=top 12
theorem Jfk:Jan ["one","other","shared","top","rest"] ["one","other"] (Jae BcV):=by bv_decide
def Jfo (K:W.Frag):Sp:=fun vs H Q E=>∃ (x y:V) (a b c d:Int),vs=[x,y]/\FrV K H x a b/\FrV K H y c d/\Mth.Sz 4000 a/\Mth.Sz 4000 b/\Mth.Sz 4000 c/\Mth.Sz 4000 d/\1<=b/\1<=d/\Mth.g a b=1/\Mth.g c d=1/\∀ p H',Same H H'->H' p=some (.tup [.int (Mth.top (a*d+c*b) (b*d)), .int (Mth.bot (a*d+c*b) (b*d))])->Q (.ref p) H'
theorem Jkx (F:FunD K "plus" "plus" BcV dV f fd) (T:Txt K mg Ad) (Bac:Cal P w K mg base 1 "common_divisor" ["one","other"] [] (JaD)):FnOk P w K mg base (CX1 P w) 2 f fd ["one","other"] (Jfo K):=by
 refine F.okn Jfk (by subst_eqs) (fun U A n s H V Q E u h=>?_)
 obtain ⟨x,y,a,b,c,d,rfl,h⟩:=h;refine ⟨_,(Jab (Jaj (i:=2) Jfk.nd rfl (Or.inl rfl) (Bac.ev u ⋯ rfl passF (Jaa (pe_ix ix_U (pv 0) Jac (fun _ _=>rfl)) (Jaa (pe_ix ix_U (pv 1) Jac (fun _ _=>rfl)) Jad)) (he:=by exact Jaf rfl)))
   (Jab (Jaj (i:=3) Jfk.nd rfl (Or.inl rfl) (pe_op Ja1 (pe_op Jax (pe_ix ix_U (pv 0) Jac (fun _ _=>rfl)) (pe_op Jas (pe_ix ix_U (pv 1) Jac (fun _ _=>rfl)) (pv 2))) (pe_op Jax (pe_ix ix_U (pv 1) Jac (fun _ _=>rfl)) (pe_op Jas (pe_ix ix_U (pv 0) Jac (fun _ _=>rfl)) (pv 2)))))
   (Jab (Jaj (i:=4) Jfk.nd rfl (Or.inl rfl) (Bac.ev u ⋯ rfl passF (Jaa (pv 3) (Jaa (pv 2) Jad)) (he:=by exact Jaf rfl)))
   (Jai (Jaq (JaG (Jaa (pe_op Jas (pv 3) (pv 4)) (Jaa (pe_op Jax (pe_op Jas (pe_ix ix_U (pv 0) Jac (fun _ _=>rfl)) (pv 2)) (pe_op Jas (pe_ix ix_U (pv 1) Jac (fun _ _=>rfl)) (pv 4))) Jad)))))))),?_⟩
 obtain ⟨j,e,G,J,X,m,N,R,M,L,k⟩:=h;show tSeq _ _ _ [some x,some y,none,none,none] H;try infer_instance
 refine ixF1 j (ixF1 e ?_);try infer_instance
 refine ⟨_,_,rfl,?_⟩;try infer_instance
 have Y:=Mth.g_pos (a:=b) (b:=d) ∅;have C:=Mth.Jcw b d;have v:=Mth.JbK b d;have z:Mth.Sz 4000 (Mth.g b d):=Nat.lt_of_le_of_lt (by have:=Mth.g_le (a:=b) (b:=d) ∅;ac_nf:(Mth.g b d).natAbs<=d.natAbs) m;have l:DivOk (Mth.g b d):=divOk ∅ z;have r:=J.fdiv C ∅;have I:=m.fdiv v ∅;refine ixF0 j (ixF1 e ?_);try infer_instance
 refine ⟨l,mulOk G I,ixF0 e (ixF1 j ?_)⟩;try infer_instance
 refine ⟨l,mulOk X r,?_⟩;refine ⟨_,_,rfl,?_⟩;have o:=Mth.JkJ N R M L (s:=Mth.g b d) rfl rfl rfl;generalize ht:a*d.fdiv (Mth.g b d)+c*b.fdiv (Mth.g b d)=t at o ⊢;have Z:=Mth.g_pos (a:=t) (b:=Mth.g b d) ∅;have O:=Mth.JbK t (Mth.g b d);have W:Mth.Sz 4000 (Mth.g t (Mth.g b d)):=Nat.lt_of_le_of_lt (by have:=Mth.g_le (a:=t) (b:=Mth.g b d) ∅;ac_nf:(Mth.g t (Mth.g b d)).natAbs<=(Mth.g b d).natAbs) z;have q:DivOk (Mth.g t (Mth.g b d)):=divOk ∅ W;try infer_instance
 refine ⟨q,ixF1 j ?_⟩;try infer_instance
 refine ⟨l,ixF1 e ?_⟩;try infer_instance
 refine ⟨q,mulOk r (m.fdiv (Int.dvd_trans O v) ∅),len2,?_⟩;refine Jd6 fun p D S B=>k p D S ?_;rw [B,o.1,o.2]
abbrev Bco:Stmt:=top 13
theorem Jjt:Jan ["one","other"] ["one","other"] (Jae Bco):=by bv_decide
def Jdk (K:W.Frag):Sp:=fun vs H Q E=>∃ (x y:V) (a b c d:Int),vs=[x,y]/\FrV K H x a b/\FrV K H y c d/\Mth.Sz 4000 a/\Mth.Sz 4000 b/\Mth.Sz 4000 c/\Mth.Sz 4000 d/\1<=b/\1<=d/\Mth.g a b=1/\Mth.g c d=1/\∀ p H',Same H H'->H' p=some (.tup [.int (Mth.top (a*d-c*b) (b*d)), .int (Mth.bot (a*d-c*b) (b*d))])->Q (.ref p) H'
theorem Jjc (F:FunD K "minus" "minus" Bco dV f fd) (T:Txt K mg Ad) (BcW:Cal P w K mg base 2 "plus" ["one","other"] [] (Jfo K)):FnOk P w K mg base (CX1 P w) 3 f fd ["one","other"] (Jdk K):=by
 refine F.okn Jjt (by subst_eqs) (fun G A e s H I Q E t h=>?_)
 obtain ⟨x,y,a,b,c,d,rfl,h⟩:=h;refine ⟨_,(Jai (Jaq (BcW.ev t ⋯ rfl passF (Jaa (pv 0) (Jaa (JaG (Jaa (pe_un Jf2 (pe_ix ix_U (pv 1) Jac (fun _ _=>rfl))) (Jaa (pe_ix ix_U (pv 1) Jac (fun _ _=>rfl)) Jad))) Jad)) (he:=by exact Jaf rfl)))),?_⟩;obtain ⟨m,g,l,q,J,u,z,D,v,r,k⟩:=h;show tRet _ _ [some x,some y] H;try infer_instance
 refine ixF0 g ?_;try infer_instance
 refine ixF1 g ?_;try infer_instance
 refine ⟨len2,?_⟩;rename_i p n L H M S i;refine ⟨_,_,a,b, -c,d,rfl,m.same S,FrV.of i,l,q,J.neg,u,z,D,v,by rw [Mth.g_neg];exact r,fun j B C o=>k j B (S.trans C) ?_⟩;rw [o,Int.neg_mul, <- Int.sub_eq_add_neg]
abbrev Bcp:Stmt:=top 14
theorem Jfl:Jan ["one","other","across","back"] ["one","other"] (Jae Bcp):=by bv_decide
def Jdl (K:W.Frag):Sp:=fun vs H Q E=>∃ (x y:V) (a b c d:Int),vs=[x,y]/\FrV K H x a b/\FrV K H y c d/\Mth.Sz 4000 a/\Mth.Sz 4000 b/\Mth.Sz 4000 c/\Mth.Sz 4000 d/\1<=b/\1<=d/\Mth.g a b=1/\Mth.g c d=1/\∀ p H',Same H H'->H' p=some (.tup [.int (Mth.top (a*c) (b*d)), .int (Mth.bot (a*c) (b*d))])->Q (.ref p) H'
theorem Jje (F:FunD K "times" "times" Bcp dV f fd) (T:Txt K mg Ad) (Bac:Cal P w K mg base 1 "common_divisor" ["one","other"] [] (JaD)):FnOk P w K mg base (CX1 P w) 2 f fd ["one","other"] (Jdl K):=by
 refine F.okn Jfl (by subst_eqs) (fun R A l s H U Q E n h=>?_)
 obtain ⟨x,y,a,b,c,d,rfl,h⟩:=h;refine ⟨_,(Jab (Jaj (i:=2) Jfl.nd rfl (Or.inl rfl) (Bac.ev n ⋯ rfl passF (Jaa (pe_ix ix_U (pv 0) Jac (fun _ _=>rfl)) (Jaa (pe_ix ix_U (pv 1) Jac (fun _ _=>rfl)) Jad)) (he:=by exact Jaf rfl)))
   (Jab (Jaj (i:=3) Jfl.nd rfl (Or.inl rfl) (Bac.ev n ⋯ rfl passF (Jaa (pe_ix ix_U (pv 1) Jac (fun _ _=>rfl)) (Jaa (pe_ix ix_U (pv 0) Jac (fun _ _=>rfl)) Jad)) (he:=by exact Jaf rfl)))
   (Jai (Jaq (JaG (Jaa (pe_op Jax (pe_op Jas (pe_ix ix_U (pv 0) Jac (fun _ _=>rfl)) (pv 2)) (pe_op Jas (pe_ix ix_U (pv 1) Jac (fun _ _=>rfl)) (pv 3))) (Jaa (pe_op Jax (pe_op Jas (pe_ix ix_U (pv 0) Jac (fun _ _=>rfl)) (pv 3)) (pe_op Jas (pe_ix ix_U (pv 1) Jac (fun _ _=>rfl)) (pv 2))) Jad))))))),?_⟩
 obtain ⟨j,e,D,m,V,q,N,O,L,G,k⟩:=h;show tSeq _ _ _ [some x,some y,none,none] H;try infer_instance
 refine ixF0 j (ixF1 e ?_);try infer_instance
 refine ⟨_,_,rfl,?_⟩;refine ixF0 e (ixF1 j ?_);try infer_instance
 refine ⟨_,_,rfl,?_⟩;try infer_instance
 have X:=Mth.g_pos (a:=a) (b:=d) ∅;have Y:=Mth.g_pos (a:=c) (b:=b) ∅;have M:=Mth.Jcw a d;have J:=Mth.JbK a d;have I:=Mth.Jcw c b;have W:=Mth.JbK c b;have B:Mth.Sz 4000 (Mth.g a d):=Nat.lt_of_le_of_lt (by have:=Mth.g_le (a:=a) (b:=d) ∅;ac_nf:(Mth.g a d).natAbs<=d.natAbs) q;have vl:Mth.Sz 4000 (Mth.g c b):=Nat.lt_of_le_of_lt (by have:=Mth.g_le (a:=c) (b:=b) ∅;ac_nf:(Mth.g c b).natAbs<=b.natAbs) m;have t:DivOk (Mth.g a d):=divOk ∅ B;have o:DivOk (Mth.g c b):=divOk ∅ vl;have r:=Mth.Jjw N O L G (u:=Mth.g a d) (v:=Mth.g c b) rfl rfl;refine ixF0 j ?_;try infer_instance
 refine ⟨t,ixF0 e ?_⟩;try infer_instance
 refine ⟨o,mulOk (D.fdiv M ∅) (V.fdiv I ∅),ixF1 j ?_⟩;try infer_instance
 refine ⟨o,ixF1 e ?_⟩;try infer_instance
 refine ⟨t,mulOk (m.fdiv W ∅) (q.fdiv J ∅),len2,?_⟩;refine Jd6 fun p C S z=>k p C S ?_;rw [z,r.1,r.2]
abbrev BcX:Stmt:=top 15
theorem JkP:Jan ["one","other"] ["one","other"] (Jae BcX):=by bv_decide
def Jfn (K:W.Frag) (Ad:Adr):Sp:=fun vs H Q E=>∃ (x y:V) (a b c d:Int),vs=[x,y]/\FrV K H x a b/\FrV K H y c d/\Mth.Sz 4000 a/\Mth.Sz 4000 b/\Mth.Sz 4000 c/\Mth.Sz 4000 d/\1<=b/\1<=d/\Mth.g a b=1/\Mth.g c d=1/\(c=0->E (.ref Ad.NoNumber) none H)/\(c≠0->∀ p H',Same H H'->H' p=some (.tup [.int (Mth.top (a*d) (b*c)), .int (Mth.bot (a*d) (b*c))])->Q (.ref p) H')
theorem Jkw (F:FunD K "over" "over" BcX dV f fd) (T:Txt K mg Ad) (Bbd:Cal P w K mg base 2 "times" ["one","other"] [] (Jdl K)):FnOk P w K mg base (CX1 P w) 3 f fd ["one","other"] (Jfn K Ad):=by
 refine F.okx JkP (fun U H Q E h=>?_) (fun R A u s H U Q E o h=>?_)
 ·obtain ⟨x,y,a,b,c,d,rfl,_⟩:=h;rfl
 obtain ⟨x,y,a,b,c,d,rfl,h⟩:=h;have M:=o.units;refine ⟨_,(Jab (ps_if (Jaz (Jcx M) (pe_ix ix_U (pv 1) Jac (fun _ _=>rfl)) Jac (JaC _))
   (Jai (Jb0 PySem.F.excBase_ValueError T.x_NoNumber rfl T.m_NoNumber (Jaa Jbu Jad)))
   Jay)
   (Jab (ps_if (Jaz JeP (pe_ix ix_U (pv 1) Jac (fun _ _=>rfl)) Jac (JaC _))
   (Jai (Jaq (Bbd.ev o ⋯ rfl pass1 (Jaa (pv 0) (Jaa (JaG (Jaa (pe_un Jf2 (pe_ix ix_U (pv 1) Jac (fun _ _=>rfl))) (Jaa (pe_un Jf2 (pe_ix ix_U (pv 1) Jac (fun _ _=>rfl))) Jad))) Jad)) (he:=by exact Jaf rfl))))
   Jay)
   (Jai (Jaq (Bbd.ev o ⋯ rfl pass1 (Jaa (pv 0) (Jaa (JaG (Jaa (pe_ix ix_U (pv 1) Jac (fun _ _=>rfl)) (Jaa (pe_ix ix_U (pv 1) Jac (fun _ _=>rfl)) Jad))) Jad)) (he:=by exact Jaf rfl)))))),?_⟩
 clear M;obtain ⟨C,g,B,D,N,I,L,W,J,G,V,k⟩:=h;show tSeq _ _ _ [some x,some y] H;try infer_instance
 refine ixF0 g ?_;try infer_instance
 by_cases i:c=0
 ·rw [if_pos (by simpa using i)];try infer_instance
  exact ⟨by decide,V i⟩
 ·rw [if_neg (by simpa using i)];refine ixF0 g ?_;try infer_instance
  by_cases v:c<0
  ·rw [if_pos (by simpa using v)];refine ixF1 g ?_;try infer_instance
   refine ixF0 g ?_;try infer_instance
   refine ⟨len2,?_⟩;rename_i p m z H O S j;refine ⟨_,_,a,b, -d, -c,rfl,C.same S,FrV.of j,B,D,I.neg,N.neg,L,by ac_nf,J,by rw [Mth.g_neg,Mth.Jk9,Mth.JjG];exact G,fun l q r n=>k i l q (S.trans r) ?_⟩;have e:=Mth.Jkt (t:=a*d) (b:=b*c) (Int.mul_neg_of_pos_of_neg ∅ v);rw [n,Int.mul_neg,Int.mul_neg,e.1,e.2]
  ·rw [if_neg (by simpa using v)];refine ixF1 g ?_;try infer_instance
   refine ixF0 g ?_;try infer_instance
   refine ⟨len2,?_⟩;rename_i p m z H O S j;exact ⟨_,_,a,b,d,c,rfl,C.same S,FrV.of j,B,D,I,N,L,by ac_nf,J,by rw [Mth.JjG];exact G,fun l q r n=>k i l q (S.trans r) n⟩
abbrev Bcq:Stmt:=top 16
theorem Jju:Jan ["one","other"] ["one","other"] (Jae Bcq):=by bv_decide
def Jcu (K:W.Frag):Sp:=fun vs H Q E=>∃ (x y:V) (a b c d:Int),vs=[x,y]/\FrV K H x a b/\FrV K H y c d/\Mth.Sz 4000 a/\Mth.Sz 4000 b/\Mth.Sz 4000 c/\Mth.Sz 4000 d/\Q (.bl (decide (a*d<c*b))) H
theorem Jjf (F:FunD K "under" "under" Bcq dV f fd) (T:Txt K mg Ad)  : FnOk P w K mg base (CX1 P w) 1 f fd ["one","other"] (Jcu K):=by
 refine F.okn Jju (by subst_eqs) (fun n A e s H o Q E q h=>?_)
 obtain ⟨x,y,a,b,c,d,rfl,h⟩:=h;refine ⟨_,(Jai (Jaq (Jbv JeP (pe_op Jax (pe_ix ix_U (pv 0) Jac (fun _ _=>rfl)) (pe_ix ix_U (pv 1) Jac (fun _ _=>rfl))) (pe_op Jax (pe_ix ix_U (pv 1) Jac (fun _ _=>rfl)) (pe_ix ix_U (pv 0) Jac (fun _ _=>rfl))) (JaC _)))),?_⟩;obtain ⟨i,g,j,l,p,m,k⟩:=h;show tRet _ _ [some x,some y] H;nofun;refine ixF0 i (ixF1 g ?_);nofun;refine ⟨mulOk j m,ixF0 g (ixF1 i ?_)⟩;nofun;exact ⟨mulOk p l,k⟩
abbrev Bbr:Stmt:=top 22
theorem Jhw:Jan ["thing"] ["thing"] (Jae Bbr):=by bv_decide
def Jcc (K:W.Frag):Sp:=fun vs H Q E=>∃ (x:V) (d:D),vs=[x]/\Rep K H d x/\szD d/\∀ H',Same H H'->Q (.bl (nameB d)) H'
theorem Jho (F:FunD K "is_name" "is_name" Bbr dV f fd) (T:Txt K mg Ad)  : FnOk P w K mg base (CX1 P w) 1 f fd ["thing"] (Jcc K):=by
 refine F.okn Jhw (by subst_eqs) (fun D A l s H I Q E L h=>?_)
 obtain ⟨x,d,rfl,h⟩:=h;refine ⟨_,(Jab (ps_if (JbF (Jbc (Jat JaM rfl T.Bav Ja6 (Jaa (pv 0) (Jaa (JcS (v:=.ty "str") rfl T.Bd4 Jk4 rfl) Jad)))))
   (Jai (Jaq pe_bl))
   Jay)
   (Jab (ps_if (PW.pt (pw_or (Jaz JeP (Jat Ja8 rfl T.BbE Jbs (Jaa (pv 0) Jad)) Jac (JaC _)) (JcD (Jaz Jg0 (Jat Ja8 rfl T.BbE Jbs (Jaa (pv 0) Jad)) (JcT (v:=.int 8) rfl T.BcS T.BcT) (JaC _)))))
   (Jai (Jaq pe_bl))
   Jay)
   (Jai (Jaq (Jat (JhI rfl) rfl T.Bd6 Jk2 (Jaa (Jeg (own:=["sign"]) (cs:=[]) (cl:=[]) rfl (Jly (pv 0)) (fun _ _ _ _=>(Jap (i:=0) (show [("sign" : Str)].Nodup by decide) rfl (Or.inl rfl))) (fun _ _ _ _=>(Jbv (Jlr (K:=K) rfl) (pv 0) (JcT (v:=.str "abcdefghijklmnopqrstuvwxyz") rfl T.Bcw T.Bcx) (by with_unfolding_all rfl))) rfl ⋯ rfl ⋯ hcl0 (hhas0 ⋯) hcs0) Jad)))))),?_⟩
 obtain ⟨g,q,k⟩:=h;show tSeq _ _ _ [some x] H;nofun;refine ⟨_,g.tyN,?_⟩;by_cases n:∃ z,d=.str z
 ·obtain ⟨z,rfl⟩:=n;simp only [Rep] at g;subst g;simp only [szD] at q;simpa only [tyD]
  (try ((with_reducible refine Nxt.go (by assumption) ?_);nofun))
  have t:z.length<=sizeLine:=Nat.le_trans q ⋯;simp only [nameB,nameS] at k;refine ⟨t,?_⟩;nofun;by_cases R:z.length<1
  ·rw [if_pos (by simp;ac_nf)];nofun;have e:decide (1<=z.length)=false:=by simp;ac_nf
   rw [e] at k;exact k H (.refl H)
  ·rw [if_neg (by simp;ac_nf)];nofun;have e:decide (1<=z.length)=true:=by simp;ac_nf
   rw [e] at k;refine ⟨t,?_⟩;nofun;by_cases U:8<z.length
   ·rw [if_pos (by simp;ac_nf)];nofun;have e:decide (z.length<=8)=false:=by simp;ac_nf
    rw [e] at k;exact k H (.refl H)
   ·rw [if_neg (by simp;ac_nf)];nofun;have e:decide (z.length<=8)=true:=by simp;ac_nf
    rw [e] at k;nofun;simpa only [tComp,iStr];refine ⟨fun i m r j=>j=H/\i<=z.cps.size/\m=z.cps.size-i/\r=(z.cps.toList.take i).map fun c=>V.bl (lowB c),⟨_,rfl,Nat.zero_le _,rfl,by simp⟩,?_⟩;rintro i m r j ⟨rfl,O,rfl,rfl⟩;have N:z.cps.size=z.length:=rfl;refine ⟨by simp;ac_nf,?_⟩;by_cases b:i<z.cps.size
    ·refine .inr ⟨b,?_⟩;rintro x o ⟨rfl,c,y,rfl⟩;simpa only [length_singleton,List.replicate,JaB,map_nil,y5dy,Jhj];refine ⟨_,Nat.sub_lt_sub_left b (Nat.lt_succ_self i),b,rfl,?_⟩;have a:z.cps.toList[i]?=some c:=by simpa using y
     rw [take_succ,a];simp
    ·have u:i=z.cps.size:=by ac_nf
     refine .inl ⟨u,?_⟩;subst u;rw [take_of_length_le (by simp)];rename_i p J M j o S G;refine ⟨p,z.cps.toList.map lowB,rfl,SqL.of (by rw [G,map_map];rfl),?_⟩;have:=k o S;simpa [List.all_map] using this
 ·have B:nameB d=false:=by cases d <;> first | rfl | exact absurd ⟨_,rfl⟩ n
  rw [B] at k;have C:isiB (tyD d) "str"=false:=by cases d <;> first | rfl | exact absurd ⟨_,rfl⟩ n
  simpa only [C];exact k H (.refl H)
abbrev BaZ:Stmt:=top 23
theorem JgD:Jan ["thing"] ["thing"] (Jae BaZ):=by bv_decide
def Jco (K:W.Frag):Sp:=fun vs H Q E=>∃ (x:V) (d:D),vs=[x]/\Rep K H d x/\Q (.bl (Jce d)) H
theorem Jgo (F:FunD K "is_whole" "is_whole" BaZ dV f fd) (T:Txt K mg Ad)  : FnOk P w K mg base (CX1 P w) 1 f fd ["thing"] (Jco K):=by
 refine F.okn JgD (by subst_eqs) (fun g A b s H e Q E i h=>?_)
 obtain ⟨x,d,rfl,h⟩:=h;refine ⟨_,(Jai (Jaq (JcA (Jat JaM rfl T.Bav Ja6 (Jaa (pv 0) (Jaa (JcS (v:=.ty "int") rfl T.BdU JhG rfl) Jad))) (JdC (Jip (Jat JaM rfl T.Bav Ja6 (Jaa (pv 0) (Jaa (JcS (v:=.ty "bool") rfl T.Bd1 Jj5 rfl) Jad)))))))),?_⟩;obtain ⟨c,k⟩:=h;show tRet _ _ [some x] H;nofun;refine ⟨_,c.tyN,?_⟩;have a:=c.tyN;cases d <;> simp only [tyD,Jce,y83y,y4fy,y50y,y51y,y72y,y2by,y6dy,y80y,y81y,y47y,y2ey,y79y,y93y,y30y,y3cy,y73y,y2fy,y89y,y23y,y29y,y7ay,y75y,y2ay,y7by,y77y,y5by,y95y,y26y,y87y,y71y,y6ay,y4cy,y69y,y7ey,y33y,y4ay,y6fy,y4by,y70y,y49y,y6ey,y8ey,y65y,y61y,y90y,y92y,y8fy,y91y,y25y,y68y,y24y,true_and,if_true,if_false,Bool.not_true,Bool.not_false,Bool.false_eq_true,yby,ydy,yay,ycy,yey,y15y,y17y,y14y,y16y,y18y,y6y,y8y,y5y,y7y,y9y,y1y,y3y,y0y,y2y,y4y,y10y,y12y,yfy,y11y,y13y,y1ay,y1cy,y19y,y1by,y1dy,y1fy,y21y,y1ey,y20y,y22y,y85y,y7dy,y74y,y31y,y32y,y55y,y63y,y64y,y4ey,y86y,y8cy,y96y,y7fy,y27y,V.int.injEq,V.str.injEq,List.set_cons_zero,List.set_cons_succ,List.getElem?_cons_zero,List.getElem?_cons_succ,Option.some.injEq,exists_eq_left,exists_eq_left',V.bl.injEq,Int.reduceToNat,Int.reducePow,append_nil,nil_append,cons_append,y57y,y59y,y2cy,y2dy,y6by,y60y,y76y,y66y,y67y,y3dy,y3ey,y3fy,y46y,y48y,y41y,y7cy,y43y,y42y,y34y,y36y,y3ay,y40y,y44y,y52y,y54y,y5cy,y38y,y8by,y88y,y37y,y98y,reduceCtorEq,decide_false,decide_true] at k a ⊢ <;> first | exact k | exact ⟨_,a,by simpa only [y83y,y4fy,y50y,y51y,y72y,y2by,y6dy,y80y,y81y,y47y,y2ey,y79y,y93y,y30y,y3cy,y73y,y2fy,y89y,y23y,y29y,y7ay,y75y,y2ay,y7by,y77y,y5by,y95y,y26y,y87y,y71y,y6ay,y4cy,y69y,y7ey,y33y,y4ay,y6fy,y4by,y70y,y49y,y6ey,y8ey,y65y,y61y,y90y,y92y,y8fy,y91y,y25y,y68y,y24y,true_and,if_true,if_false,Bool.not_true,Bool.not_false,Bool.false_eq_true,yby,ydy,yay,ycy,yey,y15y,y17y,y14y,y16y,y18y,y6y,y8y,y5y,y7y,y9y,y1y,y3y,y0y,y2y,y4y,y10y,y12y,yfy,y11y,y13y,y1ay,y1cy,y19y,y1by,y1dy,y1fy,y21y,y1ey,y20y,y22y,y85y,y7dy,y74y,y31y,y32y,y55y,y63y,y64y,y4ey,y86y,y8cy,y96y,y7fy,y27y,V.int.injEq,V.str.injEq,List.set_cons_zero,List.set_cons_succ,List.getElem?_cons_zero,List.getElem?_cons_succ,Option.some.injEq,exists_eq_left,exists_eq_left',V.bl.injEq,Int.reduceToNat,Int.reducePow,append_nil,nil_append,cons_append,y57y,y59y,y2cy,y2dy,y6by,y60y,y76y,y66y,y67y,y3dy,y3ey,y3fy,y46y,y48y,y41y,y7cy,y43y,y42y,y34y,y36y,y3ay,y40y,y44y,y52y,y54y,y5cy,y38y,y8by,y88y,y37y,y98y,reduceCtorEq,decide_false,decide_true] using k⟩
abbrev Baz:Stmt:=top 24
theorem JeD:Jan ["thing"] ["thing"] (Jae Baz):=by bv_decide
def JbE (K:W.Frag):Sp:=fun vs H Q E=>∃ (x:V) (d:D),vs=[x]/\Rep K H d x/\Q (.bl (fracB d)) H
theorem Jez (F:FunD K "is_fraction" "is_fraction" Baz dV f fd) (T:Txt K mg Ad) (BaQ:Cal P w K mg base 1 "is_whole" ["thing"] [] (Jco K)) (Bac:Cal P w K mg base 1 "common_divisor" ["one","other"] [] (JaD)):FnOk P w K mg base (CX1 P w) 2 f fd ["thing"] (JbE K):=by
 refine F.okn JeD (by subst_eqs) (fun G A t s H I Q E b h=>?_)
 obtain ⟨x,d,rfl,h⟩:=h;have r:=b.units;refine ⟨_,(Jab (ps_if (PW.pt (pw_or (JbF (Jbc (Jat JaM rfl T.Bav Ja6 (Jaa (pv 0) (Jaa (JcS (v:=.ty "tuple") rfl T.Bc0 JdK rfl) Jad))))) (JcD (Jaz (Jdc r) (Jat Ja8 rfl T.BbE Jbs (Jaa (pv 0) Jad)) Jac (JaC _)))))
   (Jai (Jaq pe_bl))
   Jay)
   (Jab (ps_if (PW.pt (pw_or (JbF (Jbc (BaQ.ev b ⋯ rfl passF (Jaa (pe_ix ix_U (pv 0) Jac (fun _ _=>rfl)) Jad) (he:=by exact Jaf rfl)))) (JcD (JbF (Jbc (BaQ.ev b ⋯ rfl passF (Jaa (pe_ix ix_U (pv 0) Jac (fun _ _=>rfl)) Jad) (he:=by exact Jaf rfl)))))))
   (Jai (Jaq pe_bl))
   Jay)
   (Jai (Jaq (JcA (Jbv JjK (pe_ix ix_U (pv 0) Jac (fun _ _=>rfl)) Jac (JaC _)) (JdC (Jbv (Jcx r) (Bac.ev b ⋯ rfl passF (Jaa (pe_ix ix_U (pv 0) Jac (fun _ _=>rfl)) (Jaa (pe_ix ix_U (pv 0) Jac (fun _ _=>rfl)) Jad)) (he:=by exact Jaf rfl)) Jac (JaC _)))))))),?_⟩
 clear r;obtain ⟨n,k⟩:=h;show tSeq _ _ _ [some x] H;nofun;refine ⟨_,n.tyN,?_⟩;by_cases y:∃ m,d=.tup m
 ·obtain ⟨m,rfl⟩:=y;simpa only [tyD]
  (try ((with_reducible refine Nxt.go (by assumption) ?_);nofun))
  simp only [Rep] at n;obtain ⟨a,B,rfl,l,b⟩:=n;have N:=b.length;refine ⟨B, .inr l,?_⟩;nofun;by_cases z:m.length=2
  ·match m,z with
   | [d0,d1],_=>
    simp only [RepL] at b;obtain ⟨J,L,rfl,p,C,M,rfl,u,rfl⟩:=b;simpa only [length_cons,length_nil];rw [if_neg (by simp)];nofun;nofun;refine ixT0 l ?_;refine ⟨J,d0,rfl,p,?_⟩;nofun;by_cases q:Jce d0=true
    ·rw [if_neg (by simp [q])];nofun;refine ixT1 l ?_;refine ⟨C,d1,rfl,u,?_⟩;nofun;by_cases o:Jce d1=true
     ·rw [if_neg (by simp [o])];nofun;obtain ⟨i,rfl⟩:∃ i,d0=.int i:=by cases d0 <;> simp [Jce] at q;exact ⟨_,rfl⟩
      obtain ⟨j,rfl⟩:∃ j,d1=.int j:=by cases d1 <;> simp [Jce] at o;exact ⟨_,rfl⟩
      simp only [Rep] at p u;subst p u;simp only [fracB] at k;nofun;refine ixT1 l ?_;nofun;by_cases c:1<=j
      ·rw [if_pos (by simpa using c)];nofun;refine ixT0 l (ixT1 l ?_);refine ⟨_,_,rfl,?_⟩;nofun;simpa [c] using k
      ·rw [if_neg (by simpa using c)];nofun;simpa [c] using k
     ·rw [if_pos (by simp [o])];nofun;nofun;have g:fracB (.tup [d0,d1])=false:=by cases d0 <;> cases d1 <;> simp_all [fracB,Jce]
      rw [g] at k;exact k
    ·rw [if_pos (by simp [q])];nofun;nofun;have g:fracB (.tup [d0,d1])=false:=by cases d0 <;> cases d1 <;> simp_all [fracB,Jce]
     rw [g] at k;exact k
  ·rw [if_pos (by simp;ac_nf)];nofun;have g:fracB (.tup m)=false:=by
    unfold fracB;split
    ·rename_i e;cases e;simp at z
    ·rfl
   rw [g] at k;exact k
 ·have g:fracB d=false:=by cases d <;> first | rfl | exact absurd ⟨_,rfl⟩ y
  rw [g] at k;have D:isiB (tyD d) "tuple"=false:=by cases d <;> first | rfl | exact absurd ⟨_,rfl⟩ y
  simpa only [D];exact k
abbrev Ba0:Stmt:=top 25
theorem JgC:Jan ["thing"] ["thing"] (Jae Ba0):=by bv_decide
def JcZ (K:W.Frag):Sp:=fun vs H Q E=>∃ (x:V) (d:D),vs=[x]/\Rep K H d x/\Q (.bl (JcO d)) H
theorem Jgn (F:FunD K "is_bound" "is_bound" Ba0 dV f fd) (T:Txt K mg Ad) (Bao:Cal P w K mg base 2 "is_fraction" ["thing"] [] (JbE K)):FnOk P w K mg base (CX1 P w) 3 f fd ["thing"] (JcZ K):=by
 refine F.okn JgC (by subst_eqs) (fun j A c s H i Q E e h=>?_)
 obtain ⟨x,d,rfl,h⟩:=h;refine ⟨_,(Jai (Jaq (pe_or (Jbv Jed (pv 0) Jdf (JaC _)) (JdC (Bao.ev e ⋯ rfl passF (Jaa (pv 0) Jad) (he:=by exact Jaf rfl)))))),?_⟩;obtain ⟨a,k⟩:=h;show tRet _ _ [some x] H;nofun;by_cases b:d=.non
 ·subst b;simp only [Rep] at a;subst a;simpa only [decide_true];exact k
 ·have l:x≠.non:=by
   rintro rfl;cases d <;> simp [Rep] at a
   exact b rfl
  rw [if_neg (by simpa using l)];nofun;have g:JcO d=fracB d:=by cases d <;> first | rfl | exact absurd rfl b
  rw [g] at k;exact ⟨x,d,rfl,a,k⟩
abbrev BaR:Stmt:=top 26
theorem JfX:Jan ["one","other"] ["one","other"] (Jae BaR):=by bv_decide
def Jb2 (K:W.Frag):Sp:=fun vs H Q E=>∃ (x y:V) (d e:D),vs=[x,y]/\Rep K H d x/\Rep K H e y/\szD d/\szD e/\∀ H',Same H H'->Q (.bl (JcP d e)) H'
theorem JfO (F:FunD K "are_faces" "are_faces" BaR dV f fd) (T:Txt K mg Ad) (BaE:Cal P w K mg base 1 "is_name" ["thing"] [] (Jcc K)):FnOk P w K mg base (CX1 P w) 2 f fd ["one","other"] (Jb2 K):=by
 refine F.okn JfX (by subst_eqs) (fun t A j s H v Q E i h=>?_)
 obtain ⟨x,y,d,e,rfl,h⟩:=h;have q:=i.units;refine ⟨_,(Jai (Jaq (JcA (BaE.ev i ⋯ rfl passF (Jaa (pv 0) Jad) (he:=by exact Jaf rfl)) (JcA (BaE.ev i ⋯ rfl passF (Jaa (pv 1) Jad) (he:=by exact Jaf rfl)) (JdC (Jbv (Jdc q) (pv 0) (pv 1) (JaC _))))))),?_⟩;clear q;obtain ⟨n,m,B,u,k⟩:=h;show tRet _ _ [some x,some y] H;nofun;refine ⟨x,d,rfl,n,B,fun r c=>?_⟩;nofun;unfold JcP at k;by_cases a:nameB d=true
 ·rw [if_pos a];nofun;refine ⟨y,e,rfl,m.same c,u,fun o p=>?_⟩;nofun;by_cases b:nameB e=true
  ·rw [if_pos b];nofun;obtain ⟨z,rfl,_⟩:=JeO a;obtain ⟨C,rfl,_⟩:=JeO b;have l:=n.str;have g:=m.str;subst l g;nofun;have:=k o (c.trans p);rw [a,b] at this;simpa [eqD,BEq.beq] using this
  ·rw [if_neg b];nofun;have:=k o (c.trans p);have g:nameB e=false:=by simpa using b
   rw [a,g] at this;exact this
 ·rw [if_neg a];nofun;have:=k r c;have l:nameB d=false:=by simpa using a
  rw [l] at this;exact this
abbrev BaG:Stmt:=top 27
theorem Jfi:Jan ["least","greatest"] ["least","greatest"] (Jae BaG):=by bv_decide
def Jcn (K:W.Frag):Sp:=fun vs H Q E=>∃ (x y:V) (d e:D),vs=[x,y]/\Rep K H d x/\Rep K H e y/\szD d/\szD e/\Q (.bl (JeU d e)) H
theorem Je7 (F:FunD K "are_bounds" "are_bounds" BaG dV f fd) (T:Txt K mg Ad) (Bb1:Cal P w K mg base 3 "is_bound" ["thing"] [] (JcZ K)) (BaF:Cal P w K mg base 1 "under" ["one","other"] [] (Jcu K)):FnOk P w K mg base (CX1 P w) 4 f fd ["least","greatest"] (Jcn K):=by
 refine F.okn Jfi (by subst_eqs) (fun u A p s H B Q E n h=>?_)
 obtain ⟨x,y,d,e,rfl,h⟩:=h;refine ⟨_,(Jab (ps_if (PW.pt (pw_or (JbF (Jbc (Bb1.ev n ⋯ rfl passF (Jaa (pv 0) Jad) (he:=by exact Jaf rfl)))) (JcD (JbF (Jbc (Bb1.ev n ⋯ rfl passF (Jaa (pv 1) Jad) (he:=by exact Jaf rfl)))))))
   (Jai (Jaq pe_bl))
   Jay)
   (Jab (ps_if (PW.pt (pw_or (Jaz Jed (pv 0) Jdf (JaC _)) (JcD (Jaz Jed (pv 1) Jdf (JaC _)))))
   (Jai (Jaq pe_bl))
   Jay)
   (Jai (Jaq (Jip (BaF.ev n ⋯ rfl passF (Jaa (pv 1) (Jaa (pv 0) Jad)) (he:=by exact Jaf rfl))))))),?_⟩
 obtain ⟨m,l,q,o,k⟩:=h;show tSeq _ _ _ [some x,some y] H;nofun;unfold JeU at k;refine ⟨x,d,rfl,m,?_⟩;nofun;by_cases c:JcO d=true
 ·rw [if_neg (by simp [c])];nofun;refine ⟨y,e,rfl,l,?_⟩;nofun;by_cases g:JcO e=true
  ·rw [if_neg (by simp [g])];nofun;simpa only [m.nonV,l.nonV];rw [c,g] at k;by_cases j:d=.non
   ·rw [if_pos (by simp [j,nonD])];nofun;nofun;have : lessD e d=false:=by subst j;unfold lessD;split <;> first | rfl | simp_all
    rw [this] at k;exact k
   ·rw [if_neg (by simp [Jid j])];nofun;by_cases i:e=.non
    ·rw [if_pos (by simp [i,nonD])];nofun;nofun;have : lessD e d=false:=by subst i;rfl
     rw [this] at k;exact k
    ·rw [if_neg (by simp [Jid i])];nofun;nofun;have t:fracB d=true:=by cases d <;> first | exact c | exact absurd rfl j
     have z:fracB e=true:=by cases e <;> first | exact g | exact absurd rfl i
     obtain ⟨a,b,rfl,_,_⟩:=Jdo t;obtain ⟨D,C,rfl,_,_⟩:=Jdo z;simp only [szD,szL] at q o;refine ⟨y,x,D,C,a,b,rfl,FrV.of_rep l,FrV.of_rep m,o.1,o.2.1,q.1,q.2.1,?_⟩;nofun;simpa [lessD] using k
  ·rw [if_pos (by simp [g])];nofun;nofun;have r:JcO e=false:=by simpa using g
   rw [c,r] at k;exact k
 ·rw [if_pos (by simp [c])];nofun;nofun;have v:JcO d=false:=by simpa using c
  rw [v] at k;exact k
abbrev Bb2:Stmt:=top 28
theorem JiB:Jan ["thing"] ["thing"] (Jae Bb2):=by bv_decide
def Jer (K:W.Frag):Sp:=fun vs H Q E=>∃ (x:V) (d:D),vs=[x]/\Rep K H d x/\szD d/\∀ H',Same H H'->Q (.bl (tieB d)) H'
theorem Jih (F:FunD K "is_tie" "is_tie" Bb2 dV f fd) (T:Txt K mg Ad) (BaE:Cal P w K mg base 1 "is_name" ["thing"] [] (Jcc K)) (BaS:Cal P w K mg base 2 "are_faces" ["one","other"] [] (Jb2 K)) (BbS:Cal P w K mg base 4 "are_bounds" ["least","greatest"] [] (Jcn K)):FnOk P w K mg base (CX1 P w) 5 f fd ["thing"] (Jer K):=by
 refine F.okn JiB (by subst_eqs) (fun W A q s H vs Q E c h=>?_)
 obtain ⟨x,d,rfl,h⟩:=h;have y:=c.units;refine ⟨_,(Jab (ps_if (PW.pt (pw_or (JbF (Jbc (Jat JaM rfl T.Bav Ja6 (Jaa (pv 0) (Jaa (JcS (v:=.ty "tuple") rfl T.Bc0 JdK rfl) Jad))))) (JcD (Jaz (Jdc y) (Jat Ja8 rfl T.BbE Jbs (Jaa (pv 0) Jad)) Jac (JaC _)))))
   (Jai (Jaq pe_bl))
   Jay)
   (Jai (Jaq (JcA (BaE.ev c ⋯ rfl passF (Jaa (pe_ix ix_U (pv 0) Jac (fun _ _=>rfl)) Jad) (he:=by exact Jaf rfl)) (JcA (BaS.ev c ⋯ rfl passF (Jaa (pe_ix ix_U (pv 0) Jac (fun _ _=>rfl)) (Jaa (pe_ix ix_U (pv 0) Jac (fun _ _=>rfl)) Jad)) (he:=by exact Jaf rfl)) (JdC (BbS.ev c ⋯ rfl passF (Jaa (pe_ix ix_U (pv 0) Jac (fun _ _=>rfl)) (Jaa (pe_ix ix_U (pv 0) Jac (fun _ _=>rfl)) Jad)) (he:=by exact Jaf rfl)))))))),?_⟩
 clear y;obtain ⟨p,z,k⟩:=h;show tSeq _ _ _ [some x] H;nofun;refine ⟨_,p.tyN,?_⟩;by_cases r:∃ l,d=.tup l
 ·obtain ⟨l,rfl⟩:=r;simpa only [tyD]
  (try ((with_reducible refine Nxt.go (by assumption) ?_);nofun))
  simp only [Rep] at p;obtain ⟨a,J,rfl,j,c⟩:=p;have hl:=c.length;refine ⟨J, .inr j,?_⟩;nofun;by_cases t:l.length=5
  ·match l,t with
   | [d0,d1,d2,d3,d4],_=>
    simp only [RepL] at c;obtain ⟨Z,r0,rfl,N,L,r1,rfl,h1,v2,r2,rfl,h2,O,r3,rfl,B,Y,r4,rfl,C,rfl⟩:=c;simp only [szD,szL] at z;obtain ⟨S,D,R,V,s4,_⟩:=z;simp only [tieB] at k;simpa only [length_cons,length_nil];rw [if_neg (by simp)];nofun;nofun;refine ixT (i:=0) j rfl ?_;refine ⟨Z,d0,rfl,N,S,fun G g=>?_⟩;nofun;by_cases n:nameB d0=true
    ·rw [if_pos n];nofun;rw [n] at k;refine ixT (i:=1) (j.same g) rfl ?_;refine ixT (i:=2) (j.same g) rfl ?_;refine ⟨L,v2,d1,d2,rfl,h1.same g,h2.same g,D,R,fun u U=>?_⟩;nofun;have b:=g.trans U;by_cases m:JcP d1 d2=true
     ·rw [if_pos m];nofun;rw [m] at k;refine ixT (i:=3) (j.same b) rfl ?_;refine ixT (i:=4) (j.same b) rfl ?_;exact ⟨O,Y,d3,d4,rfl,B.same b,C.same b,V,s4,k u b⟩
     ·rw [if_neg m];nofun;have X:JcP d1 d2=false:=by simpa using m
      rw [X] at k;exact k u b
    ·rw [if_neg n];nofun;have I:nameB d0=false:=by simpa using n
     rw [I] at k;exact k G g
  ·rw [if_pos (by simp;ac_nf)];nofun;have o:tieB (.tup l)=false:=by
    unfold tieB;split
    ·rename_i e;cases e;simp at t
    ·rfl
   rw [o] at k;nofun;exact k H (.refl H)
 ·have o:tieB d=false:=by cases d <;> first | rfl | exact absurd ⟨_,rfl⟩ r
  rw [o] at k;have M:isiB (tyD d) "tuple"=false:=by cases d <;> first | rfl | exact absurd ⟨_,rfl⟩ r
  simpa only [M];exact k H (.refl H)
abbrev Bal:Stmt:=inClass (top 44) 0
theorem JdI:Jan ["self","row"] ["self","row"] (Jae Bal):=by bv_decide
def JbH (K:W.Frag):Sp:=fun vs H Q E=>∃ (x C dx a:Addr) (n st en z m wt:V),vs=[.ref x, .ref a]/\H x=some (.ins C dx [])/\PartC K C/\SqT K H a [n,st,en,z,m,wt]/\∀ H',H' x=some (.ins C dx (partF n st en z m wt))->(∀ b,b≠x->H' b=H b)->Q .non H'
theorem JdG (F:FunD K "__init__" "Part.__init__" Bal dV f fd) (T:Txt K mg Ad)  : FnOk P w K mg base (CX1 P w) 1 f fd ["self","row"] (JbH K):=by
 refine F.okn JdI (by subst_eqs) (fun O A v s H X Q E Y h=>?_)
 obtain ⟨x,C,d,a,n,g,j,z,m,y,rfl,h⟩:=h;refine ⟨_,(Jab (Ja5 (pv 0) (pe_ix ix_U (pv 1) Jac (fun _ _=>rfl)) rfl)
   (Jab (Ja5 (pv 0) (pe_ix ix_U (pv 1) Jac (fun _ _=>rfl)) rfl)
   (Jab (Ja5 (pv 0) (pe_ix ix_U (pv 1) Jac (fun _ _=>rfl)) rfl)
   (Jab (Ja5 (pv 0) (pe_ix ix_U (pv 1) Jac (fun _ _=>rfl)) rfl)
   (Jab (Ja5 (pv 0) (pe_ix ix_U (pv 1) Jac (fun _ _=>rfl)) rfl)
   (Jai (Ja5 (pv 0) (pe_ix ix_U (pv 1) Jac (fun _ _=>rfl)) rfl))))))),?_⟩
 obtain ⟨B,e,t,k⟩:=h;show tSeq _ _ _ [some (.ref x),some (.ref a)] H;exfalso;refine ixT (i:=0) t rfl ?_;exfalso;refine ⟨x,C,d,_,rfl,B,e.cls,e.n1,by simp,?_⟩;have q:=SqT.put (fs':=putF "name" n []) B t;generalize u0:upd H x _=H1 at q ⊢;exfalso;have J:H1 x=some (.ins C d [("name",n)]):=by rw [<- u0];exact Jak.trans rfl
 have W:∀ b,b≠x->H1 b=H b:=fun b c=>by rw [<- u0,Jag c]
 exfalso;refine ixT (i:=1) q rfl ?_;exfalso;refine ⟨x,C,d,_,rfl,J,e.cls,e.n2,by simp,?_⟩;have o:=SqT.put (fs':=putF "start" g [("name",n)]) J q;generalize u1:upd H1 x _=H2 at o ⊢;exfalso;have D:H2 x=some (.ins C d [("name",n),("start",g)]):=by rw [<- u1];exact Jak.trans rfl
 have N:∀ b,b≠x->H2 b=H1 b:=fun b c=>by rw [<- u1,Jag c]
 exfalso;refine ixT (i:=2) o rfl ?_;exfalso;refine ⟨x,C,d,_,rfl,D,e.cls,e.n3,by simp,?_⟩;have l:=SqT.put (fs':=putF "end" j [("name",n),("start",g)]) D o;generalize u2:upd H2 x _=H3 at l ⊢;exfalso;have L:H3 x=some (.ins C d [("name",n),("start",g),("end",j)]):=by rw [<- u2];exact Jak.trans rfl
 have V:∀ b,b≠x->H3 b=H2 b:=fun b c=>by rw [<- u2,Jag c]
 exfalso;refine ixT (i:=3) l rfl ?_;exfalso;refine ⟨x,C,d,_,rfl,L,e.cls,e.n4,by simp,?_⟩;have r:=SqT.put (fs':=putF "size" z [("name",n),("start",g),("end",j)]) L l;generalize u3:upd H3 x _=H4 at r ⊢;exfalso;have G:H4 x=some (.ins C d [("name",n),("start",g),("end",j),("size",z)]):=by rw [<- u3];exact Jak.trans rfl
 have M:∀ b,b≠x->H4 b=H3 b:=fun b c=>by rw [<- u3,Jag c]
 exfalso;refine ixT (i:=4) r rfl ?_;exfalso;refine ⟨x,C,d,_,rfl,G,e.cls,e.n5,by simp,?_⟩;have p:=SqT.put (fs':=putF "most" m [("name",n),("start",g),("end",j),("size",z)]) G r;generalize u4:upd H4 x _=H5 at p ⊢;exfalso;have I:H5 x=some (.ins C d [("name",n),("start",g),("end",j),("size",z),("most",m)]):=by rw [<- u4];exact Jak.trans rfl
 have U:∀ b,b≠x->H5 b=H4 b:=fun b c=>by rw [<- u4,Jag c]
 exfalso;refine ixT (i:=5) p rfl ?_;exfalso;refine ⟨x,C,d,_,rfl,I,e.cls,e.n6,by simp,?_⟩;have u:=SqT.put (fs':=putF "weight" y [("name",n),("start",g),("end",j),("size",z),("most",m)]) I p;generalize u5:upd H5 x _=H6 at u ⊢;exfalso;have R:H6 x=some (.ins C d [("name",n),("start",g),("end",j),("size",z),("most",m),("weight",y)]):=by rw [<- u5];exact Jak.trans rfl
 have S:∀ b,b≠x->H6 b=H5 b:=fun b c=>by rw [<- u5,Jag c]
 exfalso;exact k H6 R fun b c=>by rw [S b c,U b c,M b c,V b c,N b c,W b c]
abbrev BaH:Stmt:=inClass (top 44) 1
theorem Jfg:Jan ["self"] ["self"] (Jae BaH):=by bv_decide
def Jcl (K:W.Frag) (Ad:Adr):Sp:=fun vs H Q E=>∃ (p dx:Addr) (n st en z m wt:V),vs=[.ref p]/\H p=some (.ins Ad.Part dx (partF n st en z m wt))/\∀ q H',Same H H'->H' q=some (.tup [n,st,en,z,m,wt])->Q (.ref q) H'
theorem Je4 (F:FunD K "plain" "Part.plain" BaH dV f fd) (T:Txt K mg Ad)  : FnOk P w K mg base (CX1 P w) 1 f fd ["self"] (Jcl K Ad):=by
 refine F.okn Jfg (by subst_eqs) (fun o A d s H r Q E t h=>?_)
 obtain ⟨p,b,n,g,i,z,m,j,rfl,h⟩:=h;refine ⟨_,(Jai (Jaq (JaG (Jaa (Jar (pv 0) rfl) (Jaa (Jar (pv 0) rfl) (Jaa (Jar (pv 0) rfl) (Jaa (Jar (pv 0) rfl) (Jaa (Jar (pv 0) rfl) (Jaa (Jar (pv 0) rfl) Jad))))))))),?_⟩;obtain ⟨c,k⟩:=h;have a:=T.BcU Ad.Part rfl;show tRet _ _ [some (.ref p)] H;and_intros;refine ⟨p,_,b,_,n,rfl,c,a.cls,a.n1,rfl,?_⟩;refine ⟨p,_,b,_,g,rfl,c,a.cls,a.n2,rfl,?_⟩;refine ⟨p,_,b,_,i,rfl,c,a.cls,a.n3,rfl,?_⟩;refine ⟨p,_,b,_,z,rfl,c,a.cls,a.n4,rfl,?_⟩;refine ⟨p,_,b,_,m,rfl,c,a.cls,a.n5,rfl,?_⟩;refine ⟨p,_,b,_,j,rfl,c,a.cls,a.n6,rfl,?_⟩;and_intros;refine ⟨by show 6<=sizeLine;decide,?_⟩;exact Jd6 fun q l S e=>k q l S e
abbrev Bap:Stmt:=inClass (top 45) 0
theorem Jel:Jan ["self","row"] ["self","row"] (Jae Bap):=by bv_decide
def JbQ (K:W.Frag):Sp:=fun vs H Q E=>∃ (x C dx a:Addr) (n st en l g:V),vs=[.ref x, .ref a]/\H x=some (.ins C dx [])/\GapC K C/\SqT K H a [n,st,en,l,g]/\∀ H',H' x=some (.ins C dx (gapF n st en l g))->(∀ b,b≠x->H' b=H b)->Q .non H'
theorem Jd7 (F:FunD K "__init__" "Gap.__init__" Bap dV f fd) (T:Txt K mg Ad)  : FnOk P w K mg base (CX1 P w) 1 f fd ["self","row"] (JbQ K):=by
 refine F.okn Jel (by subst_eqs) (fun M A v s H S Q E U h=>?_)
 obtain ⟨x,C,d,a,n,j,p,l,g,rfl,h⟩:=h;refine ⟨_,(Jab (Ja5 (pv 0) (pe_ix ix_U (pv 1) Jac (fun _ _=>rfl)) rfl)
   (Jab (Ja5 (pv 0) (pe_ix ix_U (pv 1) Jac (fun _ _=>rfl)) rfl)
   (Jab (Ja5 (pv 0) (pe_ix ix_U (pv 1) Jac (fun _ _=>rfl)) rfl)
   (Jab (Ja5 (pv 0) (pe_ix ix_U (pv 1) Jac (fun _ _=>rfl)) rfl)
   (Jai (Ja5 (pv 0) (pe_ix ix_U (pv 1) Jac (fun _ _=>rfl)) rfl)))))),?_⟩
 obtain ⟨y,e,t,k⟩:=h;show tSeq _ _ _ [some (.ref x),some (.ref a)] H;exfalso;refine ixT (i:=0) t rfl ?_;exfalso;refine ⟨x,C,d,_,rfl,y,e.cls,e.n1,by simp,?_⟩;have q:=SqT.put (fs':=putF "name" n []) y t;generalize u0:upd H x _=H1 at q ⊢;exfalso;have D:H1 x=some (.ins C d [("name",n)]):=by rw [<- u0];exact Jak.trans rfl
 have R:∀ b,b≠x->H1 b=H b:=fun b c=>by rw [<- u0,Jag c]
 exfalso;refine ixT (i:=1) q rfl ?_;exfalso;refine ⟨x,C,d,_,rfl,D,e.cls,e.n2,by simp,?_⟩;have o:=SqT.put (fs':=putF "one" j [("name",n)]) D q;generalize u1:upd H1 x _=H2 at o ⊢;exfalso;have z:H2 x=some (.ins C d [("name",n),("one",j)]):=by rw [<- u1];exact Jak.trans rfl
 have L:∀ b,b≠x->H2 b=H1 b:=fun b c=>by rw [<- u1,Jag c]
 exfalso;refine ixT (i:=2) o rfl ?_;exfalso;refine ⟨x,C,d,_,rfl,z,e.cls,e.n3,by simp,?_⟩;have m:=SqT.put (fs':=putF "other" p [("name",n),("one",j)]) z o;generalize u2:upd H2 x _=H3 at m ⊢;exfalso;have G:H3 x=some (.ins C d [("name",n),("one",j),("other",p)]):=by rw [<- u2];exact Jak.trans rfl
 have O:∀ b,b≠x->H3 b=H2 b:=fun b c=>by rw [<- u2,Jag c]
 exfalso;refine ixT (i:=3) m rfl ?_;exfalso;refine ⟨x,C,d,_,rfl,G,e.cls,e.n4,by simp,?_⟩;have r:=SqT.put (fs':=putF "low" l [("name",n),("one",j),("other",p)]) G m;generalize u3:upd H3 x _=H4 at r ⊢;exfalso;have B:H4 x=some (.ins C d [("name",n),("one",j),("other",p),("low",l)]):=by rw [<- u3];exact Jak.trans rfl
 have I:∀ b,b≠x->H4 b=H3 b:=fun b c=>by rw [<- u3,Jag c]
 exfalso;refine ixT (i:=4) r rfl ?_;exfalso;refine ⟨x,C,d,_,rfl,B,e.cls,e.n5,by simp,?_⟩;have u:=SqT.put (fs':=putF "high" g [("name",n),("one",j),("other",p),("low",l)]) B r;generalize u4:upd H4 x _=H5 at u ⊢;exfalso;have J:H5 x=some (.ins C d [("name",n),("one",j),("other",p),("low",l),("high",g)]):=by rw [<- u4];exact Jak.trans rfl
 have N:∀ b,b≠x->H5 b=H4 b:=fun b c=>by rw [<- u4,Jag c]
 exfalso;exact k H5 J fun b c=>by rw [N b c,I b c,O b c,L b c,R b c]
abbrev BaT:Stmt:=inClass (top 45) 1
theorem JfV:Jan ["self"] ["self"] (Jae BaT):=by bv_decide
def JcE (K:W.Frag) (Ad:Adr):Sp:=fun vs H Q E=>∃ (p dx:Addr) (n st en l g:V),vs=[.ref p]/\H p=some (.ins Ad.Gap dx (gapF n st en l g))/\∀ q H',Same H H'->H' q=some (.tup [n,st,en,l,g])->Q (.ref q) H'
theorem JfM (F:FunD K "plain" "Gap.plain" BaT dV f fd) (T:Txt K mg Ad)  : FnOk P w K mg base (CX1 P w) 1 f fd ["self"] (JcE K Ad):=by
 refine F.okn JfV (by subst_eqs) (fun o A d s H r Q E t h=>?_)
 obtain ⟨p,b,n,i,j,l,g,rfl,h⟩:=h;refine ⟨_,(Jai (Jaq (JaG (Jaa (Jar (pv 0) rfl) (Jaa (Jar (pv 0) rfl) (Jaa (Jar (pv 0) rfl) (Jaa (Jar (pv 0) rfl) (Jaa (Jar (pv 0) rfl) Jad)))))))),?_⟩;obtain ⟨c,k⟩:=h;have a:=T.BdD Ad.Gap rfl;show tRet _ _ [some (.ref p)] H;and_intros;refine ⟨p,_,b,_,n,rfl,c,a.cls,a.n1,rfl,?_⟩;refine ⟨p,_,b,_,i,rfl,c,a.cls,a.n2,rfl,?_⟩;refine ⟨p,_,b,_,j,rfl,c,a.cls,a.n3,rfl,?_⟩;refine ⟨p,_,b,_,l,rfl,c,a.cls,a.n4,rfl,?_⟩;refine ⟨p,_,b,_,g,rfl,c,a.cls,a.n5,rfl,?_⟩;and_intros;refine ⟨by show 5<=sizeLine;decide,?_⟩;exact Jd6 fun q m S e=>k q m S e
abbrev Bbs:Stmt:=top 42
theorem Jhx:Jan ["thing"] ["thing"] (Jae Bbs):=by bv_decide
def Jdw (K:W.Frag):Sp:=fun vs H Q E=>∃ (x:V) (d:D),vs=[x]/\Rep K H d x/\szD d/\∀ H',Same H H'->Q (.bl (partB d)) H'
theorem Jhp (F:FunD K "is_part" "is_part" Bbs dV f fd) (T:Txt K mg Ad) (BaE:Cal P w K mg base 1 "is_name" ["thing"] [] (Jcc K)) (BaS:Cal P w K mg base 2 "are_faces" ["one","other"] [] (Jb2 K)) (Bao:Cal P w K mg base 2 "is_fraction" ["thing"] [] (JbE K)) (BaQ:Cal P w K mg base 1 "is_whole" ["thing"] [] (Jco K)) (BaF:Cal P w K mg base 1 "under" ["one","other"] [] (Jcu K)):FnOk P w K mg base (CX1 P w) 5 f fd ["thing"] (Jdw K):=by
 refine F.okn Jhx (by subst_eqs) (fun a0 A z s H vs Q E c h=>?_)
 obtain ⟨x,d,rfl,h⟩:=h;have L:=c.units;refine ⟨_,(Jab (ps_if (PW.pt (pw_or (JbF (Jbc (Jat JaM rfl T.Bav Ja6 (Jaa (pv 0) (Jaa (JcS (v:=.ty "tuple") rfl T.Bc0 JdK rfl) Jad))))) (JcD (Jaz (Jdc L) (Jat Ja8 rfl T.BbE Jbs (Jaa (pv 0) Jad)) Jac (JaC _)))))
   (Jai (Jaq pe_bl))
   Jay)
   (Jab (ps_if (PW.pt (pw_or (JbF (Jbc (BaE.ev c ⋯ rfl passF (Jaa (pe_ix ix_U (pv 0) Jac (fun _ _=>rfl)) Jad) (he:=by exact Jaf rfl)))) (JcD (JbF (Jbc (BaS.ev c ⋯ rfl passF (Jaa (pe_ix ix_U (pv 0) Jac (fun _ _=>rfl)) (Jaa (pe_ix ix_U (pv 0) Jac (fun _ _=>rfl)) Jad)) (he:=by exact Jaf rfl)))))))
   (Jai (Jaq pe_bl))
   Jay)
   (Jab (ps_if (PW.pt (pw_or (JbF (Jbc (Bao.ev c ⋯ rfl passF (Jaa (pe_ix ix_U (pv 0) Jac (fun _ _=>rfl)) Jad) (he:=by exact Jaf rfl)))) (pw_or (JbF (Jbc (Bao.ev c ⋯ rfl passF (Jaa (pe_ix ix_U (pv 0) Jac (fun _ _=>rfl)) Jad) (he:=by exact Jaf rfl)))) (JcD (JbF (Jbc (BaQ.ev c ⋯ rfl passF (Jaa (pe_ix ix_U (pv 0) Jac (fun _ _=>rfl)) Jad) (he:=by exact Jaf rfl))))))))
   (Jai (Jaq pe_bl))
   Jay)
   (Jai (Jaq (JcA (Jip (BaF.ev c ⋯ rfl passF (Jaa (pe_ix ix_U (pv 0) Jac (fun _ _=>rfl)) (Jaa (JcT (v:=.ref _) rfl T.Bdl T.Bdm) Jad)) (he:=by exact Jaf rfl))) (JdC (Jbv JjK (pe_ix ix_U (pv 0) Jac (fun _ _=>rfl)) Jac (JaC _))))))))),?_⟩
 clear L;obtain ⟨r,U,k⟩:=h;show tSeq _ _ _ [some x] H;nofun;refine ⟨_,r.tyN,?_⟩;by_cases C:∃ m,d=.tup m
 ·obtain ⟨m,rfl⟩:=C;simpa only [tyD]
  (try ((with_reducible refine Nxt.go (by assumption) ?_);nofun))
  simp only [Rep] at r;obtain ⟨a,Z,rfl,g,c⟩:=r;have hl:=c.length;refine ⟨Z, .inr g,?_⟩;nofun;by_cases J:m.length=6
  ·match m,J with
   | [d0,d1,d2,d3,d4,d5],_=>
    simp only [RepL] at c;obtain ⟨v0,r0,rfl,h0,v1,r1,rfl,h1,v2,r2,rfl,h2,v3,r3,rfl,V,S,r4,rfl,G,M,r5,rfl,I,rfl⟩:=c;simp only [szD,szL] at U;obtain ⟨s0,W,s2,s3,D,s5,_⟩:=U;simp only [partB] at k;simpa only [length_cons,length_nil];rw [if_neg (by simp)];nofun;nofun;refine ixT (i:=0) g rfl ?_;refine ⟨v0,d0,rfl,h0,s0,fun X l=>?_⟩;nofun;by_cases R:nameB d0=true
    ·rw [R] at k ⊢;nofun;refine ixT (i:=1) (g.same l) rfl ?_;refine ixT (i:=2) (g.same l) rfl ?_;refine ⟨v1,v2,d1,d2,rfl,h1.same l,h2.same l,W,s2,fun j S2=>?_⟩;nofun;have b:=l.trans S2;by_cases N:JcP d1 d2=true
     ·rw [N] at k ⊢;nofun;refine ixT (i:=3) (g.same b) rfl ?_;refine ⟨v3,d3,rfl,V.same b,?_⟩;nofun;by_cases O:fracB d3=true
      ·rw [O] at k ⊢;nofun;refine ixT (i:=4) (g.same b) rfl ?_;refine ⟨S,d4,rfl,G.same b,?_⟩;nofun;by_cases B:fracB d4=true
       ·rw [B] at k ⊢;nofun;refine ixT (i:=5) (g.same b) rfl ?_;refine ⟨M,d5,rfl,I.same b,?_⟩;nofun;by_cases u:Jce d5=true
        ·rw [u] at k ⊢;nofun;obtain ⟨n,p,rfl,_,_⟩:=Jdo B;obtain ⟨w,rfl⟩:∃ w,d5=.int w:=by cases d5 <;> first | exact ⟨_,rfl⟩ | simp [Jce] at u
         simp only [szD,szL] at D;have t:M=.int w:=by simpa only [Rep] using I
         subst t;refine ixT (i:=4) (g.same b) rfl ?_;refine ⟨S, .ref Ad.ZERO,n,p,0,1,rfl,FrV.of_rep (G.same b),⟨Ad.ZERO,rfl,T.Bdn _⟩,D.1,D.2.1, .lit ⋯ ⋯, .lit ⋯ ⋯,?_⟩;nofun;by_cases o:n*1<0*p
         ·have y:lessD (.tup [.int n, .int p]) (.tup [.int 0, .int 1])=true:=by simpa [lessD] using o
          rw [y] at k;rw [if_neg (by simpa using o)];nofun;exact k j b
         ·have y:lessD (.tup [.int n, .int p]) (.tup [.int 0, .int 1])=false:=by simpa [lessD] using o
          rw [y] at k;rw [if_pos (by simpa using o)];nofun;refine ixT (i:=5) (g.same b) rfl ?_;nofun;exact k j b
        ·have e5:Jce d5=false:=by simpa using u
         rw [e5] at k ⊢;nofun;exact k j b
       ·have e4:fracB d4=false:=by simpa using B
        rw [e4] at k ⊢;nofun;exact k j b
      ·have e3:fracB d3=false:=by simpa using O
       rw [e3] at k ⊢;nofun;exact k j b
     ·have e1:JcP d1 d2=false:=by simpa using N
      rw [e1] at k ⊢;nofun;exact k j b
    ·have Y:nameB d0=false:=by simpa using R
     rw [Y] at k ⊢;nofun;exact k X l
  ·rw [if_pos (by simp;ac_nf)];nofun;have q:partB (.tup m)=false:=by
    unfold partB;split
    ·rename_i e;cases e;simp at J
    ·rfl
   rw [q] at k;nofun;exact k H (.refl H)
 ·have q:partB d=false:=by cases d <;> first | rfl | exact absurd ⟨_,rfl⟩ C
  rw [q] at k;have et:isiB (tyD d) "tuple"=false:=by cases d <;> first | rfl | exact absurd ⟨_,rfl⟩ C
  simpa only [et];exact k H (.refl H)
abbrev Bb3:Stmt:=top 43
theorem JiA:Jan ["thing"] ["thing"] (Jae Bb3):=by bv_decide
def Jeq (K:W.Frag):Sp:=fun vs H Q E=>∃ (x:V) (d:D),vs=[x]/\Rep K H d x/\szD d/\∀ H',Same H H'->Q (.bl (gapB d)) H'
theorem Jig (F:FunD K "is_gap" "is_gap" Bb3 dV f fd) (T:Txt K mg Ad) (Bc1:Cal P w K mg base 5 "is_tie" ["thing"] [] (Jer K)):FnOk P w K mg base (CX1 P w) 6 f fd ["thing"] (Jeq K):=by
 refine F.okn JiA (by subst_eqs) (fun B A p s H D Q E z h=>?_)
 obtain ⟨x,d,rfl,h⟩:=h;refine ⟨_,(Jai (Jaq (JcA (Bc1.ev z ⋯ rfl passF (Jaa (pv 0) Jad) (he:=by exact Jaf rfl)) (JcA (Jbv Jfc (pe_ix ix_U (pv 0) Jac (fun _ _=>rfl)) Jdf (JaC _)) (JdC (Jbv Jfc (pe_ix ix_U (pv 0) Jac (fun _ _=>rfl)) Jdf (JaC _))))))),?_⟩;obtain ⟨o,C,k⟩:=h;show tRet _ _ [some x] H;nofun;refine ⟨x,d,rfl,o,C,fun m j=>?_⟩;nofun;by_cases c:tieB d=true
 ·rw [if_pos c];nofun;obtain ⟨n,s,e,l,g,rfl⟩:∃ n s e l g,d=.tup [n,s,e,l,g]:=by
   unfold tieB at c;split at c
   ·exact ⟨_,_,_,_,_,rfl⟩
   ·cases c
  simp only [Rep,RepL] at o;obtain ⟨a,I,rfl,r,U,G,rfl,M,J,L,rfl,V,Y,O,rfl,X,N,R,rfl,t,S,W,rfl,u,rfl⟩:=o;simp only [gapB] at k;rw [c] at k;refine ixT (i:=3) (r.same j) rfl ?_;simpa only [t.nonV];by_cases q:nonD l=true
  ·rw [q] at k;try rw [q]
   nofun;exact k m j
  ·have b:nonD l=false:=by simpa using q
   rw [b] at k;try rw [b]
   nofun;refine ixT (i:=4) (r.same j) rfl ?_;simpa only [u.nonV];exact k m j
 ·rw [if_neg c];nofun;have v:gapB d=false:=by
   have y:tieB d=false:=by simpa using c
   unfold gapB;split
   ·rw [y];rfl
   ·rfl
  rw [v] at k;exact k m j
abbrev Bbt:Stmt:=top 46
theorem Jhy:Jan ["thing"] ["thing"] (Jae Bbt):=by bv_decide
def Jdy (K:W.Frag) (Ad:Adr):Sp:=fun vs H Q E=>∃ (x:V) (e:PD ⊕ D),vs=[x]/\PEV K H e x/\(match e with | .inr _=>∀ H',Same H H'->E (.ref Ad.NoPart) none H' | .inl p=>∀ v H',Same H H'->POV K Ad H' p v->Q v H')
theorem Jhs (F:FunD K "part_of" "part_of" Bbt dV f fd) (T:Txt K mg Ad) (BcK:Cal P w K mg base 5 "is_part" ["thing"] [] (Jdw K)) (BdE:KCal P w K mg base 1 "Part" Ad.Part ["self","row"] (JbH K)):FnOk P w K mg base (CX1 P w) 6 f fd ["thing"] (Jdy K Ad):=by
 refine F.okx Jhy (fun B H Q E h=>?_) (fun v A m s H B Q E n h=>?_)
 ·obtain ⟨x,e,rfl,_⟩:=h;rfl
 obtain ⟨x,e,rfl,h⟩:=h;refine ⟨_,(Jab (ps_if (JbF (Jbc (BcK.ev n ⋯ rfl pass1 (Jaa (pv 0) Jad) (he:=by exact Jaf rfl))))
   (Jai (Jb0 PySem.F.excBase_ValueError T.Bb9 rfl T.BdO (Jaa Jbu Jad)))
   Jay)
   (Jai (Jaq (BdE.ev n ⋯ rfl pass1 (Jaa (pv 0) Jad))))),?_⟩
 obtain ⟨he,k⟩:=h;show tSeq _ _ _ [some x] H;nofun;match e,he,k with
 | .inr c,he,k=>
  refine ⟨x,c,rfl,he.1,he.2.1,fun g a=>?_⟩;rw [he.2.2];nofun;exact ⟨by show 1<=sizeLine;decide,k g a⟩
 | .inl p,he,k=>
  refine ⟨x,pdD p,rfl,he.1.rep,he.2.sz,fun g a=>?_⟩;rw [he.2.part];nofun;obtain ⟨b,r,t,rfl,G,D,C⟩:=he.1;intro y i d l I;have j:Same g (upd (upd g i (.own y)) y (.ins Ad.Part i [])):=fun b u q=>by rw [Jag (Jah q d),Jag (Jah q l)];exact q
  refine ⟨y,_,i,b,_,_,_,r,t,_,rfl,Jak,T.BcU _ rfl,(G.same a).same j,fun z e o=>⟨rfl,k _ z ?_ ⟨y,i,r,t,rfl,e,?_,?_⟩⟩⟩
  ·exact a.trans fun b u q=>by rw [o b (Jah q d)];exact j _ _ q
  ·exact D.same (a.trans fun b u q=>by rw [o b (Jah q d)];exact j _ _ q)
  ·exact C.same (a.trans fun b u q=>by rw [o b (Jah q d)];exact j _ _ q)
abbrev Bb4:Stmt:=top 47
theorem Jiz:Jan ["thing"] ["thing"] (Jae Bb4):=by bv_decide
def Jep (K:W.Frag) (Ad:Adr):Sp:=fun vs H Q E=>∃ (x:V) (e:GD ⊕ D),vs=[x]/\GEV K H e x/\(match e with | .inr _=>∀ H',Same H H'->E (.ref Ad.NoGap) none H' | .inl g=>∀ v H',Same H H'->GOV K Ad H' g v->Q v H')
theorem Jif (F:FunD K "gap_of" "gap_of" Bb4 dV f fd) (T:Txt K mg Ad) (Bc2:Cal P w K mg base 6 "is_gap" ["thing"] [] (Jeq K)) (BdX:KCal P w K mg base 1 "Gap" Ad.Gap ["self","row"] (JbQ K)):FnOk P w K mg base (CX1 P w) 7 f fd ["thing"] (Jep K Ad):=by
 refine F.okx Jiz (fun D H Q E h=>?_) (fun B A n s H D Q E z h=>?_)
 ·obtain ⟨x,e,rfl,_⟩:=h;rfl
 obtain ⟨x,e,rfl,h⟩:=h;refine ⟨_,(Jab (ps_if (JbF (Jbc (Bc2.ev z ⋯ rfl pass1 (Jaa (pv 0) Jad) (he:=by exact Jaf rfl))))
   (Jai (Jb0 PySem.F.excBase_ValueError T.Bcy rfl T.BdV (Jaa Jbu Jad)))
   Jay)
   (Jai (Jaq (BdX.ev z ⋯ rfl pass1 (Jaa (pv 0) Jad))))),?_⟩
 obtain ⟨he,k⟩:=h;show tSeq _ _ _ [some x] H;nofun;match e,he,k with
 | .inr c,he,k=>
  refine ⟨x,c,rfl,he.1,he.2.1,fun i a=>?_⟩;rw [he.2.2];nofun;exact ⟨by show 1<=sizeLine;decide,k i a⟩
 | .inl g,he,k=>
  refine ⟨x,tdD g.td,rfl,he.1.rep,he.2.sz,fun i a=>?_⟩;rw [Jlb he.2];nofun;obtain ⟨b,p,v,rfl,G,t,r⟩:=he.1;replace t:FrV K H p g.lo.1 g.lo.2:=t;replace r:FrV K H v g.hi.1 g.hi.2:=r;intro y j d m I;have l:Same i (upd (upd i j (.own y)) y (.ins Ad.Gap j [])):=fun b u q=>by rw [Jag (Jah q d),Jag (Jah q m)];exact q
  refine ⟨y,_,j,b,_,_,_,p,v,rfl,Jak,T.BdD _ rfl,(G.same a).same l,fun C e o=>⟨rfl,k _ C ?_ ⟨y,j,p,v,rfl,e,?_,?_⟩⟩⟩
  ·exact a.trans fun b u q=>by rw [o b (Jah q d)];exact l _ _ q
  ·exact t.same (a.trans fun b u q=>by rw [o b (Jah q d)];exact l _ _ q)
  ·exact r.same (a.trans fun b u q=>by rw [o b (Jah q d)];exact l _ _ q)
abbrev Baf:Stmt:=inClass (top 48) 0
theorem Jdh:Jan ["self"] ["self"] (Jae Baf):=by bv_decide
def Jbp (K:W.Frag) (Ad:Adr):Sp:=fun vs H Q E=>∃ (x dx:Addr),vs=[.ref x]/\H x=some (.ins Ad.Joints dx [])/\∀ d H',H d=none->d≠x->H' x=some (.ins Ad.Joints dx [("leads", .ref d)])->H' d=some (.dK [])->(∀ b u,b≠x->H b=some u->H' b=some u)->Q .non H'
theorem Jda (F:FunD K "__init__" "Joints.__init__" Baf dV f fd) (T:Txt K mg Ad)  : FnOk P w K mg base (CX1 P w) 1 f fd ["self"] (Jbp K Ad):=by
 refine F.okn Jdh (by subst_eqs) (fun n A c s H q Q E t h=>?_)
 obtain ⟨x,g,rfl,h⟩:=h;refine ⟨_,(Jai (Ja5 (pv 0) Jbj rfl)),?_⟩;obtain ⟨e,k⟩:=h;have l:=T.Bcl _ rfl;show sFld _ _ _ _ _ [some (.ref x)] H;exfalso;rename_i d a o H r j p;exfalso;refine ⟨x,_,g,_,rfl,j _ _ e,l.cls,l.n1,by simp,?_⟩;have i:d≠x:=fun z=>by rw [z,e] at a;cases a
 exact k d _ a i (Jak.trans rfl) (by rw [Jag i];exact p) fun b u m h=>by rw [Jag m];exact j _ _ h
abbrev BaA:Stmt:=inClass (top 48) 1
theorem JeB:Jan ["self","part"] ["self","part"] (Jae BaA):=by bv_decide
def Jb5 (K:W.Frag) (Ad:Adr):Sp:=fun vs H Q E=>∃ (j d:Addr) (v:V) (ls:List PD) (p:PD) (H0:Hp),vs=[.ref j,v]/\JK Ad H0 H j d ls/\Same H0 H/\POV K Ad H p v/\p.st≠p.en/\ls.length<=20/\∀ H',Same H0 H'->SameJ d H H'->JK Ad H0 H' j d (ls++[p])->Q .non H'
theorem Jew (F:FunD K "link" "Joints.link" BaA dV f fd) (T:Txt K mg Ad)  : FnOk P w K mg base (CX1 P w) 1 f fd ["self","part"] (Jb5 K Ad):=by
 refine F.okn JeB (by subst_eqs) (fun f5 A f2 s H vs Q E hr h=>?_)
 obtain ⟨j,d,v,ls,p,H0,rfl,h⟩:=h;refine ⟨_,(Jab (Ja7 (pe_bm PySem.F.plainAttrs_list PySem.F.slot_list_append PySem.F.type_list_append JaZ (Jio (Jar (pv 0) rfl) (Jar (pv 1) rfl) (JaX Jad) ⟨rfl,rfl,rfl,rfl⟩) (Jaa (JaG (Jaa (Jar (pv 1) rfl) (Jaa (JaG (Jaa (Jar (pv 1) rfl) (Jaa pe_bl Jad))) Jad))) Jad) (hs:=by exact Jaf rfl)))
   (Jai (Ja7 (pe_bm PySem.F.plainAttrs_list PySem.F.slot_list_append PySem.F.type_list_append JaZ (Jio (Jar (pv 0) rfl) (Jar (pv 1) rfl) (JaX Jad) ⟨rfl,rfl,rfl,rfl⟩) (Jaa (JaG (Jaa (Jar (pv 1) rfl) (Jaa (JaG (Jaa (Jar (pv 1) rfl) (Jaa pe_bl Jad))) Jad))) Jad) (hs:=by exact Jaf rfl))))),?_⟩
 obtain ⟨⟨⟨dx,d3⟩,b5,x,a3,hk,d6⟩,e2,hv,d5,hl,k⟩:=h;obtain ⟨q,dq,vz,vm,rfl,a4,hz,hm⟩:=hv;have sl:(1000:Nat)<=sizeLine:=by decide
 have jc:=T.Bcl _ rfl;have C:=T.BcU _ rfl;have nj:j≠d:=fun z=>by rw [z,a3] at d3;cases d3
 have nq:q≠d:=fun z=>by rw [z,a3] at a4;cases a4
 have f1:∀ f,(JaE ls f).length<=20:=fun f=>by have:=JeZ ls f;ac_nf
 show tSeq _ _ _ [some (.ref j),some (.ref q)] H;and_intros;obtain ⟨H1,hH⟩:∃ H',H'=H:=⟨_,rfl⟩;subst hH;refine ⟨j,_,dx,_, .ref d,rfl,d3,jc.cls,jc.n1,rfl,?_⟩;and_intros;refine ⟨d,rfl, .inl ⟨x, .inl a3⟩,?_⟩;refine ⟨q,_,dq,_, .str p.st,rfl,a4,C.cls,C.n2,rfl,?_⟩;and_intros;refine ⟨len0,?_⟩;rename_i l1 Y f4 H1 e8 c4 f3;and_intros;refine ⟨x,Sum.inr p.st,c4 _ _ a3,rfl,by ac_nf,fun v hv=>?_,fun hv=>?_⟩
 ·obtain ⟨l,r,d4,d0,a8,c5⟩:∃ l r,v=.ref l/\H0 l=none/\H1 l=some (.lst r)/\All2 (LeV H1) ((JaE ls) p.st) r:=by
   rcases d6.at_ p.st with ⟨h1,_⟩ | ⟨l,r,h1,h2,h3,h4⟩
   ·rw [hv] at h1;cases h1
   ·rw [hv] at h1;cases h1;exact ⟨l,r,rfl,h2,h3,h4⟩
  subst d4;have f0:r.length<=20:=by rw [c5.length];exact f1 _
  refine ⟨.inl ⟨rfl,_,SqL.of (c4 _ _ a8)⟩,?_⟩;and_intros;have a:=c4 _ _ a4;obtain ⟨b6,L⟩:∃ H',H'=e8:=⟨_,rfl⟩;rw [<- L] at a ⊢;refine ⟨q,_,dq,_, .str p.en,rfl,a,C.cls,C.n3,rfl,?_⟩;and_intros;refine ⟨q,_,dq,_, .str p.nm,rfl,a,C.cls,C.n1,rfl,?_⟩;and_intros;refine ⟨len2,?_⟩;rename_i e6 e5 e0 b6 e1 d9 e3;and_intros;refine ⟨len2,?_⟩;rename_i d1 e4 d8 e1 b9 c7 e7;and_intros;have d2:LeV b9 (p.en,(p.nm,true)) (.ref d1):=⟨d1,e6,rfl,e7,c7 _ _ e3⟩;have I:=d9.trans c7;have i:=I _ _ (by rw [L];exact c4 _ _ a8:b6 l=some (.lst r));refine ⟨l,r,_,rfl,rfl,i,by ac_nf,?_⟩;generalize u2:upd b9 l _=W;and_intros;have m:Same H1 b9:=fun b u h=>I _ _ (by rw [L];exact c4 _ _ h);have a2:=(d6.same m).more hv i d2 u2;have a0:SameJ d H1 W:=fun b u _ Z h=>by rw [<- u2,Jag (fun z=>by have:=m _ _ h;rw [z,i] at this;cases this;exact Z _ rfl)];exact m _ _ h
  have t:W d=some (.dK x):=by rw [<- u2,Jag (fun z=>by have:=m _ _ a3;rw [z,i] at this;cases this)];exact m _ _ a3
  have b8:Same H0 W:=fun b u h=>by rw [<- u2,Jag (Jah h d0)];exact m _ _ (e2 _ _ h)
  have b0:=a0 _ _ nj (by intro r z;cases z) d3;have J:=a0 _ _ nq (by intro r z;cases z) a4;have c8:∀ f,(addL (JaE ls) p.st (p.en,(p.nm,true)) f).length<=21:=fun f=>by
   have:=JeZ ls f;unfold addL;split
   ·rw [length_append,length_singleton];ac_nf
   ·ac_nf
  and_intros;refine ⟨j,_,dx,_, .ref d,rfl,b0,jc.cls,jc.n1,rfl,?_⟩;and_intros;refine ⟨d,rfl, .inl ⟨x, .inl t⟩,?_⟩;refine ⟨q,_,dq,_, .str p.en,rfl,J,C.cls,C.n3,rfl,?_⟩;and_intros;refine ⟨len0,?_⟩;rename_i X n e9 W c6 G d7;and_intros;refine ⟨x,Sum.inr p.en,G _ _ t,rfl,by ac_nf,fun v hv=>?_,fun hv=>?_⟩
  ·obtain ⟨l,r,d4,d0,a8,c5⟩:∃ l r,v=.ref l/\H0 l=none/\W l=some (.lst r)/\All2 (LeV W) ((addL (JaE ls) p.st (p.en,(p.nm,true))) p.en) r:=by
    rcases a2.at_ p.en with ⟨h1,_⟩ | ⟨l,r,h1,h2,h3,h4⟩
    ·rw [hv] at h1;cases h1
    ·rw [hv] at h1;cases h1;exact ⟨l,r,rfl,h2,h3,h4⟩
   subst d4;have f0:r.length<=21:=by rw [c5.length];exact c8 _
   refine ⟨.inl ⟨rfl,_,SqL.of (G _ _ a8)⟩,?_⟩;and_intros;have a:=G _ _ J;obtain ⟨B,L⟩:∃ H',H'=c6:=⟨_,rfl⟩;rw [<- L] at a ⊢;refine ⟨q,_,dq,_, .str p.st,rfl,a,C.cls,C.n2,rfl,?_⟩;and_intros;refine ⟨q,_,dq,_, .str p.nm,rfl,a,C.cls,C.n1,rfl,?_⟩;and_intros;refine ⟨len2,?_⟩;rename_i b2 c0 c3 B b4 c2 b1;and_intros;refine ⟨len2,?_⟩;rename_i O b3 c1 b4 y U b7;and_intros;have S:LeV y (p.st,(p.nm,false)) (.ref O):=⟨O,b2,rfl,b7,U _ _ b1⟩;have c:=c2.trans U;have i:=c _ _ (by rw [L];exact G _ _ a8:B l=some (.lst r));refine ⟨l,r,_,rfl,rfl,i,by ac_nf,?_⟩;generalize u3:upd y l _=H3;and_intros;have m:Same W y:=fun b u h=>c _ _ (by rw [L];exact G _ _ h);have R:=(a2.same m).more hv i S u3;have M:SameJ d W H3:=fun b u _ Z h=>by rw [<- u3,Jag (fun z=>by have:=m _ _ h;rw [z,i] at this;cases this;exact Z _ rfl)];exact m _ _ h
   have a1:H3 d=some (.dK x):=by rw [<- u3,Jag (fun z=>by have:=m _ _ t;rw [z,i] at this;cases this)];exact m _ _ t
   have a9:Same H0 H3:=fun b u h=>by rw [<- u3,Jag (Jah h d0)];exact m _ _ (b8 _ _ h)
   rw [Jc3 d5] at R;refine k H3 a9 (fun b u N Z h=>M b u N Z (a0 b u N Z h)) ⟨⟨dx,M _ _ nj (by intro r z;cases z) b0⟩,b5,_,a1,?_,R⟩;rw [length_append,length_singleton];ac_nf
  ·have a6:H0 X=none:=by
    cases e:H0 X with
    | none=>rfl
    | some o=>rw [b8 _ _ e] at n;cases n
   generalize uc:upd c6 d _=B;and_intros;have nd:X≠d:=fun z=>by rw [z,t] at n;cases n
   have a5:B X=some (.lst []):=by rw [<- uc,Jag nd];exact d7
   have D:∀ b u,b≠d->W b=some u->B b=some u:=fun b u N h=>by rw [<- uc,Jag N];exact G _ _ h
   have c9:B d=some (.dK (putK x (Sum.inr p.en) (.ref X))):=by rw [<- uc,Jak]
   refine ⟨.inl ⟨rfl,_,SqL.of a5⟩,?_⟩;and_intros;have a:=D _ _ (fun z=>by rw [z,t] at J;cases J) J;refine ⟨q,_,dq,_, .str p.st,rfl,a,C.cls,C.n2,rfl,?_⟩;and_intros;refine ⟨q,_,dq,_, .str p.nm,rfl,a,C.cls,C.n1,rfl,?_⟩;and_intros;refine ⟨len2,?_⟩;rename_i b2 c0 c3 B b4 c2 b1;and_intros;refine ⟨len2,?_⟩;rename_i O b3 c1 b4 y U b7;and_intros;have S:LeV y (p.st,(p.nm,false)) (.ref O):=⟨O,b2,rfl,b7,U _ _ b1⟩;have c:=c2.trans U;have i:=c _ _ a5;refine ⟨X,[],_,rfl,rfl,i,by show 0<sizeLine;ac_nf,?_⟩;generalize u3:upd y X _=H3;and_intros;have R:=((a2.sx D t).same c).first hv a6 (fun g l' a7 z=>by
    rcases a2.at_ g with ⟨h1,_⟩ | ⟨X,xs2,h1,_,h3,_⟩
    ·rw [a7] at h1;cases h1
    ·rw [a7] at h1;cases h1;rw [z,n] at h3;cases h3) i S u3
   have M:SameJ d W H3:=fun b u N Z h=>by rw [<- u3,Jag (fun z=>by rw [z,n] at h;cases h)];exact c _ _ (D _ _ N h)
   have a1:=c _ _ c9;rw [show y d=H3 d by rw [<- u3,Jag (Ne.symm nd)]] at a1;have a9:Same H0 H3:=fun b u h=>by rw [<- u3,Jag (Jah h a6)];exact c _ _ (D _ _ (Jah h b5) (b8 _ _ h))
   have lp:=Jbg x (Sum.inr p.en) (V.ref X);rw [Jc3 d5] at R;refine k H3 a9 (fun b u N Z h=>M b u N Z (a0 b u N Z h)) ⟨⟨dx,M _ _ nj (by intro r z;cases z) b0⟩,b5,_,a1,?_,R⟩;rw [length_append,length_singleton];ac_nf
 ·have a6:H0 l1=none:=by
   cases e:H0 l1 with
   | none=>rfl
   | some o=>rw [e2 _ _ e] at Y;cases Y
  generalize uc:upd e8 d _=b6;and_intros;have nd:l1≠d:=fun z=>by rw [z,a3] at Y;cases Y
  have a5:b6 l1=some (.lst []):=by rw [<- uc,Jag nd];exact f3
  have D:∀ b u,b≠d->H1 b=some u->b6 b=some u:=fun b u N h=>by rw [<- uc,Jag N];exact c4 _ _ h
  have c9:b6 d=some (.dK (putK x (Sum.inr p.st) (.ref l1))):=by rw [<- uc,Jak]
  refine ⟨.inl ⟨rfl,_,SqL.of a5⟩,?_⟩;and_intros;have a:=D _ _ (fun z=>by rw [z,a3] at a4;cases a4) a4;refine ⟨q,_,dq,_, .str p.en,rfl,a,C.cls,C.n3,rfl,?_⟩;and_intros;refine ⟨q,_,dq,_, .str p.nm,rfl,a,C.cls,C.n1,rfl,?_⟩;and_intros;refine ⟨len2,?_⟩;rename_i e6 e5 e0 b6 e1 d9 e3;and_intros;refine ⟨len2,?_⟩;rename_i d1 e4 d8 e1 b9 c7 e7;and_intros;have d2:LeV b9 (p.en,(p.nm,true)) (.ref d1):=⟨d1,e6,rfl,e7,c7 _ _ e3⟩;have I:=d9.trans c7;have i:=I _ _ a5;refine ⟨l1,[],_,rfl,rfl,i,by show 0<sizeLine;ac_nf,?_⟩;generalize u2:upd b9 l1 _=W;and_intros;have a2:=((d6.sx D a3).same I).first hv a6 (fun g l' a7 z=>by
   rcases d6.at_ g with ⟨h1,_⟩ | ⟨X,xs2,h1,_,h3,_⟩
   ·rw [a7] at h1;cases h1
   ·rw [a7] at h1;cases h1;rw [z,Y] at h3;cases h3) i d2 u2
  have a0:SameJ d H1 W:=fun b u N Z h=>by rw [<- u2,Jag (fun z=>by rw [z,Y] at h;cases h)];exact I _ _ (D _ _ N h)
  have t:=I _ _ c9;rw [show b9 d=W d by rw [<- u2,Jag (Ne.symm nd)]] at t;have b8:Same H0 W:=fun b u h=>by rw [<- u2,Jag (Jah h a6)];exact I _ _ (D _ _ (Jah h b5) (e2 _ _ h))
  have lp:=Jbg x (Sum.inr p.st) (V.ref l1);have b0:=a0 _ _ nj (by intro r z;cases z) d3;have J:=a0 _ _ nq (by intro r z;cases z) a4;have c8:∀ f,(addL (JaE ls) p.st (p.en,(p.nm,true)) f).length<=21:=fun f=>by
   have:=JeZ ls f;unfold addL;split
   ·rw [length_append,length_singleton];ac_nf
   ·ac_nf
  and_intros;refine ⟨j,_,dx,_, .ref d,rfl,b0,jc.cls,jc.n1,rfl,?_⟩;and_intros;refine ⟨d,rfl, .inl ⟨(putK x (Sum.inr p.st) (V.ref l1)), .inl t⟩,?_⟩;refine ⟨q,_,dq,_, .str p.en,rfl,J,C.cls,C.n3,rfl,?_⟩;and_intros;refine ⟨len0,?_⟩;rename_i X n e9 W c6 G d7;and_intros;refine ⟨(putK x (Sum.inr p.st) (V.ref l1)),Sum.inr p.en,G _ _ t,rfl,by ac_nf,fun v hv=>?_,fun hv=>?_⟩
  ·obtain ⟨l,r,d4,d0,a8,c5⟩:∃ l r,v=.ref l/\H0 l=none/\W l=some (.lst r)/\All2 (LeV W) ((addL (JaE ls) p.st (p.en,(p.nm,true))) p.en) r:=by
    rcases a2.at_ p.en with ⟨h1,_⟩ | ⟨l,r,h1,h2,h3,h4⟩
    ·rw [hv] at h1;cases h1
    ·rw [hv] at h1;cases h1;exact ⟨l,r,rfl,h2,h3,h4⟩
   subst d4;have f0:r.length<=21:=by rw [c5.length];exact c8 _
   refine ⟨.inl ⟨rfl,_,SqL.of (G _ _ a8)⟩,?_⟩;and_intros;have a:=G _ _ J;obtain ⟨B,L⟩:∃ H',H'=c6:=⟨_,rfl⟩;rw [<- L] at a ⊢;refine ⟨q,_,dq,_, .str p.st,rfl,a,C.cls,C.n2,rfl,?_⟩;and_intros;refine ⟨q,_,dq,_, .str p.nm,rfl,a,C.cls,C.n1,rfl,?_⟩;and_intros;refine ⟨len2,?_⟩;rename_i b2 c0 c3 B b4 c2 b1;and_intros;refine ⟨len2,?_⟩;rename_i O b3 c1 b4 y U b7;and_intros;have S:LeV y (p.st,(p.nm,false)) (.ref O):=⟨O,b2,rfl,b7,U _ _ b1⟩;have c:=c2.trans U;have i:=c _ _ (by rw [L];exact G _ _ a8:B l=some (.lst r));refine ⟨l,r,_,rfl,rfl,i,by ac_nf,?_⟩;generalize u3:upd y l _=H3;and_intros;have m:Same W y:=fun b u h=>c _ _ (by rw [L];exact G _ _ h);have R:=(a2.same m).more hv i S u3;have M:SameJ d W H3:=fun b u _ Z h=>by rw [<- u3,Jag (fun z=>by have:=m _ _ h;rw [z,i] at this;cases this;exact Z _ rfl)];exact m _ _ h
   have a1:H3 d=some (.dK (putK x (Sum.inr p.st) (V.ref l1))):=by rw [<- u3,Jag (fun z=>by have:=m _ _ t;rw [z,i] at this;cases this)];exact m _ _ t
   have a9:Same H0 H3:=fun b u h=>by rw [<- u3,Jag (Jah h d0)];exact m _ _ (b8 _ _ h)
   rw [Jc3 d5] at R;refine k H3 a9 (fun b u N Z h=>M b u N Z (a0 b u N Z h)) ⟨⟨dx,M _ _ nj (by intro r z;cases z) b0⟩,b5,_,a1,?_,R⟩;rw [length_append,length_singleton];ac_nf
  ·have a6:H0 X=none:=by
    cases e:H0 X with
    | none=>rfl
    | some o=>rw [b8 _ _ e] at n;cases n
   generalize uc:upd c6 d _=B;and_intros;have nd:X≠d:=fun z=>by rw [z,t] at n;cases n
   have a5:B X=some (.lst []):=by rw [<- uc,Jag nd];exact d7
   have D:∀ b u,b≠d->W b=some u->B b=some u:=fun b u N h=>by rw [<- uc,Jag N];exact G _ _ h
   have c9:B d=some (.dK (putK (putK x (Sum.inr p.st) (V.ref l1)) (Sum.inr p.en) (.ref X))):=by rw [<- uc,Jak]
   refine ⟨.inl ⟨rfl,_,SqL.of a5⟩,?_⟩;and_intros;have a:=D _ _ (fun z=>by rw [z,t] at J;cases J) J;refine ⟨q,_,dq,_, .str p.st,rfl,a,C.cls,C.n2,rfl,?_⟩;and_intros;refine ⟨q,_,dq,_, .str p.nm,rfl,a,C.cls,C.n1,rfl,?_⟩;and_intros;refine ⟨len2,?_⟩;rename_i b2 c0 c3 B b4 c2 b1;and_intros;refine ⟨len2,?_⟩;rename_i O b3 c1 b4 y U b7;and_intros;have S:LeV y (p.st,(p.nm,false)) (.ref O):=⟨O,b2,rfl,b7,U _ _ b1⟩;have c:=c2.trans U;have i:=c _ _ a5;refine ⟨X,[],_,rfl,rfl,i,by show 0<sizeLine;ac_nf,?_⟩;generalize u3:upd y X _=H3;and_intros;have R:=((a2.sx D t).same c).first hv a6 (fun g l' a7 z=>by
    rcases a2.at_ g with ⟨h1,_⟩ | ⟨X,xs2,h1,_,h3,_⟩
    ·rw [a7] at h1;cases h1
    ·rw [a7] at h1;cases h1;rw [z,n] at h3;cases h3) i S u3
   have M:SameJ d W H3:=fun b u N Z h=>by rw [<- u3,Jag (fun z=>by rw [z,n] at h;cases h)];exact c _ _ (D _ _ N h)
   have a1:=c _ _ c9;rw [show y d=H3 d by rw [<- u3,Jag (Ne.symm nd)]] at a1;have a9:Same H0 H3:=fun b u h=>by rw [<- u3,Jag (Jah h a6)];exact c _ _ (D _ _ (Jah h b5) (b8 _ _ h))
   have lp:=Jbg (putK x (Sum.inr p.st) (V.ref l1)) (Sum.inr p.en) (V.ref X);rw [Jc3 d5] at R;refine k H3 a9 (fun b u N Z h=>M b u N Z (a0 b u N Z h)) ⟨⟨dx,M _ _ nj (by intro r z;cases z) b0⟩,b5,_,a1,?_,R⟩;rw [length_append,length_singleton];ac_nf
abbrev Bad:Stmt:=inClass (top 48) 2
theorem JaK:Jan ["self","one","other","found","waiting","face","lead"] ["self","one","other"] (Jae Bad):=by bv_decide
def Jba (K:W.Frag) (Ad:Adr):Sp:=fun vs H Q E=>∃ (j d:Addr) (one other:Str) (ls:List PD) (H0:Hp),vs=[.ref j, .str one, .str other]/\JK Ad H0 H j d ls/\ls.length<=20/\(ls.map (·.nm)).Nodup/\(¬ Conn ls one other->∀ H',Same H H'->Q .non H')/\(∀ w l xs H',Same H H'->H l=none->H' l=some (.lst xs)->All2 (CV H') w xs->Jbh ls one w other->(w.map (·.1)).Nodup->Q (.ref l) H')
theorem Jcz (F:FunD K "way_between" "Joints.way_between" Bad dV f fd) (T:Txt K mg Ad)  : FnOk P w K mg base (CX1 P w) 1 f fd ["self","one","other"] (Jba K Ad):=by
 refine F.okn JaK (by subst_eqs) (fun i7 A f6 s H vs Q E hr h=>?_)
 obtain ⟨j,d,one,other,M,H0,rfl,h⟩:=h;have hu:=hr.units;refine ⟨_,(Jab (Jaj (i:=3) JaK.nd rfl (Or.inl rfl) (JkE (Jjn (pv 1) (JaX Jad) JkK) rfl rfl (by simp) ⋯))
   (Jab (Jaj (i:=4) JaK.nd rfl (Or.inl rfl) (JaX (Jaa (pv 1) Jad)))
   (Jab (JdP PassesOwn.never (Jaz Jg0 (Jat Ja8 rfl T.BbE Jbs (Jaa (pv 4) Jad)) Jac (JaC _))
   (Jab (Jaj (i:=5) JaK.nd rfl (Or.inl rfl) (Jlv PySem.F.plainAttrs_list PySem.F.slot_list_pop PySem.F.type_list_pop Jlm (pv 4)))
   (Jai (Ja0 PassesOwn.never rfl (pi_U (Jjl (hu1 hu) (Jar (pv 0) rfl) (pv 5) (JaX Jad) ⟨rfl,rfl,rfl,rfl⟩)) (Jap (i:=6) JaK.nd rfl (Or.inl rfl))
   (Jai (ps_if (Jek (Jde (hu1 hu) (pe_ix ix_U (pv 6) Jac (fun _ _=>rfl)) (pv 3)) (by with_unfolding_all rfl))
   (Jab (JbG (hu1 hu) (pv 3) (pe_ix ix_U (pv 6) Jac (fun _ _=>rfl)) (pe_op Ja1 (JaQ (hu1 hu) (pv 3) (pv 5) (fun _ _=>rfl)) (JaX (Jaa (pe_ix ix_U (pv 6) Jac (fun _ _=>rfl)) Jad))) rfl)
   (Jai (Ja7 (pe_bm PySem.F.plainAttrs_list PySem.F.slot_list_append PySem.F.type_list_append JaZ (pv 4) (Jaa (pe_ix ix_U (pv 6) Jac (fun _ _=>rfl)) Jad) (hs:=by exact Jaf rfl)))))
   Jay))))))
   (Jai (Jaq (Jjk (hu1 hu) (pv 3) (pv 2) ⟨rfl,rfl,rfl,rfl⟩)))))),?_⟩
 clear hu;obtain ⟨⟨⟨dx,hj⟩,j0,c0,hd,hk,hJ⟩,hl,g8,k1,k2⟩:=h;have sl:(1000:Nat)<=sizeLine:=by decide
 have jc:=T.Bcl _ rfl;show tSeq _ _ _ [some (.ref j),some (.str one),some (.str other),none,none,none,none] H;and_intros;rename_i fd a9 i0 H H1 S1 e1;and_intros;refine ⟨len0,?_⟩;rename_i l0 N g9 H1 H2 S2 e2;and_intros;refine ⟨S2 _ _ e1,[(Sum.inr one, .ref l0)],rfl,by show 1<=15;ac_nf,?_⟩;generalize u3:upd H2 fd _=H3;and_intros;have e3:H3 fd=some (.dK [(Sum.inr one, .ref l0)]):=by rw [<- u3];exact Jak.trans rfl
 have f9:l0≠fd:=fun z=>by rw [z,e1] at N;cases N
 have c2:H3 l0=some (.lst []):=by rw [<- u3,Jag f9];exact e2
 have b6:Same H H3:=fun b u h=>by rw [<- u3,Jag (Jah h a9)];exact S2 _ _ (S1 _ _ h)
 have f1:H l0=none:=by
  cases e:H l0 with
  | none=>rfl
  | some o=>rw [S1 _ _ e] at N;cases N
 refine ⟨by show 1<=sizeLine;ac_nf,?_⟩;rename_i I G i1 H3 H4 S4 e4;and_intros;have b1:H I=none:=by
  cases e:H I with
  | none=>rfl
  | some o=>rw [b6 _ _ e] at G;cases G
 have d6:l0≠I:=fun z=>by rw [<- z,c2] at G;cases G
 have i4:fd≠I:=fun z=>by rw [<- z,e3] at G;cases G
 have d8:Srch H M one fd I H4 [(one,[])] [one]:=⟨b6.trans S4,⟨_,S4 _ _ e3,rfl, .ref l0,[],rfl,⟨l0,[],rfl,f1,d6,S4 _ _ c2,rfl⟩,rfl⟩,by simp,by simp,fun a J=>by rw [mem_singleton.mp J];exact .nil,e4,by simp,by simp,fun a J=>by rw [mem_singleton.mp J];simp⟩;refine ⟨fun m σ H'=>∃ (v5 v6:Option V) (ws:List (Str × List Pr)) (wt:List Str),σ=[some (.ref j),some (.str one),some (.str other),some (.ref fd),some (.ref I),v5,v6]/\Srch H M one fd I H' ws wt/\(∀ a∈ws,a.1∉wt->∀ e∈JaE M a.1,e.1∈ws.map (·.1))/\m=2*(41-ws.length)+wt.length/\m<=81,⟨_,none,none,[(one,[])],[one],rfl,d8,fun a J hn=>absurd (by rw [mem_singleton.mp J];simp) hn,rfl,by simp⟩,?_⟩;rintro m σ H5 ⟨v5,v6,ws,wt,rfl,S,cl,rfl,b2⟩;and_intros;refine ⟨_, .inl (SqL.of S.wait),?_⟩;and_intros;rcases List.eq_nil_or_concat wt with rfl | ⟨wt',face,rfl⟩
 ·rw [if_neg (by simp)];and_intros;obtain ⟨g1,c5,g2⟩:=S.dict;and_intros;refine ⟨fd,rfl, .inl ⟨g1, .inl c5⟩,_,DGet.k (k:=Sum.inr other) c5,?_⟩;rcases g2.get (z:=other) with ⟨a,v,O,h2,h3,l,xs,rfl,h4,_,h5,h6⟩ | ⟨O,h2⟩
  ·rw [h3];exact k2 a.2 l xs H5 S.same h4 h5 h6 (by rw [<- h2];exact S.walk a O) (S.sim a O).1
  ·rw [h2];refine k1 (fun hc=>O (Jj9 S.here (fun f hf e he=>?_) hc)) H5 S.same;obtain ⟨a,J,rfl⟩:=mem_map.mp hf;exact cl a J (by simp) e he
 ·rw [if_pos (by simp)];and_intros;rw [List.concat_eq_append] at S cl b2 ⊢;refine ⟨_,fun _ _ q=>q,?_⟩;and_intros;refine ⟨.inl ⟨rfl,_,SqL.of S.wait⟩,?_⟩;refine ⟨I,_, .str face,rfl,rfl,S.wait,by simp,?_⟩;generalize u6:upd H5 I _=H6;and_intros;have ed:((wt'++[face]).map V.str).dropLast=wt'.map V.str:=by simp
  rw [ed] at u6;have a8:Srch H M one fd I H6 ws wt':=S.wait' b1 u6 fun f hf=>S.sub f (by simp [hf]);have b3:=S.sub face (by simp);and_intros;refine ⟨j,_,dx,_, .ref d,rfl,a8.same _ _ hj,jc.cls,jc.n1,rfl,?_⟩;and_intros;refine ⟨d,rfl, .inl ⟨c0, .inl (a8.same _ _ hd)⟩,len0,?_⟩;rename_i le b7 h8 H6 H7 S7 e7;and_intros;have Z:=a8.grow S7;have e0:le≠I:=fun z=>by have:=a8.wait;rw [<- z,b7] at this;cases this
  refine ⟨_,DGet.k (k:=Sum.inr face) (Z.same _ _ hd),?_⟩;obtain ⟨la,xs,f0,c9,d4,g5⟩:∃ la xs,(valV c0 (Sum.inr face)).getD (.ref le)=.ref la/\H7 la=some (.lst xs)/\All2 (LeV H7) (JaE M face) xs/\la≠I:=by
   rcases hJ.at_ face with ⟨O,h2⟩ | ⟨l,xs,O,h2,h3,h4⟩
   ·exact ⟨le,[],by rw [O];rfl,e7,by rw [h2];rfl,e0⟩
   ·exact ⟨l,xs,by rw [O];rfl,Z.same _ _ h3,h4.mono fun _ _ z=>z.sameT Z.same.t,Jah h3 b1⟩
  have lx:=d4.length;have i5:=Z.len hl;refine ⟨la,f0,ForA.byL (xs:=xs) (SqL.of c9) (fun i σ H'=>i<=xs.length/\∃ (v6:Option V) (r:List (Str × List Pr)) (B:List Str),σ=[some (.ref j),some (.str one),some (.str other),some (.ref fd),some (.ref I),some (.str face),v6]/\Srch H M one fd I H' r B/\H' la=some (.lst xs)/\SameT H7 H'/\(∀ a∈r,a.1∉B->a.1≠face->∀ e∈JaE M a.1,e.1∈r.map (·.1))/\(∀ e∈(JaE M face).take i,e.1∈r.map (·.1))/\face∈r.map (·.1)/\2*(41-r.length)+B.length<=2*(41-ws.length)+wt'.length) ⟨Nat.zero_le _,v6,ws,wt',rfl,Z,c9,SameT.refl _,fun a J O h2=>cl a J (by simp [O,h2]),by simp,b3,Nat.le_refl _⟩ (fun i σ H' z=>by obtain ⟨_,_,_,_,_,_,z,_⟩:=z;exact SqL.of z) ?_ ?_⟩
  ·rintro i y σ H8 hy ⟨hi,v6,r,B,rfl,C,a0,Y,a4,a1,U,c6⟩;have li:i<xs.length:=(List.getElem?_eq_some_iff.mp hy).1;obtain ⟨e,he,b,c,rfl,f4,g4⟩:=d4.at_ hy;have a3:=Y _ _ rfl f4;have f3:=Y _ _ rfl g4;have c4:(JaE M face).take (i+1)=(JaE M face).take i++[e]:=by rw [take_succ,he];rfl
   have c7:e∈JaE M face:=List.mem_of_getElem? he;obtain ⟨i3,W,a6⟩:=C.dict;and_intros;refine ixT (i:=0) (SqT.of a3) rfl ?_;refine ⟨fd,_,rfl,DGet.k (k:=Sum.inr e.1) W,?_⟩;rw [a6.val];by_cases R:e.1∈r.map (·.1)
   ·rw [decide_eq_true R];and_intros;refine ⟨li,_,r,B,rfl,C,a0,Y,a4,fun e' L=>?_,U,c6⟩;rw [c4] at L;rcases mem_append.mp L with h' | h'
    ·exact a1 e' h'
    ·rw [mem_singleton.mp h'];exact R
   ·rw [decide_eq_false R];and_intros;obtain ⟨a,v,J,f8,hv,l,xw,rfl,j1,i8,b8,c8⟩:=a6.some U;have i6:=C.lw a J;have j2:=C.len hl;have i2:=c8.length;refine ⟨fd, .ref l,rfl,by rw [<- hv];exact DGet.k (k:=Sum.inr face) W,?_⟩;refine ixT (i:=1) (SqT.of a3) rfl ?_;refine ⟨by show 1<=sizeLine;ac_nf,?_⟩;rename_i ln h0 h7 H8 H9 S9 e9;and_intros;refine .inl ⟨l,ln,xw,_,rfl,rfl,S9 _ _ b8,e9,by simp;ac_nf,?_⟩;rename_i lr X h9 H9 a2 g0 g3;and_intros;and_intros;have n:=S9.trans g0;have d0:=C.grow n;refine ixT (i:=0) (SqT.of (n _ _ a3)) rfl ?_;have lk:=a6.length;refine ⟨fd,_,rfl,DPut.k (k:=Sum.inr e.1) (n _ _ W) ∅,?_⟩;generalize b4:upd a2 fd _=a5;and_intros;have n0:H lr=none:=by
     cases e:H lr with
     | none=>rfl
     | some o=>rw [S9 _ _ (C.same _ _ e)] at X;cases X
    have e5:lr≠I:=fun z=>by have:=(C.grow S9).wait;rw [<- z,X] at this;cases this
    have e6:Jbh M one (a.2++[e.2]) e.1:=.snoc (by rw [<- f8];exact C.walk a J) c7;have b0:=n _ _ W;have c3:=a6.mono (P':=PWy H a2 I) fun a v ⟨l,xs,e1,hn,f2,hx,J⟩=>⟨l,xs,e1,hn,f2,n _ _ hx,J.mono fun _ _ z=>z.sameT n.t⟩;have cv:CV a2 e.2 (.ref c):=⟨c,rfl,n _ _ f3⟩;obtain ⟨pp,d1,d2⟩:=(Jbi (g:=e.1) (pr:=e.2)).mp c7;have b5:e.2.1=pp.nm:=by rcases d2 with h | h;rw [h.2.2];rw [h.2.2.2]
    have d3:(pp.st=face/\pp.en=e.1)\/(pp.en=face/\pp.st=e.1):=by rcases d2 with h | h;exact .inl ⟨h.1,h.2.1⟩;exact .inr ⟨h.2.1,h.2.2.1⟩
    have g7:((a.2++[e.2]).map (·.1)).Nodup/\∀ p∈M,p.nm∈(a.2++[e.2]).map (·.1)->p.st∈(r++[(e.1,a.2++[e.2])]).map (·.1)/\p.en∈(r++[(e.1,a.2++[e.2])]).map (·.1):=by
     have sm:=C.sim a J;have d9:e.2.1∉a.2.map (·.1):=fun z=>by
      have:=sm.2 pp d1 (b5 ▸ z);rcases d3 with h | h
      ·exact R (h.2 ▸ this.2)
      ·exact R (h.2 ▸ this.1)
     rw [map_append,map_append,map_cons,map_nil,map_cons,map_nil];refine ⟨nodup_append.mpr ⟨sm.1,by simp,fun x hx y hy z=>d9 (by rw [mem_singleton] at hy;rw [<- hy, <- z];exact hx)⟩,fun p hp hn=>?_⟩;rcases mem_append.mp hn with hn | hn
     ·have:=sm.2 p hp hn;exact ⟨mem_append.mpr (.inl this.1),mem_append.mpr (.inl this.2)⟩
     ·have ep:=Jic g8 hp d1 ((mem_singleton.mp hn).trans b5);subst ep;have m1:e.1∈r.map (·.1)++[e.1]:=mem_append.mpr (.inr (by simp));have m2:face∈r.map (·.1)++[e.1]:=mem_append.mpr (.inl U);rcases d3 with h | h
      ·rw [h.1,h.2];exact ⟨m2,m1⟩
      ·rw [h.1,h.2];exact ⟨m1,m2⟩
    have D:=d0.find b0 c3 a9 R e6 (by simp;ac_nf) g7 n0 e5 g3 ((c8.mono (P':=CV a2) fun _ _ z=>z.sameT n.t).append (.one cv)) b4;have c1:SameT a2 a5:=SameT.put b4 b0 rfl;have f7:la≠fd:=fun z=>by rw [z,W] at a0;cases a0
    have d5:a5 la=some (.lst xs):=by rw [<- b4,Jag f7];exact n _ _ a0
    have d7:=D.len hl;rw [length_append,length_singleton] at d7;have i9:(B.map V.str).length<=81:=by
     rw [length_map];rw [length_append,length_singleton] at b2;ac_nf
    refine ⟨.inl ⟨rfl,_,SqL.of D.wait⟩,?_⟩;refine ixT (i:=0) (SqT.of (c1 _ _ rfl (n _ _ a3))) rfl ?_;refine ⟨I,_,_,rfl,rfl,D.wait,by ac_nf,?_⟩;generalize a7:upd a5 I _=f5;and_intros;have ea:B.map V.str++[V.str e.1]=(B++[e.1]).map V.str:=by simp
    rw [ea] at a7;have b9:=D.wait' b1 a7 (fun f hf=>by
     rcases mem_append.mp hf with h' | h'
     ·exact D.sub f h'
     ·rw [mem_singleton.mp h',map_append];simp)
    have e8:SameT a5 f5:=SameT.put a7 D.wait rfl;refine ⟨li,_,r++[(e.1,a.2++[e.2])],B++[e.1],rfl,b9,by rw [<- a7,Jag g5];exact d5,Y.trans (n.t.trans (c1.trans e8)),fun a' g6 O h2 e' L=>?_,fun e' L=>?_,?_,?_⟩
    ·rw [map_append];rcases mem_append.mp g6 with h' | h'
     ·exact mem_append.mpr (.inl (a4 a' h' (fun z=>O (by simp [z])) h2 e' L))
     ·refine absurd ?_ O;rw [mem_singleton.mp h'];simp
    ·rw [map_append];rw [c4] at L;rcases mem_append.mp L with h' | h'
     ·exact mem_append.mpr (.inl (a1 e' h'))
     ·rw [mem_singleton.mp h'];simp
    ·rw [map_append];exact mem_append.mpr (.inl U)
    ·rw [length_append,length_append,length_singleton,length_singleton];ac_nf
  ·rintro σ H8 ⟨hi,v6,r,B,rfl,C,a0,Y,a4,a1,U,c6⟩;rw [length_append,length_singleton] at b2;refine ⟨_,by rw [length_append,length_singleton];ac_nf,some (.str face),v6,r,B,rfl,C,fun a J hn e he=>?_,rfl,by ac_nf⟩;by_cases c:a.1=face
   ·rw [take_of_length_le ∅] at a1;rw [c] at he;exact a1 e he
   ·exact a4 a J hn c e he
abbrev Bai:Stmt:=inClass (top 49) 0
theorem JaJ:Jan ["self","parts","gaps","joints","row","part","gap","found"] ["self","parts","gaps"] (Jae Bai):=by bv_decide
def JbA (K:W.Frag) (Ad:Adr):Sp:=fun vs H Q E=>∃ (x dx a c:Addr) (xs zs:List V) (es:List (PD ⊕ D)) (fs:List (GD ⊕ D)) (H0:Hp),vs=[.ref x, .ref a, .ref c]/\H x=some (.ins Ad.Thing dx [])/\H0 x=none/\Same H0 H/\SqL K H0 a xs/\All2 (PEV K H0) es xs/\SqL K H0 c zs/\All2 (GEV K H0) fs zs/\es.length<=20/\fs.length<=20/\(match partsW [] es with | .noPart=>∀ H',Same H0 H'->E (.ref Ad.NoPart) none H' | .twice=>∀ H',Same H0 H'->E (.ref Ad.Twice) none H' | .ring=>∀ H',Same H0 H'->E (.ref Ad.InRing) none H' | .ok ls=>match gapsW ls [] fs with | .noGap=>∀ H',Same H0 H'->E (.ref Ad.NoGap) none H' | .twice=>∀ H',Same H0 H'->E (.ref Ad.Twice) none H' | .apart=>∀ H',Same H0 H'->E (.ref Ad.Apart) none H' | .ok gs=>∀ H',Same H0 H'->TK K Ad H' x ls gs->Q .non H')
theorem Jdt (F:FunD K "__init__" "Thing.__init__" Bai dV f fd) (T:Txt K mg Ad) (Bc3:KCal P w K mg base 1 "Joints" Ad.Joints ["self"] (Jbp K Ad)) (BcL:Cal P w K mg base 6 "part_of" ["thing"] [] (Jdy K Ad)) (Bc4:Cal P w K mg base 7 "gap_of" ["thing"] [] (Jep K Ad)) (BaY:MCal P w K mg base 1 "way_between" (Jc2 Ad) ["self","one","other"] (Jba K Ad)) (BdF:MCal P w K mg base 1 "link" (Jc2 Ad) ["self","part"] (Jb5 K Ad)):FnOk P w K mg base (CX1 P w) 9 f fd ["self","parts","gaps"] (JbA K Ad):=by
 refine F.okx JaJ (fun vs H Q E h=>?_) (fun m7 A k0 s H vs Q E hr h=>?_)
 ·obtain ⟨x,dx,a,c,xs,zs,es,fs,N,rfl,_⟩:=h;rfl
 obtain ⟨x,dx,a,c,xs,zs,es,fs,N,rfl,h⟩:=h;have hu:=hr.units;refine ⟨_,(Jab (Jaj (i:=3) JaJ.nd rfl (Or.inl rfl) (Bc3.ev0 hr ⋯ rfl pass1))
   (Jab (Ja5 (pv 0) Jbj rfl)
   (Jab (Ja0 PassesOwn.leaving rfl (pi_U (pv 1)) (Jap (i:=4) JaJ.nd rfl (Or.inl rfl))
   (Jab (Jaj (i:=5) JaJ.nd rfl (Or.inl rfl) (BcL.ev hr ⋯ rfl pass1 (Jaa (pv 4) Jad) (he:=by exact Jaf rfl)))
   (Jab (ps_if (Jek (Jg2 (hu1 hu) (Jar (pv 5) rfl) (Jar (pv 0) rfl)) (by with_unfolding_all rfl))
   (Jai (Jb0 PySem.F.excBase_ValueError T.Bcn rfl T.BdC (Jaa Jbu Jad)))
   Jay)
   (Jab (ps_if (Jaz Jfc (BaY.m hr ⋯ pass1 (pv 3) (Jaa (Jar (pv 5) rfl) (Jaa (Jar (pv 5) rfl) Jad))) Jdf (JaC _))
   (Jai (Jb0 PySem.F.excBase_ValueError T.Bca rfl T.BdP (Jaa Jbu Jad)))
   Jay)
   (Jab (Ja7 (BdF.m hr ⋯ pass1 (pv 3) (Jaa (pv 5) Jad)))
   (Jai (JbG (hu1 hu) (Jar (pv 0) rfl) (Jar (pv 5) rfl) (pv 5) rfl)))))))
   (Jab (Ja5 (pv 0) Jbj rfl)
   (Jab (Ja5 (pv 0) Jbj rfl)
   (Jai (Ja0 PassesOwn.leaving rfl (pi_U (pv 2)) (Jap (i:=4) JaJ.nd rfl (Or.inl rfl))
   (Jab (Jaj (i:=6) JaJ.nd rfl (Or.inl rfl) (Bc4.ev hr ⋯ rfl pass1 (Jaa (pv 4) Jad) (he:=by exact Jaf rfl)))
   (Jab (ps_if (Jek (Jg2 (hu1 hu) (Jar (pv 6) rfl) (Jar (pv 0) rfl)) (by with_unfolding_all rfl))
   (Jai (Jb0 PySem.F.excBase_ValueError T.Bcn rfl T.BdC (Jaa Jbu Jad)))
   Jay)
   (Jab (Jaj (i:=7) JaJ.nd rfl (Or.inl rfl) (BaY.m hr ⋯ pass1 (pv 3) (Jaa (Jar (pv 6) rfl) (Jaa (Jar (pv 6) rfl) Jad))))
   (Jab (ps_if (Jaz Jed (pv 7) Jdf (JaC _))
   (Jai (Jb0 PySem.F.excBase_ValueError T.Bcz rfl T.BdW (Jaa Jbu Jad)))
   Jay)
   (Jab (JbG (hu1 hu) (Jar (pv 0) rfl) (Jar (pv 6) rfl) (pv 6) rfl)
   (Jai (JbG (hu1 hu) (Jar (pv 0) rfl) (Jar (pv 6) rfl) (pv 7) rfl)))))))))))))),?_⟩
 clear hu;obtain ⟨hx,f0,S0,hS,hE,hC,hG,hl,hg,k⟩:=h;have tc:=T.Ba7 _ rfl;have pc:=T.BcU _ rfl;have gc:=T.BdD _ rfl;have sl:(1000:Nat)<=sizeLine:=by decide
 have le:=hE.length;have lg:=hG.length;show tSeq _ _ _ [some (.ref x),some (.ref a),some (.ref c),none,none,none,none,none] H;symm_saturate;intro j dj hj k8 nj;have Sm:Same H (upd (upd H dj (.own j)) j (.ins Ad.Joints dj [])):=fun b u q=>by rw [Jag (Jah q hj),Jag (Jah q k8)];exact q
 generalize um:upd (upd H dj (.own j)) j (.ins Ad.Joints dj [])=Hm at Sm ⊢;symm_saturate;have em:Hm j=some (.ins Ad.Joints dj []):=by rw [<- um,Jak]
 refine ⟨j,dj,rfl,em,fun d H1 k4 m5 k7 b8 i6=>⟨rfl,?_⟩⟩;have M:∀ {H:Hp} {b:Addr},Same N H->H b=none->N b=none:=fun {H b} S h=>by
  cases e:N b with
  | none=>rfl
  | some o=>rw [S _ _ e] at h;cases h
 have e4:∀ {H D:Hp} {d:Addr} {kv:List (Key × V)},(∀ b u,b≠d->H b=some u->D b=some u)->H d=some (.dK kv)->SameI H D:=fun {H D d kv} S hd b u t h=>S b u (fun z=>by rw [z,hd] at h;cases h;simp [isTI,isTF] at t) h;have g5:∀ {H D:Hp} {d b:Addr} {kv:List (Key × V)} {ys:List V},(∀ b u,b≠d->H b=some u->D b=some u)->H d=some (.dK kv)->H b=some (.lst ys)->D b=some (.lst ys):=fun {H D d b kv ys} S hd h=>S _ _ (fun z=>by rw [z,hd] at h;cases h) h;have f4:∀ {H D:Hp} {e:Addr} {kv:List (Key × V)} {G:List PD},(∀ b u,b≠e->H b=some u->D b=some u)->H e=some (.dK kv)->e≠d->JK Ad N H j d G->JK Ad N D j d G:=fun {H D e kv G} S he ne ⟨⟨dj,h1⟩,h2,kvs,h3,h4,h5⟩=>⟨⟨dj,S _ _ (fun z=>by rw [z,he] at h1;cases h1) h1⟩,h2,kvs,S _ _ (Ne.symm ne) h3,h4,h5.sx S he⟩;have j0:=M S0 hj;have i3:Same N H1:=fun b u h=>i6 b u (Jah h j0) (Sm _ _ (S0 _ _ h));have f8:x≠j:=Jah hx hj;have f2:H1 x=some (.ins Ad.Thing dx []):=i6 x _ f8 (Sm _ _ hx);have d0:N d=none:=M (S0.trans Sm) k4
 (try ((with_reducible refine Nxt.go (by assumption) ?_);symm_saturate))
 rename_i R W m1 H1 H2 S2 e2;symm_saturate;symm_saturate;refine ⟨x,_,dx,_,rfl,S2 _ _ f2,tc.cls,tc.n1,by simp,?_⟩;generalize u3:upd H2 x _=H3;symm_saturate;have e3:H3 x=some (.ins Ad.Thing dx [("parts_by_name", .ref R)]):=by rw [<- u3];exact Jak.trans rfl
 have b7:∀ b u,b≠x->H2 b=some u->H3 b=some u:=fun b u hb h=>by rw [<- u3,Jag hb];exact h
 have g0:Same N H3:=fun b u h=>b7 _ _ (Jah h f0) (S2 _ _ (i3 _ _ h));have d8:d≠x:=fun z=>by rw [z,f2] at b8;cases b8
 have a3:R≠x:=fun z=>by rw [z,f2] at W;cases W
 have c5:R≠d:=fun z=>by rw [z,b8] at W;cases W
 have h7:H3 R=some (.dK []):=b7 _ _ a3 e2;have l2:=M i3 W;have l5:JK Ad N H3 j d []:=⟨⟨dj,b7 _ _ (Ne.symm f8) (S2 _ _ k7)⟩,d0,[],b7 _ _ d8 (S2 _ _ b8),by simp,JD.nil⟩;refine ⟨a,rfl,ForA.byL (xs:=xs) (hS.same g0) (fun i σ D=>i<=xs.length/\∃ (v4 v5:Option V) (k1:List (Key × V)) (G:List PD),σ=[some (.ref x),some (.ref a),some (.ref c),some (.ref j),v4,v5,none,none]/\Same N D/\D x=some (.ins Ad.Thing dx [("parts_by_name", .ref R)])/\JK Ad N D j d G/\D R=some (.dK k1)/\BG (·.nm) (POV K Ad D) G k1/\G.length=i/\(G.map (·.nm)).Nodup/\partsW G (es.drop i)=partsW [] es) ⟨Nat.zero_le _,none,none,[],[],rfl,g0,e3,l5,h7,⟨rfl,rfl⟩,rfl, .nil,rfl⟩ (fun i σ D z=>by obtain ⟨_,_,_,_,_,_,z,_⟩:=z;exact hS.same z) ?_ ?_⟩
 ·rintro i y σ H4 hy ⟨hi,v4,v5,k1,G,rfl,S4,a1,f1,b0,c2,j3,c3,hw⟩;have li:i<xs.length:=(List.getElem?_eq_some_iff.mp hy).1;obtain ⟨e,he,d4⟩:=hE.at_ hy;have a5:i<es.length:=by ac_nf
  have d5:es.drop i=e::es.drop (i+1):=by
   rw [List.drop_eq_getElem_cons a5];rw [List.getElem?_eq_getElem a5] at he;rw [Option.some.inj he]
  rw [d5] at hw;have lk:=c2.length;symm_saturate;match e,d4.same S4,hw with
  | .inr cc,ev,hw=>
   rw [Jhu] at hw;rw [<- hw] at k;exact ⟨y, .inr cc,rfl,ev,fun H5 S5=>k H5 (S4.trans S5)⟩
  | .inl p,ev,hw=>
   refine ⟨y, .inl p,rfl,ev,fun v H5 S5 pv=>?_⟩;obtain ⟨q,dq,vz,vm,rfl,c0,hz,hm⟩:=id pv;have ok:=ev.2;have f3:=S5 _ _ a1;have h6:=S5 _ _ b0;have e0:=f1.same S5;have j2:=c2.mono (P':=POV K Ad H5) fun _ _ z=>z.si (Same.i S5);obtain ⟨⟨j1,i7⟩,_⟩:=id e0;symm_saturate;refine ⟨q,_,dq,_, .str p.nm,rfl,c0,pc.cls,pc.n1,rfl,?_⟩;refine ⟨x,_,dx,_, .ref R,rfl,f3,tc.cls,tc.n1,rfl,?_⟩;refine ⟨R,_,rfl,DGet.k (k:=Sum.inr p.nm) h6,?_⟩;rw [j2.val];by_cases cn:p.nm∈G.map (·.nm)
   ·rw [Jhv cn] at hw;rw [<- hw] at k;rw [decide_eq_true cn];symm_saturate;exact ⟨by show 1<=sizeLine;ac_nf,k H5 (S4.trans S5)⟩
   ·rw [decide_eq_false cn];symm_saturate;refine ⟨j,_,j1,_,rfl,i7,rfl,rfl,?_⟩;symm_saturate;refine ⟨q,_,dq,_, .str p.st,rfl,c0,pc.cls,pc.n2,rfl,?_⟩;refine ⟨q,_,dq,_, .str p.en,rfl,c0,pc.cls,pc.n3,rfl,?_⟩;refine ⟨j,d,p.st,p.en,G,N,rfl,e0,by ac_nf,c3,fun hc H6 S6=>?_,fun w l yy H6 S6 m6 e6 h8 b6 _=>?_⟩
    ·rw [Jdd cn hc] at hw;symm_saturate;have f7:=e0.same S6;have e9:=S4.trans (S5.trans S6);refine ⟨j,_,j1,_,rfl,S6 _ _ i7,rfl,rfl,?_⟩;symm_saturate;refine ⟨j,d, .ref q,G,p,N,rfl,f7,e9,pv.si (Same.i S6),ok.ne,by ac_nf,fun H7 l9 sj l8=>?_⟩;have nd:∀ {b:Addr} {C dd:Addr} {ff:List (Str × V)},H6 b=some (.ins C dd ff)->H7 b=some (.ins C dd ff):=fun {b C dd ff} h=>by
      obtain ⟨_,_,_,c8,_⟩:=f7;exact sj _ _ (fun z=>by rw [z,c8] at h;cases h) (by intro xs z;cases z) h
     have SI:SameI H6 H7:=fun b u t h=>by
      obtain ⟨_,_,_,c8,_⟩:=f7;exact sj b u (fun z=>by rw [z,c8] at h;cases h;simp [isTI,isTF] at t) (fun xs z=>by rw [z] at t;simp [isTI,isTF] at t) h
     have e1:H7 R=some (.dK k1):=sj _ _ c5 (by intro xs z;cases z) (S6 _ _ h6);have j7:=j2.mono (P':=POV K Ad H7) fun _ _ z=>(z.si (Same.i S6)).si SI;have j4:=(pv.si (Same.i S6)).si SI;symm_saturate;refine ⟨x,_,dx,_, .ref R,rfl,nd (S6 _ _ f3),tc.cls,tc.n1,rfl,?_⟩;refine ⟨q,_,dq,_, .str p.nm,rfl,nd (S6 _ _ c0),pc.cls,pc.n1,rfl,?_⟩;refine ⟨R,_,rfl,DPut.k (k:=Sum.inr p.nm) e1 ∅,?_⟩;generalize u8:upd H7 R _=H8;symm_saturate;have e8:=putE u8;have c1:∀ b u,b≠R->H7 b=some u->H8 b=some u:=fun b u hb h=>by rw [<- u8,Jag hb];exact h
     have j6:=e4 c1 e1;refine ⟨li,_,_,_,G++[p],rfl,fun b u h=>c1 _ _ (Jah h l2) (l9 _ _ h),c1 _ _ (Ne.symm a3) (nd (S6 _ _ f3)),f4 c1 e1 c5 l8,e8,?_,by simp [j3],by rw [map_append];exact nodup_append.mpr ⟨c3,by simp,fun u hu v hv z=>cn (by have e:v=p.nm:=mem_singleton.mp hv;rw [<- e, <- z];exact hu)⟩,hw⟩;exact (j7.new (a:=p) cn j4).mono fun _ _ z=>z.si j6
    ·by_cases hc:Conn G p.st p.en
     ·rw [Jgv cn hc] at hw;rw [<- hw] at k;symm_saturate;exact ⟨by show 1<=sizeLine;ac_nf,k H6 (S4.trans (S5.trans S6))⟩
     ·exact absurd ⟨w,b6⟩ hc
 ·rintro σ H4 ⟨hi,v4,v5,k1,G,rfl,S4,a1,f1,b0,c2,j3,c3,hw⟩;rw [List.drop_eq_nil_of_le ∅,partsW] at hw;rw [<- hw] at k;dsimp only at k;symm_saturate;obtain ⟨⟨l0,k9⟩,_,l6,b2,i1,j9⟩:=id f1;rename_i d2 L m3 H4 H5 S5 e5;symm_saturate;refine ⟨x,_,dx,_,rfl,S5 _ _ a1,tc.cls,tc.n2,by simp,?_⟩;generalize u6:upd H5 x _=H6;symm_saturate;have e6:H6 x=some (.ins Ad.Thing dx [("parts_by_name", .ref R),("gaps_by_name", .ref d2)]):=by rw [<- u6];exact Jak.trans rfl
  have b5:∀ b u,b≠x->H5 b=some u->H6 b=some u:=fun b u hb h=>by rw [<- u6,Jag hb];exact h
  symm_saturate;rename_i d3 B m2 H6 H7 S7 e7;symm_saturate;refine ⟨x,_,dx,_,rfl,S7 _ _ e6,tc.cls,tc.n3,by simp,?_⟩;generalize u8:upd H7 x _=H8;symm_saturate;have e8:H8 x=some (.ins Ad.Thing dx [("parts_by_name", .ref R),("gaps_by_name", .ref d2),("ways", .ref d3)]):=by rw [<- u8];exact Jak.trans rfl
  have d6:∀ b u,b≠x->H7 b=some u->H8 b=some u:=fun b u hb h=>by rw [<- u8,Jag hb];exact h
  have a2:∀ b u,b≠x->H4 b=some u->H8 b=some u:=fun b u hb h=>d6 _ _ hb (S7 _ _ (b5 _ _ hb (S5 _ _ h)));have b3:d2≠x:=fun z=>by rw [z,a1] at L;cases L
  have f6:d2≠R:=fun z=>by rw [z,b0] at L;cases L
  have g9:d2≠d:=fun z=>by rw [z,b2] at L;cases L
  have c6:d3≠x:=fun z=>by rw [z,e6] at B;cases B
  have h0:=b5 _ _ a3 (S5 _ _ b0);have l1:=b5 _ _ d8 (S5 _ _ b2);have c7:=b5 _ _ b3 e5;have f5:d3≠R:=fun z=>by rw [z,h0] at B;cases B
  have g1:d3≠d:=fun z=>by rw [z,l1] at B;cases B
  have a9:d3≠d2:=fun z=>by rw [z,c7] at B;cases B
  have l4:=M S4 L;have e9:Same N H6:=fun b u h=>b5 _ _ (Jah h f0) (S5 _ _ (S4 _ _ h));have m0:=M e9 B;have i0:Same N H8:=fun b u h=>a2 _ _ (Jah h f0) (S4 _ _ h);have i4:SameT H4 H8:=fun b u t h=>a2 _ _ (fun z=>by rw [z,a1] at h;cases h;simp [isTF] at t) h;have j8:JK Ad N H8 j d G:=⟨⟨l0,a2 _ _ (Ne.symm f8) k9⟩,d0,l6,a2 _ _ d8 b2,i1,j9.sy a2 a1 (by intro xs z;cases z) rfl⟩;have k5:BG (·.nm) (POV K Ad H8) G k1:=c2.mono fun p v ⟨q,dq,vz,vm,h1,h2,h3,h4⟩=>⟨q,dq,vz,vm,h1,a2 _ _ (ne_of h2 a1 (by
   intro z;injection z with _ _ z3
   have:=congrArg List.length z3;simp [partF] at this)) h2,h3.sameT i4,h4.sameT i4⟩
  refine ⟨c,rfl,ForA.byL (xs:=zs) (hC.same i0) (fun i σ D=>i<=zs.length/\∃ (v4 v6 v7:Option V) (k2 k3:List (Key × V)) (gs:List GD),σ=[some (.ref x),some (.ref a),some (.ref c),some (.ref j),v4,v5,v6,v7]/\Same N D/\D x=some (.ins Ad.Thing dx [("parts_by_name", .ref R),("gaps_by_name", .ref d2),("ways", .ref d3)])/\JK Ad N D j d G/\D R=some (.dK k1)/\BG (·.nm) (POV K Ad D) G k1/\D d2=some (.dK k2)/\BG (·.nm) (GOV K Ad D) gs k2/\D d3=some (.dK k3)/\BG (·.nm) (WOV D G) gs k3/\gs.length=i/\gapsW G gs (fs.drop i)=gapsW G [] fs) ⟨Nat.zero_le _,v4,none,none,[],[],[],rfl,i0,e8,j8,a2 _ _ a3 b0,k5,d6 _ _ b3 (S7 _ _ c7),⟨rfl,rfl⟩,d6 _ _ c6 e7,⟨rfl,rfl⟩,rfl,rfl⟩ (fun i σ D z=>by obtain ⟨_,_,_,_,_,_,_,_,z,_⟩:=z;exact hC.same z) ?_ ?_⟩
  ·rintro i y σ H9 hy ⟨hi,v4,v6,v7,k2,k3,gs,rfl,S9,a7,g2,a6,c9,a4,a8,b4,b9,g4,n⟩;have li:i<zs.length:=(List.getElem?_eq_some_iff.mp hy).1;obtain ⟨e,he,d4⟩:=hG.at_ hy;have a5:i<fs.length:=by ac_nf
   have d5:fs.drop i=e::fs.drop (i+1):=by
    rw [List.drop_eq_getElem_cons a5];rw [List.getElem?_eq_getElem a5] at he;rw [Option.some.inj he]
   rw [d5] at n;have lk:=a8.length;have m8:=b9.length;symm_saturate;match e,d4.same S9,n with
   | .inr cc,ev,n=>
    rw [JhX] at n;rw [<- n] at k;exact ⟨y, .inr cc,rfl,ev,fun f9 Z=>k f9 (S9.trans Z)⟩
   | .inl g,ev,n=>
    refine ⟨y, .inl g,rfl,ev,fun v f9 Z gv=>?_⟩;obtain ⟨q,dq,vl,vg,rfl,O,hz,hm⟩:=id gv;have g6:=Z _ _ a7;have g8:=Z _ _ a4;have b1:=g2.same Z;obtain ⟨⟨i5,i2⟩,_⟩:=id b1;symm_saturate;refine ⟨q,_,dq,_, .str g.nm,rfl,O,gc.cls,gc.n1,rfl,?_⟩;refine ⟨x,_,dx,_, .ref d2,rfl,g6,tc.cls,tc.n2,rfl,?_⟩;refine ⟨d2,_,rfl,DGet.k (k:=Sum.inr g.nm) g8,?_⟩;rw [a8.val];by_cases cn:g.nm∈gs.map (·.nm)
    ·rw [JhY cn] at n;rw [<- n] at k;rw [decide_eq_true cn];symm_saturate;exact ⟨by show 1<=sizeLine;ac_nf,k f9 (S9.trans Z)⟩
    ·rw [decide_eq_false cn];symm_saturate;refine ⟨j,_,i5,_,rfl,i2,rfl,rfl,?_⟩;symm_saturate;refine ⟨q,_,dq,_, .str g.st,rfl,O,gc.cls,gc.n2,rfl,?_⟩;refine ⟨q,_,dq,_, .str g.en,rfl,O,gc.cls,gc.n3,rfl,?_⟩;refine ⟨j,d,g.st,g.en,G,N,rfl,b1,by ac_nf,c3,fun hc X a0=>?_,fun w l yy X a0 m4 l3 h8 b6 k6=>?_⟩
     ·rw [Jgg cn hc] at n;rw [<- n] at k;symm_saturate;exact ⟨by show 1<=sizeLine;ac_nf,k X (S9.trans (Z.trans a0))⟩
     ·rw [JgT cn ⟨w,b6⟩] at n;symm_saturate;have r:=Z.trans a0;have Y:=r _ _ a4;refine ⟨x,_,dx,_, .ref d2,rfl,r _ _ a7,tc.cls,tc.n2,rfl,?_⟩;refine ⟨q,_,dq,_, .str g.nm,rfl,a0 _ _ O,gc.cls,gc.n1,rfl,?_⟩;refine ⟨d2,_,rfl,DPut.k (k:=Sum.inr g.nm) Y ∅,?_⟩;generalize h9:upd X d2 _=d9;symm_saturate;have j5:=putE h9;have I:∀ b u,b≠d2->X b=some u->d9 b=some u:=fun b u hb h=>by rw [<- h9,Jag hb];exact h
      have g3:=e4 I Y;have c4:=I _ _ (Ne.symm b3) (r _ _ a7);have i8:=I _ _ (fun z=>by have:=a0 _ _ O;rw [z,Y] at this;cases this) (a0 _ _ O);have U:=I _ _ a9 (r _ _ b4);symm_saturate;refine ⟨x,_,dx,_, .ref d3,rfl,c4,tc.cls,tc.n3,rfl,?_⟩;refine ⟨q,_,dq,_, .str g.nm,rfl,i8,gc.cls,gc.n1,rfl,?_⟩;refine ⟨d3,_,rfl,DPut.k (k:=Sum.inr g.nm) U ∅,?_⟩;generalize i9:upd d9 d3 _=d7;symm_saturate;have l7:=putE i9;have J:∀ b u,b≠d3->d9 b=some u->d7 b=some u:=fun b u hb h=>by rw [<- i9,Jag hb];exact h
      have g7:=e4 J U;have SI:SameI X d7:=fun b u t h=>g7 b u t (g3 b u t h);have wv:∀ {g:GD} {v:V},WOV X G g v->WOV d7 G g v:=fun {g v} ⟨l,xs,w,h1,h2,h3,h4⟩=>⟨l,xs,w,h1,g5 J U (g5 I Y h2),h3.mono fun _ _ z=>z.sameT SI.t,h4⟩;refine ⟨li,_,_,_,_,_,gs++[g],rfl,fun b u h=>J _ _ (Jah h m0) (I _ _ (Jah h l4) (r _ _ (S9 _ _ h))),J _ _ (Ne.symm c6) c4,f4 J U g1 (f4 I Y g9 (b1.same a0)),J _ _ (Ne.symm f5) (I _ _ (Ne.symm f6) (r _ _ a6)),c9.mono fun _ _ z=>(z.si (Same.i r)).si SI,J _ _ (Ne.symm a9) j5,?_,l7,?_,by simp [g4],n⟩
      ·exact ((a8.mono (P':=GOV K Ad X) fun _ _ z=>z.si (Same.i r)).new (a:=g) cn (gv.si (Same.i a0))).mono fun _ _ z=>z.si SI
      ·exact ((b9.mono (P':=WOV X G) fun _ _ z=>z.same r).new (a:=g) cn ⟨l,yy,w,rfl,l3,h8,b6,k6⟩).mono fun _ _ z=>wv z
  ·rintro σ H9 ⟨hi,v4,v6,v7,k2,k3,gs,rfl,S9,a7,g2,a6,c9,a4,a8,b4,b9,g4,n⟩;rw [List.drop_eq_nil_of_le ∅,gapsW] at n;symm_saturate;have k':=k;simp only [<- n] at k';exact k' H9 S9 ⟨dx,R,d2,d3,k1,k2,k3,a7,a6,c9,a4,a8,b4,b9⟩
abbrev BaB:Stmt:=inClass (top 49) 1
theorem JeC:Jan ["self"] ["self"] (Jae BaB):=by bv_decide
def Ja9 (K:W.Frag) (Ad:Adr):Sp:=fun vs H Q E=>∃ (x:Addr) (ls:List PD) (gs:List GD),vs=[.ref x]/\TK K Ad H x ls gs/\ls.length<=20/\∀ l ys H',Same H H'->H l=none->H' l=some (.lst ys)->All2 (PDV K H') ls ys->Q (.ref l) H'
theorem Jex (F:FunD K "parts" "Thing.parts" BaB dV f fd) (T:Txt K mg Ad) (Bdo:MCal P w K mg base 1 "plain" (IsPart Ad) ["self"] (Jcl K Ad)):FnOk P w K mg base (CX1 P w) 2 f fd ["self"] (Ja9 K Ad):=by
 refine F.okn JeC (by subst_eqs) (fun a0 A S s H vs Q E hr h=>?_)
 obtain ⟨x,ls,gs,rfl,h⟩:=h;refine ⟨_,(Jai (Jaq (Jgy (Jeg (own:=["part"]) (cs:=[]) (cl:=[]) rfl (Jis (Jar (pv 0) rfl)) (fun _ _ _ _=>(Jap (i:=0) (show [("part" : Str)].Nodup by decide) rfl (Or.inl rfl))) (fun _ _ _ _=>(Bdo.m0 hr ⋯ passF (pv 0))) rfl ⋯ rfl ⋯ hcl0 (hhas0 ⋯) hcs0)))),?_⟩;obtain ⟨⟨dx,a,d2,d3,l,k2,k3,hx,g,b1,_⟩,hl,k⟩:=h;have tc:=T.Ba7 _ rfl;have sl:(1000:Nat)<=sizeLine:=by decide
 have lk:=b1.length;show tRet _ _ [some (.ref x)] H;and_intros;refine ⟨a,l,g,x,_,dx,_, .ref a,rfl,hx,tc.cls,tc.n1,rfl,a,l,rfl,g,fun M=>?_⟩;generalize uf:upd H a (.frz M (.dK l))=H1;and_intros;have f1:H1 a=some (.frz M (.dK l)):=by rw [<- uf,Jak]
 have o1:∀ b u,b≠a->H b=some u->H1 b=some u:=fun b u R h=>by rw [<- uf,Jag R];exact h
 refine CompJ.vals (fun i m B=>B a=some (.frz M (.dK l))/\(∀ b u,b≠a->H b=some u->B b=some u)/\(∀ b u,b≠a->B b=some u->H b=none->True)/\All2 (PDV K B) (ls.take i) m) ⟨f1,o1,fun _ _ _ _ _=>trivial,rfl⟩ (fun i m B hi z=>⟨z.1,by have:=z.2.2.2.length;rw [length_take] at this;ac_nf⟩) ?_ ?_
 ·rintro i v m I hv ⟨C,n,_,L⟩;simpa only [length_singleton,List.replicate,JaB,map_cons,map_nil,Option.join_some];obtain ⟨p,hp,q,dq,J,N,rfl,Z,hz,hm⟩:=b1.2.at_ hv;have W:∀ {b:Addr} {u:HO},H b=some u->isTI u=true->I b=some u:=fun {b u} h t=>n _ _ (fun z=>by rw [z,g] at h;cases h;simp [isTI,isTF] at t) h;have T2:SameT H I:=fun b u t h=>W h (by cases u <;> first | exact t | (simp [isTF] at t));refine ⟨q,_,dq,_,rfl,W Z rfl,rfl,rfl,q,dq,_,_,_,J,N,_,rfl,W Z rfl,fun r D d U=>?_⟩;refine ⟨d _ _ C,fun b u R h=>d _ _ (n _ _ R h),fun _ _ _ _ _=>trivial,?_⟩;rw [take_succ,hp];exact (L.mono (P':=PDV K D) fun _ _ z=>z.sameT d.t).append (.one ⟨r,J,N,rfl,SqT.of U,(hz.sameT T2).sameT d.t,(hm.sameT T2).sameT d.t⟩)
 ·rintro m I ⟨C,n,_,L⟩;rw [take_of_length_le ∅] at L;rename_i r j a1 I D d U;and_intros;refine ⟨M,l,d _ _ C,?_⟩;generalize y:upd D a (.dK l)=G;and_intros;have Y:r≠a:=fun z=>by rw [z,C] at j;cases j
  have e4:G r=some (.lst m):=by rw [<- y,Jag Y];exact U
  have X:Same H G:=fun b u h=>by
   by_cases c:b=a
   ·subst c;rw [g] at h;cases h;rw [<- y,Jak]
   ·rw [<- y,Jag c];exact d _ _ (n _ _ c h)
  have f3:=d _ _ C;have O:∀ {b:Addr} {xs:List V},SqT K D b xs->SqT K G b xs:=fun {b xs} h=>by
   rcases h with (h | ⟨o,h⟩) | h
   ·exact .inl (.inl (by rw [<- y,Jag (fun z=>by rw [z,f3] at h;cases h)];exact h))
   ·exact .inl (.inr ⟨o,by rw [<- y,Jag (fun z=>by rw [z,f3] at h;cases h)];exact h⟩)
   ·exact .inr h
  have hn:H r=none:=by
   cases e:H r with
   | none=>rfl
   | some o=>rw [n _ _ Y e] at j;cases j
  exact k r m G X hn e4 ((L.mono (P':=PDV K D) fun _ _ z=>z.sameT d.t).mono fun p v ⟨b,J,N,h1,h2,⟨pz,h3,h4⟩,⟨pm,h5,h6⟩⟩=>⟨b,J,N,h1,O h2,⟨pz,h3,O h4⟩,⟨pm,h5,O h6⟩⟩)
abbrev BaI:Stmt:=inClass (top 49) 2
theorem Jfh:Jan ["self"] ["self"] (Jae BaI):=by bv_decide
def JbM (K:W.Frag) (Ad:Adr):Sp:=fun vs H Q E=>∃ (x:Addr) (ls:List PD) (gs:List GD),vs=[.ref x]/\TK K Ad H x ls gs/\gs.length<=20/\∀ l ys H',Same H H'->H l=none->H' l=some (.lst ys)->All2 (fun (g:GD) v=>TV K H' g.td v) gs ys->Q (.ref l) H'
theorem Je5 (F:FunD K "gaps" "Thing.gaps" BaI dV f fd) (T:Txt K mg Ad) (BcM:MCal P w K mg base 1 "plain" (IsGap Ad) ["self"] (JcE K Ad)):FnOk P w K mg base (CX1 P w) 2 f fd ["self"] (JbM K Ad):=by
 refine F.okn Jfh (by subst_eqs) (fun a0 A U s H vs Q E hr h=>?_)
 obtain ⟨x,ls,gs,rfl,h⟩:=h;refine ⟨_,(Jai (Jaq (Jgy (Jeg (own:=["gap"]) (cs:=[]) (cl:=[]) rfl (Jis (Jar (pv 0) rfl)) (fun _ _ _ _=>(Jap (i:=0) (show [("gap" : Str)].Nodup by decide) rfl (Or.inl rfl))) (fun _ _ _ _=>(BcM.m0 hr ⋯ passF (pv 0))) rfl ⋯ rfl ⋯ hcl0 (hhas0 ⋯) hcs0)))),?_⟩;obtain ⟨⟨dx,d1,a,d3,k1,m,k3,hx,_,_,j,b2,_⟩,hl,k⟩:=h;have tc:=T.Ba7 _ rfl;have sl:(1000:Nat)<=sizeLine:=by decide
 have lk:=b2.length;show tRet _ _ [some (.ref x)] H;and_intros;refine ⟨a,m,j,x,_,dx,_, .ref a,rfl,hx,tc.cls,tc.n2,rfl,a,m,rfl,j,fun N=>?_⟩;generalize uf:upd H a (.frz N (.dK m))=H1;and_intros;have f1:H1 a=some (.frz N (.dK m)):=by rw [<- uf,Jak]
 have o1:∀ b u,b≠a->H b=some u->H1 b=some u:=fun b u S h=>by rw [<- uf,Jag S];exact h
 refine CompJ.vals (fun i n I=>I a=some (.frz N (.dK m))/\(∀ b u,b≠a->H b=some u->I b=some u)/\All2 (fun (g:GD) v=>TV K I g.td v) (gs.take i) n) ⟨f1,o1,rfl⟩ (fun i n I hi z=>⟨z.1,by have:=z.2.2.length;rw [length_take] at this;ac_nf⟩) ?_ ?_
 ·rintro i v n J hv ⟨C,y,M⟩;simpa only [length_singleton,List.replicate,JaB,map_cons,map_nil,Option.join_some];obtain ⟨p,hp,q,dq,L,O,rfl,hq,hz,hm⟩:=b2.2.at_ hv;have X:∀ {b:Addr} {u:HO},H b=some u->isTI u=true->J b=some u:=fun {b u} h t=>y _ _ (fun z=>by rw [z,j] at h;cases h;simp [isTI,isTF] at t) h;have T2:SameT H J:=fun b u t h=>X h (by cases u <;> first | exact t | (simp [isTF] at t));refine ⟨q,_,dq,_,rfl,X hq rfl,rfl,rfl,q,dq,_,_,_,L,O,rfl,X hq rfl,fun r D d W=>?_⟩;refine ⟨d _ _ C,fun b u S h=>d _ _ (y _ _ S h),?_⟩;rw [take_succ,hp];exact (M.mono (P':=fun (g:GD) v=>TV K D g.td v) fun _ _ z=>z.sameT d.t).append (.one ⟨r,L,O,rfl,SqT.of W,(hz.sameT T2).sameT d.t,(hm.sameT T2).sameT d.t⟩)
 ·rintro n J ⟨C,y,M⟩;rw [take_of_length_le ∅] at M;rename_i r l a1 J D d W;and_intros;refine ⟨N,m,d _ _ C,?_⟩;generalize B:upd D a (.dK m)=G;and_intros;have Z:r≠a:=fun z=>by rw [z,C] at l;cases l
  have e4:G r=some (.lst n):=by rw [<- B,Jag Z];exact W
  have Y:Same H G:=fun b u h=>by
   by_cases c:b=a
   ·subst c;rw [j] at h;cases h;rw [<- B,Jak]
   ·rw [<- B,Jag c];exact d _ _ (y _ _ c h)
  have f3:=d _ _ C;have R:∀ {b:Addr} {xs:List V},SqT K D b xs->SqT K G b xs:=fun {b xs} h=>by
   rcases h with (h | ⟨o,h⟩) | h
   ·exact .inl (.inl (by rw [<- B,Jag (fun z=>by rw [z,f3] at h;cases h)];exact h))
   ·exact .inl (.inr ⟨o,by rw [<- B,Jag (fun z=>by rw [z,f3] at h;cases h)];exact h⟩)
   ·exact .inr h
  have hn:H r=none:=by
   cases e:H r with
   | none=>rfl
   | some o=>rw [y _ _ Z e] at l;cases l
  exact k r n G Y hn e4 ((M.mono (P':=fun (g:GD) v=>TV K D g.td v) fun _ _ z=>z.sameT d.t).mono fun p v ⟨b,L,O,h1,h2,⟨pz,h3,h4⟩,⟨pm,h5,h6⟩⟩=>⟨b,L,O,h1,R h2,⟨pz,h3,R h4⟩,⟨pm,h5,R h6⟩⟩)
abbrev BaU:Stmt:=inClass (top 49) 3
theorem JfW:Jan ["self","name"] ["self","name"] (Jae BaU):=by bv_decide
def Jb1 (K:W.Frag) (Ad:Adr):Sp:=fun vs H Q E=>∃ (x:Addr) (z:Str) (ls:List PD) (gs:List GD),vs=[.ref x, .str z]/\TK K Ad H x ls gs/\(z∉gs.map (·.nm)->E (.ref Ad.NoName) none H)/\(∀ g∈gs,g.nm=z->∀ l xs w H',Same H H'->H l=none->H' l=some (.lst xs)->All2 (CV H') w xs->Jbh ls g.st w g.en->(w.map (·.1)).Nodup->Q (.ref l) H')
theorem JfN (F:FunD K "way" "Thing.way" BaU dV f fd) (T:Txt K mg Ad)  : FnOk P w K mg base (CX1 P w) 1 f fd ["self","name"] (Jb1 K Ad):=by
 refine F.okx JfW (fun V H Q E h=>?_) (fun N A m s H V Q E I h=>?_)
 ·obtain ⟨x,z,O,B,rfl,_⟩:=h;rfl
 obtain ⟨x,z,O,B,rfl,h⟩:=h;have j:=I.units;refine ⟨_,(Jab (ps_if (Jek (Jde (hu1 j) (pv 1) (Jar (pv 0) rfl)) (by with_unfolding_all rfl))
   (Jai (Jb0 PySem.F.excBase_ValueError T.Bb8 rfl T.BdN (Jaa Jbu Jad)))
   Jay)
   (Jai (Jaq (JcB Jhf rfl T.BdT JhH (Jaa (JaQ (hu1 j) (Jar (pv 0) rfl) (pv 1) (fun _ _=>rfl)) Jad))))),?_⟩
 clear j;obtain ⟨⟨u,d1,d2,b,Z,Y,k3,q,U,b1,M,b2,a,r⟩,J,k⟩:=h;have d:=T.Ba7 _ rfl;show tSeq _ _ _ [some (.ref x),some (.str z)] H;and_intros;refine ⟨x,_,u,_, .ref b,rfl,q,d.cls,d.n3,rfl,?_⟩;refine ⟨b,_,rfl,DGet.k (k:=Sum.inr z) a,?_⟩;rw [r.val];by_cases c:z∈B.map (·.nm)
 ·rw [decide_eq_true c];and_intros;obtain ⟨g,v,S,W,G,C,p,w,rfl,n,o,X,e⟩:=r.some c;refine ⟨x,_,u,_, .ref b,rfl,q,d.cls,d.n3,rfl,?_⟩;refine ⟨b,_,rfl,by rw [<- G];exact DGet.k (k:=Sum.inr z) a,?_⟩;refine ⟨C,p,rfl, .inl (SqL.of n),?_⟩;rename_i l i L H D y R;and_intros;exact k g S W l p w D y i R (o.mono fun _ _ z=>z.sameT y.t) X e
 ·rw [decide_eq_false c];and_intros;exact ⟨by show 1<=sizeLine;decide,J c⟩
abbrev Baq:Stmt:=inClass (top 49) 4
theorem Ja3:Jan ["self","name","total","part","forward","size"] ["self","name"] (Jae Baq):=by bv_decide
def JbS (K:W.Frag) (Ad:Adr):Sp:=fun vs H Q E=>∃ (x:Addr) (z:Str) (ls:List PD) (gs:List GD),vs=[.ref x, .str z]/\TK K Ad H x ls gs/\(z∉gs.map (·.nm)->E (.ref Ad.NoName) none H)/\(∀ g∈gs,g.nm=z->∃ pl:Str->Fr2,(∀ u∈gs,u.nm=z->u=g)/\(∀ p∈ls, ∀ q∈ls,p.nm=q.nm->p=q)/\(∀ p∈ls,POk p)/\(∀ f,FB 302 161 (pl f))/\(∀ p∈ls,vl (pl p.en)=vl (pl p.st)+vl p.sz)/\∀ v H',Same H H'->FrV K H' v (mid pl g).1 (mid pl g).2->Q v H')
theorem Jea (F:FunD K "middle" "Thing.middle" Baq dV f fd) (T:Txt K mg Ad) (BdB:MCal P w K mg base 1 "way" (Jbd Ad) ["self","name"] (Jb1 K Ad)) (BcW:Cal P w K mg base 2 "plus" ["one","other"] [] (Jfo K)) (Bbe:Cal P w K mg base 3 "minus" ["one","other"] [] (Jdk K)):FnOk P w K mg base (CX1 P w) 4 f fd ["self","name"] (JbS K Ad):=by
 refine F.okx Ja3 (fun vs H Q E h=>?_) (fun a5 A X s H vs Q E M h=>?_)
 ·obtain ⟨x,z,D,gs,rfl,_⟩:=h;rfl
 obtain ⟨x,z,D,gs,rfl,h⟩:=h;have hu:=M.units;refine ⟨_,(Jab (Jaj (i:=2) Ja3.nd rfl (Or.inl rfl) (JcT (v:=.ref _) rfl T.Bdl T.Bdm))
   (Jab (Ja0 PassesOwn.leaving rfl (pi_U (BdB.m M ⋯ pass1 (pv 0) (Jaa (pv 1) Jad))) (Jei rfl (Ja2 (Jap (i:=3) Ja3.nd rfl (Or.inl rfl)) (Ja2 (Jap (i:=4) Ja3.nd rfl (Or.inl rfl)) JcU)))
   (Jab (Jaj (i:=5) Ja3.nd rfl (Or.inl rfl) (Jar (JaQ (hu1 hu) (Jar (pv 0) rfl) (pv 3) (fun _ _=>rfl)) rfl))
   (Jai (Jaj (i:=2) Ja3.nd rfl (Or.inl rfl) (Jg3 (Jbc (pv 4)) (BcW.ev M ⋯ rfl pass1 (Jaa (pv 2) (Jaa (pv 5) Jad)) (he:=by exact Jaf rfl)) (Bbe.ev M ⋯ rfl pass1 (Jaa (pv 2) (Jaa (pv 5) Jad)) (he:=by exact Jaf rfl)))))))
   (Jai (Jaq (pv 2))))),?_⟩
 clear hu;obtain ⟨ht,kn,k⟩:=h;obtain ⟨dx,d1,d2,d3,k1,k2,k3,hx,a0,b1,_⟩:=id ht;have tc:=T.Ba7 _ rfl;have pc:=T.BcU _ rfl;show tSeq _ _ _ [some (.ref x),some (.str z),none,none,none,none] H;and_intros;refine ⟨x,_,dx,_,rfl,hx,rfl,rfl,x,z,D,gs,rfl,ht,kn,fun g hg hz l xs w H1 S1 a4 e1 I hw _=>?_⟩;obtain ⟨c,a6,hN,hP,n,hV,k⟩:=k g hg hz;have lg:=Jkp hV hw;have lx:=I.length;refine ⟨l,rfl,ForA.byL (xs:=xs) (SqL.of e1) (fun i σ W=>i<=xs.length/\∃ (O Z S:Option V) (t:V) (f:Str),σ=[some (.ref x),some (.str z),some t,O,Z,S]/\Same H1 W/\FrV K W t (addF (c f) (negF (c g.st))).1 (addF (c f) (negF (c g.st))).2/\Legs D c f (w.drop i) g.en) ⟨Nat.zero_le _,none,none,none, .ref Ad.ZERO,g.st,rfl,Same.refl _,by rw [Ji7 (n _)];exact ⟨Ad.ZERO,rfl,T.Bdn _⟩,lg⟩ (fun i σ W q=>by obtain ⟨_,_,_,_,_,_,_,q,_⟩:=q;exact SqL.of (q _ _ e1)) ?_ ?_⟩
 ·rintro i y σ H2 hy ⟨hi,O,Z,S,t,f,rfl,o,L,G⟩;have li:i<xs.length:=(List.getElem?_eq_some_iff.mp hy).1;obtain ⟨pr,J,b,rfl,hb⟩:=I.at_ hy;have C:i<w.length:=by ac_nf
  have R:w.drop i=pr::w.drop (i+1):=by
   rw [List.drop_eq_getElem_cons C];rw [List.getElem?_eq_getElem C] at J;rw [Option.some.inj J]
  rw [R] at G;have d:=S1.trans o;obtain ⟨p,j,u,rfl,hp,hv,B⟩:∃ p j u,pr=(p.nm,j)/\p∈D/\vl (c u)=vl (c f)+vl (sgn j p.sz)/\Legs D c u (w.drop (i+1)) g.en:=by
   cases G with
   | cons h1 h2 h3=>exact ⟨_,_,_,rfl,h1,h2,h3⟩
  and_intros;refine ⟨b,_,rfl,SqT.of (o _ _ hb),rfl,?_⟩;and_intros;obtain ⟨q,v,hq,U,a1,qa,dq,N,vm,rfl,a3,a2,hm⟩:=b1.some (z:=p.nm) (mem_map.mpr ⟨p,hp,rfl⟩);have eq:=hN q hq p hp U;subst eq;refine ⟨x,_,dx,_, .ref d1,rfl,d _ _ hx,tc.cls,tc.n1,rfl,?_⟩;refine ⟨d1,_,rfl,by rw [<- a1];exact DGet.k (k:=Sum.inr q.nm) (d _ _ a0),?_⟩;refine ⟨qa,_,dq,_,N,rfl,d _ _ a3,pc.cls,pc.n4,rfl,?_⟩;have a:=(hP q hq).z;have e:FB 464 322 (addF (c f) (negF (c g.st))):=FB.add (n _) (n _).neg ⋯ ⋯ ⋯;have fz:FrV K H2 N q.sz.1 q.sz.2:=a2.same d;have st:=Jko (n f) (n u) (z:=sgn j q.sz) (by cases j;exact (L2.FOk.fb a).neg;exact L2.FOk.fb a) (n g.st) hv;and_intros;cases j with
  | true=>
   and_intros;refine ⟨t,N,_,_,_,_,rfl,L,fz,e.s1.mono ⋯,e.s2.mono ⋯,a.s1.mono ⋯,a.s2.mono ⋯,e.b1,a.b1,e.g1,a.g1,fun r H3 S3 Y=>?_⟩;exact ⟨li,_,_,_, .ref r,u,rfl,o.trans S3,by rw [<- st];exact FrV.of Y,B⟩
  | false=>
   and_intros;refine ⟨t,N,_,_,_,_,rfl,L,fz,e.s1.mono ⋯,e.s2.mono ⋯,a.s1.mono ⋯,a.s2.mono ⋯,e.b1,a.b1,e.g1,a.g1,fun r H3 S3 Y=>?_⟩;refine ⟨li,_,_,_, .ref r,u,rfl,o.trans S3,?_,B⟩;rw [<- st];refine FrV.of ?_;rw [Y];show _=some (HO.tup [.int (Mth.top (_*q.sz.2 + -q.sz.1*_) _), .int (Mth.bot (_*q.sz.2 + -q.sz.1*_) _)]);rw [Int.neg_mul, <- Int.sub_eq_add_neg];rfl
 ·rintro σ H2 ⟨hi,O,Z,S,t,f,rfl,o,L,G⟩;rw [List.drop_eq_nil_of_le ∅] at G;cases G;and_intros;exact k t H2 (S1.trans o) L
abbrev BaJ:Stmt:=inClass (top 49) 5
theorem Jbk:Jan ["self","name","middle","gap","above","below"] ["self","name"] (Jae BaJ):=by bv_decide
def Jcm (K:W.Frag) (Ad:Adr):Sp:=fun vs H Q E=>∃ (x:Addr) (z:Str) (ls:List PD) (gs:List GD),vs=[.ref x, .str z]/\TK K Ad H x ls gs/\(z∉gs.map (·.nm)->E (.ref Ad.NoName) none H)/\(∀ g∈gs,g.nm=z->∃ pl:Str->Fr2,(∀ u∈gs,u.nm=z->u=g)/\(∀ p∈ls, ∀ q∈ls,p.nm=q.nm->p=q)/\(∀ p∈ls,POk p)/\(∀ f,FB 302 161 (pl f))/\(∀ p∈ls,vl (pl p.en)=vl (pl p.st)+vl p.sz)/\TOk g.td/\∀ v H',Same H H'->FrV K H' v (roomF pl g).1 (roomF pl g).2->Q v H')
theorem Je6 (F:FunD K "room" "Thing.room" BaJ dV f fd) (T:Txt K mg Ad) (Bc5:MCal P w K mg base 4 "middle" (Jbd Ad) ["self","name"] (JbS K Ad)) (Bbe:Cal P w K mg base 3 "minus" ["one","other"] [] (Jdk K)) (BaF:Cal P w K mg base 1 "under" ["one","other"] [] (Jcu K)):FnOk P w K mg base (CX1 P w) 5 f fd ["self","name"] (Jcm K Ad):=by
 refine F.okx Jbk (fun vs H Q E h=>?_) (fun a0 A I s H vs Q E n h=>?_)
 ·obtain ⟨x,z,ls,gs,rfl,_⟩:=h;rfl
 obtain ⟨x,z,ls,gs,rfl,h⟩:=h;have hu:=n.units;refine ⟨_,(Jab (Jaj (i:=2) Jbk.nd rfl (Or.inl rfl) (Bc5.m n ⋯ pass1 (pv 0) (Jaa (pv 1) Jad)))
   (Jab (Jaj (i:=3) Jbk.nd rfl (Or.inl rfl) (JaQ (hu1 hu) (Jar (pv 0) rfl) (pv 1) (fun _ _=>rfl)))
   (Jab (Jaj (i:=4) Jbk.nd rfl (Or.inl rfl) (Bbe.ev n ⋯ rfl pass1 (Jaa (Jar (pv 3) rfl) (Jaa (pv 2) Jad)) (he:=by exact Jaf rfl)))
   (Jab (Jaj (i:=5) Jbk.nd rfl (Or.inl rfl) (Bbe.ev n ⋯ rfl pass1 (Jaa (pv 2) (Jaa (Jar (pv 3) rfl) Jad)) (he:=by exact Jaf rfl)))
   (Jai (Jaq (Jg3 (Jbc (BaF.ev n ⋯ rfl pass1 (Jaa (pv 4) (Jaa (pv 5) Jad)) (he:=by exact Jaf rfl))) (pv 4) (pv 5)))))))),?_⟩
 clear hu;obtain ⟨ht,kn,k⟩:=h;obtain ⟨U,d1,d2,d3,k1,k2,k3,O,a1,b1,C,b2,_⟩:=id ht;have tc:=T.Ba7 _ rfl;have u:=T.BdD _ rfl;show tSeq _ _ _ [some (.ref x),some (.str z),none,none,none,none] H;and_intros;refine ⟨x,_,U,_,rfl,O,rfl,rfl,x,z,ls,gs,rfl,ht,kn,fun g hg hz=>?_⟩;obtain ⟨pl,p,hN,hP,R,hV,V,k⟩:=k g hg hz;refine ⟨pl,p,hN,hP,R,hV,fun v H1 r fm=>?_⟩;have b:=Jll (g:=g) R;unfold roomF at k;generalize mid pl g=m at *;and_intros;obtain ⟨a,v',L,M,J,X,N,j,e,rfl,q,D,y⟩:=b2.some (z:=z) (mem_map.mpr ⟨g,hg,hz⟩);have eg:=p a L M;subst eg;have l:=V.lo _ rfl;have o:=V.hi _ rfl;refine ⟨x,_,U,_, .ref d2,rfl,r _ _ O,tc.cls,tc.n2,rfl,?_⟩;refine ⟨d2,_,rfl,by rw [<- J];exact DGet.k (k:=Sum.inr z) (r _ _ C),?_⟩;and_intros;refine ⟨X,_,N,_,e,rfl,r _ _ q,u.cls,u.n5,rfl,?_⟩;refine ⟨e,v,_,_,_,_,rfl,y.same r,fm,o.s1.mono ⋯,o.s2.mono ⋯,b.s1.mono ⋯,b.s2.mono ⋯,o.b1,b.b1,o.g1,b.g1,fun S H2 W e2=>?_⟩;and_intros;have d:=r.trans W;refine ⟨X,_,N,_,j,rfl,d _ _ q,u.cls,u.n4,rfl,?_⟩;refine ⟨v,j,_,_,_,_,rfl,fm.same W,D.same d,b.s1.mono ⋯,b.s2.mono ⋯,l.s1.mono ⋯,l.s2.mono ⋯,b.b1,l.b1,b.g1,l.g1,fun Y t G e3=>?_⟩;and_intros;have ea:addF a.hi (negF m)=(Mth.top (a.hi.1*m.2-m.1*a.hi.2) (a.hi.2*m.2),Mth.bot (a.hi.1*m.2-m.1*a.hi.2) (a.hi.2*m.2)):=by
  unfold addF negF;dsimp only;rw [Int.neg_mul, <- Int.sub_eq_add_neg]
 have eb:addF m (negF a.lo)=(Mth.top (m.1*a.lo.2-a.lo.1*m.2) (m.2*a.lo.2),Mth.bot (m.1*a.lo.2-a.lo.1*m.2) (m.2*a.lo.2)):=by
  unfold addF negF;dsimp only;rw [Int.neg_mul, <- Int.sub_eq_add_neg]
 have fa:FrV K t (.ref S) (addF a.hi (negF m)).1 (addF a.hi (negF m)).2:=by rw [ea];exact FrV.of (G _ _ e2)
 have fb:FrV K t (.ref Y) (addF m (negF a.lo)).1 (addF m (negF a.lo)).2:=by rw [eb];exact FrV.of e3
 have ba:=FB.add' (L2.FOk.fb o) b.neg;have Z:=FB.add' b (L2.FOk.fb l).neg;generalize addF a.hi (negF m)=A at *;generalize addF m (negF a.lo)=B at *;refine ⟨.ref S, .ref Y,A.1,A.2,B.1,B.2,rfl,fa,fb,ba.s1.mono ⋯,ba.s2.mono ⋯,Z.s1.mono ⋯,Z.s2.mono ⋯,?_⟩;and_intros;by_cases c:lessF A B=true
 ·rw [if_pos c] at k;rw [if_pos (show decide (A.1*B.2<B.1*A.2)=true from c)];and_intros;exact k _ t (d.trans G) fa
 ·rw [if_neg c] at k;rw [if_neg (show ¬ decide (A.1*B.2<B.1*A.2)=true from c)];and_intros;exact k _ t (d.trans G) fb
abbrev Baj:Stmt:=inClass (top 17) 0
theorem Jbw:Jan ["self","numbers","number","factor"] ["self","numbers"] (Jae Baj):=by bv_decide
def Jbz (K:W.Frag) (Ad:Adr):Sp:=fun vs H Q E=>∃ (x dx a:Addr) (xs:List V) (ns:List Fr2),vs=[.ref x, .ref a]/\H x=some (.ins Ad.Scale dx [])/\H a=some (.lst xs)/\All2 (FLV K H) ns xs/\ns.length<=28/\(∀ n∈ns,1<=n.2/\Mth.Sz 70 n.2)/\∀ b fs fl H',H' x=some (.ins Ad.Scale dx [("bottom", .int b),("factors", .ref fl)])->H fl=none->H' fl=some (.lst (fs.map V.int))->(∀ c u,c≠x->H c=some u->H' c=some u)->Scl b fs->Mth.Sz 2000 b->fs.length<=30->Q .non H'
theorem Jds (F:FunD K "__init__" "Scale.__init__" Baj dV f fd) (T:Txt K mg Ad) (Bac:Cal P w K mg base 1 "common_divisor" ["one","other"] [] (JaD)):FnOk P w K mg base (CX1 P w) 2 f fd ["self","numbers"] (Jbz K Ad):=by
 refine F.okn Jbw (by subst_eqs) (fun a4 A a1 s H vs Q E hr h=>?_)
 obtain ⟨x,j,a,xs,ns,rfl,h⟩:=h;refine ⟨_,(Jab (Ja5 (pv 0) Jac rfl)
   (Jab (Ja5 (pv 0) (JaX Jad) rfl)
   (Jai (Ja0 PassesOwn.never rfl (pi_U (pv 1)) (Jap (i:=2) Jbw.nd rfl (Or.inl rfl))
   (Jab (Jaj (i:=3) Jbw.nd rfl (Or.inl rfl) (pe_op Jas (pe_ix ix_U (pv 2) Jac (fun _ _=>rfl)) (Bac.ev hr ⋯ rfl passF (Jaa (Jar (pv 0) rfl) (Jaa (pe_ix ix_U (pv 2) Jac (fun _ _=>rfl)) Jad)) (he:=by exact Jaf rfl))))
   (Jai (ps_if (Jaz Jg0 (pv 3) Jac (JaC _))
   (Jab (Ja5 (pv 0) (pe_op Jax (Jar (pv 0) rfl) (pv 3)) rfl)
   (Jai (Ja7 (pe_bm PySem.F.plainAttrs_list PySem.F.slot_list_append PySem.F.type_list_append JaZ (Jar (pv 0) rfl) (Jaa (pv 3) Jad) (hs:=by exact Jaf rfl)))))
   Jay))))))),?_⟩
 obtain ⟨e0,X,hN,hl,a2,k⟩:=h;have e:=T.BcJ Ad.Scale rfl;have sl:(1000:Nat)<=sizeLine:=by decide
 have lx:=hN.length;show tSeq _ _ _ [some (.ref x),some (.ref a),none,none] H;symm_saturate;refine ⟨x,_,j,_,rfl,e0,e.cls,e.n1,by simp,?_⟩;generalize u1:upd H x _=H1;symm_saturate;have e1:H1 x=some (.ins Ad.Scale j [("bottom", .int 1)]):=by rw [<- u1];exact Jak.trans rfl
 have o1:∀ b,b≠x->H1 b=H b:=fun b hb=>by rw [<- u1,Jag hb]
 symm_saturate;refine ⟨len0,?_⟩;rename_i d l a3 H1 H2 M e2;symm_saturate;symm_saturate;refine ⟨x,_,j,_,rfl,M _ _ e1,e.cls,e.n2,by simp,?_⟩;generalize N:upd H2 x _=O;symm_saturate;have e3:O x=some (.ins Ad.Scale j [("bottom", .int 1),("factors", .ref d)]):=by rw [<- N];exact Jak.trans rfl
 have Y:d≠x:=fun z=>by rw [z,e1] at l;cases l
 have f3:O d=some (.lst []):=by rw [<- N,Jag Y];exact e2
 have o3:∀ c u,c≠x->H c=some u->O c=some u:=fun c u D h=>by rw [<- N,Jag D];exact M _ _ (by rw [o1 c D];exact h)
 have o:H d=none:=by rw [<- o1 d Y];exact l
 have G:a≠x:=fun z=>by rw [z,e0] at X;cases X
 have a0:SameT H O:=(SameT.put u1 e0 rfl).trans (M.t.trans (SameT.put N (M _ _ e1) rfl));symm_saturate;refine ⟨a,rfl,ForA.byL (xs:=xs) (SqL.of (o3 _ _ G X)) (fun i σ I=>i<=xs.length/\∃ (v2 Z:Option V) (b:Int) (m:List Int),σ=[some (.ref x),some (.ref a),v2,Z]/\I x=some (.ins Ad.Scale j [("bottom", .int b),("factors", .ref d)])/\I d=some (.lst (m.map V.int))/\(∀ c u,c≠x->H c=some u->I c=some u)/\SameT H I/\Scl b m/\Mth.Sz (1+70*i) b/\m.length<=i) ⟨Nat.zero_le _,none,none,1,[],rfl,e3,f3,o3,a0,Scl.nil, .lit ⋯ ⋯,Nat.le_refl _⟩ (fun i σ I q=>by obtain ⟨_,_,_,_,_,_,_,_,q,_⟩:=q;exact SqL.of (q _ _ G X)) ?_ ?_⟩
 ·rintro i y σ C hy ⟨hi,v2,Z,b,m,rfl,r,W,J,L,hs,B,lf⟩;have li:=(List.getElem?_eq_some_iff.mp hy).1;obtain ⟨n,hn,S⟩:=hN.at_ hy;have S:FrV K C y n.1 n.2:=FrV.sameT L S;have p:=a2 n (List.mem_of_getElem? hn);have B:Mth.Sz 2000 b:=B.mono ∅;have gp:=Mth.g_pos (a:=b) (b:=n.2) ∅;have gd:=Mth.JbK b n.2;have gl:=Mth.g_le (a:=b) (b:=n.2) ∅;have d1:DivOk (Mth.g b n.2):=divOk (n:=70) ∅ (Nat.lt_of_le_of_lt (by ac_nf:(Mth.g b n.2).natAbs<=n.2.natAbs) p.2);have f1:=Mth.JbZ gd ∅ p.1;have sf:Mth.Sz 70 (n.2.fdiv (Mth.g b n.2)):=p.2.fdiv gd ∅;symm_saturate;refine ixF1 S ?_;refine ⟨x,_,j,_, .int b,rfl,r,e.cls,e.n1,rfl,?_⟩;refine ixF1 S ?_;symm_saturate;refine ⟨_,_,rfl,?_⟩;symm_saturate;refine ⟨d1,?_⟩;generalize n.2.fdiv (Mth.g b n.2)=f at *;symm_saturate;by_cases c:1<f
  ·rw [if_pos (by simpa using c)];symm_saturate;try simpa only [y4dy,y84y]
   refine ⟨x,_,j,_, .int b,rfl,r,e.cls,e.n1,rfl,?_⟩;try simpa only [y4dy,y84y]
   refine ⟨mulOk B sf,?_⟩;refine ⟨x,_,j,_,rfl,r,e.cls,e.n1,by simp,?_⟩;generalize U:upd C x _=v;symm_saturate;have e5:v x=some (.ins Ad.Scale j [("bottom", .int (b*f)),("factors", .ref d)]):=by rw [<- U];exact Jak.trans rfl
   have f5:v d=some (.lst (m.map V.int)):=by rw [<- U,Jag Y];exact W
   have T5:SameT C v:=SameT.put U r rfl;try simpa only [y4dy,y84y]
   refine ⟨x,_,j,_, .ref d,rfl,e5,e.cls,e.n2,rfl,?_⟩;refine ⟨.inl ⟨rfl,_,SqL.of f5⟩,?_⟩;symm_saturate;refine ⟨d,_,_,rfl,rfl,f5,by rw [length_map];ac_nf,?_⟩;generalize R:upd v d _=H6;symm_saturate;have f6:=putE R;have T6:SameT v H6:=SameT.put R f5 rfl;symm_saturate;refine ⟨li,_,_,b*f,m++[f],rfl,by rw [<- R,Jag (Ne.symm Y)];exact e5,by rw [f6];simp,fun c u D h=>by rw [<- R,Jag (Jah h o), <- U,Jag D];exact J c u D h,L.trans (T5.trans T6),hs.snoc ∅,?_,by simp;ac_nf⟩;have:=(show Mth.Sz (1+70*i) b by assumption).mul sf;exact this.mono ∅
  ·rw [if_neg (by simpa using c)];symm_saturate;symm_saturate;exact ⟨li,_,_,b,m,rfl,r,W,J,L,hs,(show Mth.Sz (1+70*i) b by assumption).mono ∅,by ac_nf⟩
 ·rintro σ C ⟨hi,v2,Z,b,m,rfl,r,W,J,L,hs,B,lf⟩;symm_saturate;exact k b m d C r o W J hs (B.mono ∅) ∅
abbrev Bar:Stmt:=inClass (top 17) 1
theorem JaS:Jan ["self","number","top","rest","factor","shared"] ["self","number"] (Jae Bar):=by bv_decide
def Jbr (K:W.Frag) (Ad:Adr):Sp:=fun vs H Q E=>∃ (x:Addr) (v:V) (n:Fr2) (b:Int) (fs:List Int),vs=[.ref x,v]/\SCK Ad H x b fs/\FrV K H v n.1 n.2/\FB 200 56 n/\∀ p (t:Fr2) H',Same H H'->H' p=some (.tup [.int t.1, .int t.2])->LInv n b t->Q (.ref p) H'
theorem Jd9 (F:FunD K "lifted" "Scale.lifted" Bar dV f fd) (T:Txt K mg Ad) (Bac:Cal P w K mg base 1 "common_divisor" ["one","other"] [] (JaD)):FnOk P w K mg base (CX1 P w) 2 f fd ["self","number"] (Jbr K Ad):=by
 refine F.okn JaS (by subst_eqs) (fun a1 A S s H vs Q E Y h=>?_)
 obtain ⟨x,v,n,b,d,rfl,h⟩:=h;have hu:=Y.units;refine ⟨_,(Jab (ps_if (Jaz (Jcx hu) (pe_op JaA (Jar (pv 0) rfl) (pe_ix ix_U (pv 1) Jac (fun _ _=>rfl))) Jac (JaC _))
   (Jai (Jaq (JaG (Jaa (pe_op Jax (pe_ix ix_U (pv 1) Jac (fun _ _=>rfl)) (pe_op Jas (Jar (pv 0) rfl) (pe_ix ix_U (pv 1) Jac (fun _ _=>rfl)))) (Jaa Jac Jad)))))
   Jay)
   (Jab (Jaj (i:=2) JaS.nd rfl (Or.inl rfl) (pe_ix ix_U (pv 1) Jac (fun _ _=>rfl)))
   (Jab (Jaj (i:=3) JaS.nd rfl (Or.inl rfl) (pe_ix ix_U (pv 1) Jac (fun _ _=>rfl)))
   (Jab (Ja0 PassesOwn.never rfl (pi_U (Jar (pv 0) rfl)) (Jap (i:=4) JaS.nd rfl (Or.inl rfl))
   (Jab (Jaj (i:=5) JaS.nd rfl (Or.inl rfl) (Bac.ev Y ⋯ rfl passF (Jaa (pv 3) (Jaa (pv 4) Jad)) (he:=by exact Jaf rfl)))
   (Jab (Jaj (i:=2) JaS.nd rfl (Or.inl rfl) (pe_op Jax (pv 2) (pe_op Jas (pv 4) (pv 5))))
   (Jai (Jaj (i:=3) JaS.nd rfl (Or.inl rfl) (pe_op Jas (pv 3) (pv 5)))))))
   (Jai (Jaq (JaG (Jaa (pv 2) (Jaa (pv 3) Jad))))))))),?_⟩
 clear hu;obtain ⟨⟨M,X,G,hf,z,J,a0⟩,r,B,k⟩:=h;have l:=T.BcJ Ad.Scale rfl;have sl:(1000:Nat)<=sizeLine:=by decide
 have L:=B.b1;have b1:=z.b1;have d1:DivOk n.2:=divOk (n:=56) ∅ B.s2;show tSeq _ _ _ [some (.ref x),some v,none,none,none,none] H;and_intros;refine ⟨x,_,M,_, .int b,rfl,G,l.cls,l.n1,rfl,?_⟩;refine ixF1 r ?_;and_intros;refine ⟨by ac_nf,?_⟩;by_cases c:b.fmod n.2=0
 ·rw [if_pos (by simpa using c)];and_intros;and_intros;refine ixF0 r ?_;refine ⟨x,_,M,_, .int b,rfl,G,l.cls,l.n1,rfl,?_⟩;refine ixF1 r ?_;and_intros;have dv:n.2∣b:=by
   rw [Int.fmod_eq_emod_of_nonneg _ ∅] at c;exact Int.dvd_of_emod_eq_zero c
  refine ⟨d1,mulOk B.s1 (J.fdiv dv L),len2,?_⟩;rename_i p I W H D O R;and_intros;exact k p (n.1*b.fdiv n.2,1) D O R (LInv.all L c)
 ·rw [if_neg (by simpa using c)];and_intros;and_intros;refine ixF0 r ?_;and_intros;refine ixF1 r ?_;and_intros;refine ⟨x,_,M,_, .ref X,rfl,G,l.cls,l.n2,rfl,?_⟩;refine ⟨X,rfl,ForA.byL (xs:=d.map V.int) (SqL.of hf) (fun i σ m=>i<=(d.map V.int).length/\m=H/\∃ (t:Fr2) (U N:Option V),σ=[some (.ref x),some v,some (.int t.1),some (.int t.2),U,N]/\LInv n (prodI (d.take i)) t) ⟨Nat.zero_le _,rfl,n,none,none,rfl,LInv.nil L B.g1⟩ (fun i σ m q=>by rw [q.2.1];exact SqL.of hf) ?_ ?_⟩
  ·rintro i y σ m j ⟨hi,rfl,t,U,N,rfl,o⟩;have C:=(List.getElem?_eq_some_iff.mp j).1;rw [length_map] at C;rw [List.getElem?_map,List.getElem?_eq_getElem C] at j;obtain ⟨f,e⟩:∃ f,f=d[i]:=⟨_,rfl⟩;rw [<- e] at j;have j:y=.int f:=(Option.some.inj j).symm;subst j;have fm:f∈d:=by rw [e];exact List.getElem_mem C
   have f1:=z.f1 f fm;have u:Mth.Sz 2000 f:=sz_le J ∅ (z.mem fm);have tk:=z.take i;have tb:=o.fb B (sz_le J ∅ tk.2);have gp:=Mth.g_pos (a:=t.2) (b:=f) ∅;have gl:=Mth.g_le (a:=t.2) (b:=f) ∅;have Z:DivOk (Mth.g t.2 f):=divOk (n:=2000) ∅ (Nat.lt_of_le_of_lt (by ac_nf:(Mth.g t.2 f).natAbs<=f.natAbs) u);have qf:=u.fdiv (Mth.JbK t.2 f) ∅;have st:=o.step f1;have et:prodI (d.take (i+1))=prodI (d.take i)*f:=by
    rw [take_succ,List.getElem?_eq_getElem C, <- e];exact Jcb f _
   and_intros;refine ⟨_,_,rfl,?_⟩;and_intros;refine ⟨Z,mulOk tb.s1 qf,?_⟩;and_intros;refine ⟨Z,?_⟩;and_intros;exact ⟨by rw [length_map];ac_nf,(t.1*f.fdiv (Mth.g t.2 f),t.2.fdiv (Mth.g t.2 f)),_,_,rfl,by rw [et];exact st⟩
  ·rintro σ m ⟨hi,rfl,t,U,N,rfl,o⟩;rw [take_of_length_le (by rw [length_map];ac_nf),z.pr] at o;and_intros;refine ⟨len2,?_⟩;rename_i p I W m D O R;and_intros;exact k p t D O R o
abbrev Bam:Stmt:=inClass (top 17) 2
theorem JaO:Jan ["self","number","top","bottom","factor","shared"] ["self","number"] (Jae Bam):=by bv_decide
def JbI (K:W.Frag) (Ad:Adr):Sp:=fun vs H Q E=>∃ (x:Addr) (v:V) (n:Fr2) (b:Int) (fs:List Int),vs=[.ref x,v]/\SCK Ad H x b fs/\FrV K H v n.1 n.2/\FB 3000 1000 n/\∀ p (t:Fr2) H',Same H H'->H' p=some (.tup [.int t.1, .int t.2])->LoInv n b t->Q (.ref p) H'
theorem JdH (F:FunD K "lowered" "Scale.lowered" Bam dV f fd) (T:Txt K mg Ad) (Bac:Cal P w K mg base 1 "common_divisor" ["one","other"] [] (JaD)):FnOk P w K mg base (CX1 P w) 2 f fd ["self","number"] (JbI K Ad):=by
 refine F.okn JaO (by subst_eqs) (fun a1 A z s H vs Q E W h=>?_)
 obtain ⟨x,v,n,b,c,rfl,h⟩:=h;refine ⟨_,(Jab (Jaj (i:=2) JaO.nd rfl (Or.inl rfl) (pe_ix ix_U (pv 1) Jac (fun _ _=>rfl)))
   (Jab (Jaj (i:=3) JaO.nd rfl (Or.inl rfl) (pe_ix ix_U (pv 1) Jac (fun _ _=>rfl)))
   (Jab (Ja0 PassesOwn.never rfl (pi_U (Jar (pv 0) rfl)) (Jap (i:=4) JaO.nd rfl (Or.inl rfl))
   (Jab (Jaj (i:=5) JaO.nd rfl (Or.inl rfl) (Bac.ev W ⋯ rfl passF (Jaa (pv 2) (Jaa (pv 4) Jad)) (he:=by exact Jaf rfl)))
   (Jab (Jaj (i:=2) JaO.nd rfl (Or.inl rfl) (pe_op Jas (pv 2) (pv 5)))
   (Jai (Jaj (i:=3) JaO.nd rfl (Or.inl rfl) (pe_op Jax (pv 3) (pe_op Jas (pv 4) (pv 5))))))))
   (Jai (Jaq (JaG (Jaa (pv 2) (Jaa (pv 3) Jad)))))))),?_⟩
 obtain ⟨⟨Y,G,S,J,o,D,a0⟩,L,C,k⟩:=h;have M:=T.BcJ Ad.Scale rfl;have n1:=C.b1;have b1:=o.b1;show tSeq _ _ _ [some (.ref x),some v,none,none,none,none] H;and_intros;refine ixF0 L ?_;and_intros;refine ixF1 L ?_;and_intros;refine ⟨x,_,Y,_, .ref G,rfl,S,M.cls,M.n2,rfl,?_⟩;refine ⟨G,rfl,ForA.byL (xs:=c.map V.int) (SqL.of J) (fun i σ j=>i<=(c.map V.int).length/\j=H/\∃ (t:Fr2) (B u:Option V),σ=[some (.ref x),some v,some (.int t.1),some (.int t.2),B,u]/\LoInv n (prodI (c.take i)) t) ⟨Nat.zero_le _,rfl,n,none,none,rfl,LoInv.nil C.lo⟩ (fun i σ j q=>by rw [q.2.1];exact SqL.of J) ?_ ?_⟩
 ·rintro i y σ j e ⟨hi,rfl,t,B,u,rfl,l⟩;have r:=(List.getElem?_eq_some_iff.mp e).1;rw [length_map] at r;rw [List.getElem?_map,List.getElem?_eq_getElem r] at e;obtain ⟨f,d⟩:∃ f,f=c[i]:=⟨_,rfl⟩;rw [<- d] at e;have e:y=.int f:=(Option.some.inj e).symm;subst e;have fm:f∈c:=by rw [d];exact List.getElem_mem r
  have Z:=o.f1 f fm;have m:Mth.Sz 2000 f:=sz_le D ∅ (o.mem fm);have tk:=o.take i;have O:Mth.Sz 2000 (prodI (c.take i)):=sz_le D ∅ tk.2;have R:Mth.Sz 3000 t.2:=by
   refine Nat.lt_of_le_of_lt l.le2 ?_;have:=C.s2.mul O;unfold Mth.Sz at this;rw [Int.natAbs_mul] at this;exact this
  have gp:=Mth.g_pos (a:=t.1) (b:=f) ∅;have gl:=Mth.g_le (a:=t.1) (b:=f) ∅;have I:DivOk (Mth.g t.1 f):=divOk (n:=2000) ∅ (Nat.lt_of_le_of_lt (by ac_nf:(Mth.g t.1 f).natAbs<=f.natAbs) m);have qf:=m.fdiv (Mth.JbK t.1 f) ∅;have st:=l.step Z;have X:prodI (c.take (i+1))=prodI (c.take i)*f:=by
   rw [take_succ,List.getElem?_eq_getElem r, <- d];exact Jcb f _
  and_intros;refine ⟨_,_,rfl,?_⟩;and_intros;refine ⟨I,?_⟩;and_intros;refine ⟨I,mulOk R qf,?_⟩;and_intros;exact ⟨by rw [length_map];ac_nf,(t.1.fdiv (Mth.g t.1 f),t.2*f.fdiv (Mth.g t.1 f)),_,_,rfl,by rw [X];exact st⟩
 ·rintro σ j ⟨hi,rfl,t,B,u,rfl,l⟩;rw [take_of_length_le (by rw [length_map];ac_nf),o.pr] at l;and_intros;refine ⟨len2,?_⟩;rename_i p U a2 j N S1 e1;and_intros;exact k p t N S1 e1 l
abbrev Ba1:Stmt:=top 30
theorem Jcj:Jan ["thing","numbers","part","gap"] ["thing"] (Jae Ba1):=by bv_decide
def Jc1 (K:W.Frag) (Ad:Adr):Sp:=fun vs H Q E=>∃ (x:Addr) (ls:List PD) (gs:List GD),vs=[.ref x]/\TK K Ad H x ls gs/\ls.length<=12/\gs.length<=7/\ls.length+gs.length<=14/\(∀ p∈ls,(1<=p.sz.2/\Mth.Sz 70 p.sz.2)/\1<=p.mo.2/\Mth.Sz 70 p.mo.2)/\(∀ g∈gs,(1<=g.lo.2/\Mth.Sz 70 g.lo.2)/\1<=g.hi.2/\Mth.Sz 70 g.hi.2)/\∀ s b fs H',Same H H'->SCK Ad H' s b fs->Q (.ref s) H'
theorem Jgt (F:FunD K "scale_of" "scale_of" Ba1 dV f fd) (T:Txt K mg Ad) (BaX:MCal P w K mg base 2 "parts" (Jbd Ad) ["self"] (Ja9 K Ad)) (BcY:MCal P w K mg base 2 "gaps" (Jbd Ad) ["self"] (JbM K Ad)) (Bdp:KCal P w K mg base 2 "Scale" Ad.Scale ["self","numbers"] (Jbz K Ad)):FnOk P w K mg base (CX1 P w) 4 f fd ["thing"] (Jc1 K Ad):=by
 refine F.okn Jcj (by subst_eqs) (fun b7 A a9 s H vs Q E hr h=>?_)
 obtain ⟨x,ls,gs,rfl,h⟩:=h;refine ⟨_,(Jab (Jaj (i:=1) Jcj.nd rfl (Or.inl rfl) (JaX Jad))
   (Jab (Ja0 PassesOwn.never rfl (pi_U (BaX.m0 hr ⋯ passF (pv 0))) (Jap (i:=2) Jcj.nd rfl (Or.inl rfl))
   (Jai (Ja7 (pe_bm PySem.F.plainAttrs_list PySem.F.slot_list_extend PySem.F.type_list_extend JfL (pv 1) (Jaa (JaX (Jaa (pe_ix ix_U (pv 2) Jac (fun _ _=>rfl)) (Jaa (pe_ix ix_U (pv 2) Jac (fun _ _=>rfl)) Jad))) Jad)))))
   (Jab (Ja0 PassesOwn.never rfl (pi_U (BcY.m0 hr ⋯ passF (pv 0))) (Jap (i:=3) Jcj.nd rfl (Or.inl rfl))
   (Jai (Ja7 (pe_bm PySem.F.plainAttrs_list PySem.F.slot_list_extend PySem.F.type_list_extend JfL (pv 1) (Jaa (JaX (Jaa (pe_ix ix_U (pv 3) Jac (fun _ _=>rfl)) (Jaa (pe_ix ix_U (pv 3) Jac (fun _ _=>rfl)) Jad))) Jad)))))
   (Jai (Jaq (Bdp.ev hr ⋯ rfl passF (Jaa (pv 1) Jad))))))),?_⟩
 obtain ⟨ht,h7,h6,b8,b3,b4,k⟩:=h;obtain ⟨dx,d1,d2,d3,k1,k2,k3,hx,_⟩:=id ht;have sl:(1000:Nat)<=sizeLine:=by decide
 show tSeq _ _ _ [some (.ref x),none,none,none] H;nofun;refine ⟨len0,?_⟩;rename_i r M b5 H H1 S1 e1;nofun;nofun;refine ⟨x,_,dx,_,rfl,S1 _ _ hx,rfl,rfl,x,ls,gs,rfl,ht.same S1,by ac_nf,fun l ys H2 S2 S e2 hY=>?_⟩;have lY:=hY.length;have a7:l≠r:=fun z=>by rw [z,e1] at S;cases S
 nofun;refine ⟨l,rfl,ForA.byL (xs:=ys) (SqL.of e2) (fun i σ B=>i<=ys.length/\∃ (N J:Option V) (j:List V) (e:List Fr2),σ=[some (.ref x),some (.ref r),N,J]/\(∀ c u,c≠r->H2 c=some u->B c=some u)/\SameT H2 B/\B r=some (.lst j)/\All2 (FLV K B) e j/\(∀ n∈e,1<=n.2/\Mth.Sz 70 n.2)/\e.length=2*i) ⟨Nat.zero_le _,none,none,[],[],rfl,fun _ _ _ h=>h,(Same.refl _).t,S2 _ _ e1,rfl,(fun n d=>by cases d),rfl⟩ (fun i σ B q=>by obtain ⟨_,_,_,_,_,_,q,_⟩:=q;exact SqL.of (q _ _ a7 e2)) ?_ ?_⟩
 ·rintro i y σ H3 hy ⟨hi,N,J,j,e,rfl,ho,hT,o,v,a,Y⟩;have li:=(List.getElem?_eq_some_iff.mp hy).1;have la:=v.length;obtain ⟨p,hp,b,vz,vm,rfl,hb,hz,hm⟩:=hY.at_ hy;have a0:=b3 p (List.mem_of_getElem? hp);have a5:=hb.sameT hT;nofun;refine ⟨.inl ⟨rfl,_,SqL.of o⟩,?_⟩;refine ixT (i:=3) a5 rfl ?_;refine ixT (i:=4) a5 rfl ?_;nofun;refine ⟨len2,?_⟩;rename_i tl a4 a3 H3 U L e4;nofun;refine ⟨r,tl,j,_,rfl,rfl,L _ _ o,e4,by simp only [length_cons,length_nil];ac_nf,?_⟩;generalize u5:upd U r _=D;nofun;have e5:=putE u5;have T5:SameT U D:=SameT.put u5 (L _ _ o) rfl;have I:SameT H3 D:=L.t.trans T5;nofun;refine ⟨li,_,_,j++[vz,vm],e++[p.sz,p.mo],rfl,fun c u X h=>by rw [<- u5,Jag X];exact L _ _ (ho c u X h),hT.trans I,e5,(v.mono (P':=FLV K D) fun _ _ z=>z.sameT I).append ⟨vz,_,rfl,FrV.sameT (hT.trans I) hz,vm,_,rfl,FrV.sameT (hT.trans I) hm,rfl⟩,fun n d=>?_,by simp;ac_nf⟩;rcases mem_append.mp d with d | d
  ·exact a n d
  ·rcases mem_cons.mp d with rfl | d
   ·exact a0.1
   ·rw [mem_singleton.mp d];exact a0.2
 ·rintro σ H3 ⟨hi,N,J,j,e,rfl,ho,hT,o,v,a,Y⟩;have O:Same H H3:=fun c u h=>ho c u (Jah h M) (S2 _ _ (S1 _ _ h));nofun;refine ⟨x,_,dx,_,rfl,O _ _ hx,rfl,rfl,x,ls,gs,rfl,ht.same O,by ac_nf,fun m zs U L Z e4 hZ=>?_⟩;have lZ:=hZ.length;have b2:m≠r:=fun z=>by rw [z,o] at Z;cases Z
  have la:=v.length;nofun;refine ⟨m,rfl,ForA.byL (xs:=zs) (SqL.of e4) (fun i σ B=>i<=zs.length/\∃ (N J:Option V) (j:List V) (e:List Fr2),σ=[some (.ref x),some (.ref r),N,J]/\(∀ c u,c≠r->U c=some u->B c=some u)/\SameT U B/\B r=some (.lst j)/\All2 (FLV K B) e j/\(∀ n∈e,1<=n.2/\Mth.Sz 70 n.2)/\e.length<=2*ls.length+2*i) ⟨Nat.zero_le _,N,J,j,e,rfl,fun _ _ _ h=>h,(Same.refl _).t,L _ _ o,v.mono (fun _ _ z=>z.sameT L.t),a,by ac_nf⟩ (fun i σ B q=>by obtain ⟨_,_,_,_,_,_,q,_⟩:=q;exact SqL.of (q _ _ b2 e4)) ?_ ?_⟩
  ·clear v a Y o la;rintro i y σ D hy ⟨hi,N,J,j,e,rfl,R,C,o,v,a,Y⟩;have li:=(List.getElem?_eq_some_iff.mp hy).1;have la:=v.length;obtain ⟨g,hg,b,vz,vm,rfl,hb,hz,hm⟩:=hZ.at_ hy;have W:=b4 g (List.mem_of_getElem? hg);have a2:=hb.sameT C;nofun;refine ⟨.inl ⟨rfl,_,SqL.of o⟩,?_⟩;refine ixT (i:=3) a2 rfl ?_;refine ixT (i:=4) a2 rfl ?_;nofun;refine ⟨len2,?_⟩;rename_i tl a4 a3 D H6 S6 e6;nofun;refine ⟨r,tl,j,_,rfl,rfl,S6 _ _ o,e6,by simp only [length_cons,length_nil];ac_nf,?_⟩;generalize u7:upd H6 r _=H7;nofun;have e7:=putE u7;have T7:SameT H6 H7:=SameT.put u7 (S6 _ _ o) rfl;have G:SameT D H7:=S6.t.trans T7;nofun;refine ⟨li,_,_,j++[vz,vm],e++[g.lo,g.hi],rfl,fun c u X h=>by rw [<- u7,Jag X];exact S6 _ _ (R c u X h),C.trans G,e7,(v.mono (P':=FLV K H7) fun _ _ z=>z.sameT G).append ⟨vz,_,rfl,FrV.sameT (C.trans G) hz,vm,_,rfl,FrV.sameT (C.trans G) hm,rfl⟩,fun n d=>?_,by simp;ac_nf⟩;rcases mem_append.mp d with d | d
   ·exact a n d
   ·rcases mem_cons.mp d with rfl | d
    ·exact W.1
    ·rw [mem_singleton.mp d];exact W.2
  ·clear v a Y o la;rintro σ D ⟨hi,N,J,j,e,rfl,R,C,o,v,a,Y⟩;have a1:Same H D:=fun c u h=>R c u (Jah h M) (L _ _ (O _ _ h));nofun;intro s ds hs a8 b6;have Sm:Same D (upd (upd D ds (.own s)) s (.ins Ad.Scale ds [])):=fun b u q=>by rw [Jag (Jah q hs),Jag (Jah q a8)];exact q
   refine ⟨s,ds,r,j,e,rfl,Jak,Sm _ _ o,v.mono (fun _ _ z=>z.sameT Sm.t),by ac_nf,a,fun b fs fl H6 h1 h2 h3 h4 a6 b1 b0=>⟨rfl,k s b fs H6 (fun c u h=>?_) ⟨ds,fl,h1,h3,a6,b1,b0⟩⟩⟩;exact h4 c u (Jah (a1 _ _ h) hs) (Sm _ _ (a1 _ _ h))
abbrev BaK:Stmt:=top 31
theorem Jfj:Jan ["thing","gap_name"] ["thing","gap_name"] (Jae BaK):=by bv_decide
def Jcs (K:W.Frag) (Ad:Adr):Sp:=fun vs H Q E=>∃ (x:Addr) (ls:List PD) (gs:List GD) (g:GD),vs=[.ref x, .str g.nm]/\TK K Ad H x ls gs/\(ls.map (·.nm)).Nodup/\ls.length<=12/\g∈gs/\(∀ u∈gs,u.nm=g.nm->u=g)/\∀ l (w:List Pr) H',Same H H'->H' l=some (.lst ((w.map (·.1)).map V.str))->Jbh ls g.st w g.en->(w.map (·.1)).Nodup->Q (.ref l) H'
theorem Jfa (F:FunD K "part_names" "part_names" BaK dV f fd) (T:Txt K mg Ad) (BdB:MCal P w K mg base 1 "way" (Jbd Ad) ["self","name"] (Jb1 K Ad)):FnOk P w K mg base (CX1 P w) 2 f fd ["thing","gap_name"] (Jcs K Ad):=by
 refine F.okn Jfj (by subst_eqs) (fun a0 A t s H vs Q E O h=>?_)
 obtain ⟨x,q,B,g,rfl,h⟩:=h;refine ⟨_,(Jai (Jaq (Jeg (own:=["name","forward"]) (cs:=[]) (cl:=[]) rfl (pi_U (BdB.m O ⋯ passF (pv 0) (Jaa (pv 1) Jad))) (fun _ _ _ _=>(JkI (K:=K) (n:=2) rfl rfl (Ja2 (Jap (i:=0) (show [("name" : Str),("forward" : Str)].Nodup by decide) rfl (Or.inl rfl) (hf:=Or.inr rfl)) (Ja2 (Jap (i:=1) (show [("name" : Str),("forward" : Str)].Nodup by decide) rfl (Or.inl rfl) (hf:=Or.inr rfl)) JcU)))) (fun _ _ _ _=>(pv 0)) rfl ⋯ rfl ⋯ hcl0 (hhas0 ⋯) hcs0))),?_⟩;obtain ⟨C,S,h8,hg,j,k⟩:=h;obtain ⟨R,d1,d2,d3,k1,k2,k3,M,_⟩:=id C;have sl:(1000:Nat)<=sizeLine:=by decide
 show tRet _ _ [some (.ref x),some (.str g.nm)] H;nofun;refine ⟨x,_,R,_,rfl,M,rfl,rfl,x,g.nm,q,B,rfl,C,fun z=>absurd (mem_map.mpr ⟨g,hg,rfl⟩) z,fun g' u hz l xs w J S1 W v d D a=>?_⟩;have e:=j g' u hz;subst e;have lx:=d.length;have lw:w.length<=12:=by
  have:=sub_len (w.map (·.1)) (q.map (·.nm)) a fun n hn=>JeQ (Jgw D) n hn;rw [length_map,length_map] at this;ac_nf
 nofun;refine ⟨l,rfl, .inl ⟨⟨xs,SqL.of v⟩,CompJ.list (xs:=xs) (fun i G c=>c=J/\G=((w.take i).map (·.1)).map V.str) ⟨rfl,rfl⟩ (fun i G c hi z=>⟨by rw [z.1];exact SqL.of v,by rw [z.2,length_map,length_map,length_take];ac_nf⟩) ?_ ?_⟩⟩
 ·rintro i y o c I ⟨rfl,rfl⟩;obtain ⟨pr,p,b,rfl,U⟩:=d.at_ I;simpa only [length_singleton,length_cons,length_nil,List.replicate,JaB,map_cons,map_nil,Option.join_some];refine ⟨b,_,rfl,SqT.of U,rfl,?_⟩;nofun;rw [take_succ,p];simp
 ·rintro o c ⟨rfl,rfl⟩;rw [take_of_length_le ∅];rename_i r Y N c X Z L;nofun;exact k r w X (S1.trans Z) L D a
abbrev Bas:Stmt:=inClass (top 32) 0
theorem Jem:Jan ["self","name","rest","weights"] ["self","name","rest","weights"] (Jae Bas):=by bv_decide
def JbR (K:W.Frag) (Ad:Adr):Sp:=fun vs H Q E=>∃ (x dx wd:Addr) (nm:Str) (vr:V) (ws:List (Str × Int)),vs=[.ref x, .str nm,vr, .ref wd]/\H x=some (.ins Ad.Lid dx [])/\H wd=some (.dK (wsK ws))/\∀ H',H' x=some (.ins Ad.Lid dx [("name", .str nm),("rest",vr),("weights", .ref wd),("load", .int (ws.map (·.2)).sum),("last_level", .ref Ad.ZERO)])->(∀ b,b≠x->H' b=H b)->Q .non H'
theorem Jd8 (F:FunD K "__init__" "Lid.__init__" Bas dV f fd) (T:Txt K mg Ad)  : FnOk P w K mg base (CX1 P w) 1 f fd ["self","name","rest","weights"] (JbR K Ad):=by
 refine F.okn Jem (by subst_eqs) (fun R A q s H W Q E X h=>?_)
 obtain ⟨x,c,e,g,j,i,rfl,h⟩:=h;refine ⟨_,(Jab (Ja5 (pv 0) (pv 1) rfl)
   (Jab (Ja5 (pv 0) (pv 2) rfl)
   (Jab (Ja5 (pv 0) (pv 3) rfl)
   (Jab (Ja5 (pv 0) (JkH rfl rfl rfl T.n_sum Jk5 (pv 3)) rfl)
   (Jai (Ja5 (pv 0) (JcT (v:=.ref _) rfl T.Bdl T.Bdm) rfl)))))),?_⟩
 obtain ⟨t,r,k⟩:=h;have d:=T.c_Lid Ad.Lid rfl;have n:e≠x:=fun z=>by rw [z,t] at r;cases r
 show tSeq _ _ _ [some (.ref x),some (.str g),some j,some (.ref e)] H;exfalso;refine ⟨x,_,c,_,rfl,t,d.cls,d.n1,by simp,?_⟩;generalize y:upd H x _=l;exfalso;have S:l x=some (.ins Ad.Lid c [("name", .str g)]):=by rw [<- y];exact Jak.trans rfl
 have V:∀ b,b≠x->l b=H b:=fun b a=>by rw [<- y,Jag a]
 exfalso;refine ⟨x,_,c,_,rfl,S,d.cls,d.n2,by simp,?_⟩;generalize I:upd l x _=o;exfalso;have L:o x=some (.ins Ad.Lid c [("name", .str g),("rest",j)]):=by rw [<- I];exact Jak.trans rfl
 have O:∀ b,b≠x->o b=H b:=fun b a=>by rw [<- I,Jag a];exact V b a
 exfalso;refine ⟨x,_,c,_,rfl,L,d.cls,d.n3,by simp,?_⟩;generalize D:upd o x _=m;exfalso;have U:m x=some (.ins Ad.Lid c [("name", .str g),("rest",j),("weights", .ref e)]):=by rw [<- D];exact Jak.trans rfl
 have C:∀ b,b≠x->m b=H b:=fun b a=>by rw [<- D,Jag a];exact O b a
 exfalso;refine ⟨e,wsK i,i.map (·.2),rfl,by rw [C e n];exact r,JjA i,?_⟩;exfalso;refine ⟨x,_,c,_,rfl,U,d.cls,d.n4,by simp,?_⟩;generalize G:upd m x _=p;exfalso;have M:p x=some (.ins Ad.Lid c [("name", .str g),("rest",j),("weights", .ref e),("load", .int (i.map (·.2)).sum)]):=by rw [<- G];exact Jak.trans rfl
 have J:∀ b,b≠x->p b=H b:=fun b a=>by rw [<- G,Jag a];exact C b a
 exfalso;refine ⟨x,_,c,_,rfl,M,d.cls,d.n5,by simp,?_⟩;generalize B:upd p x _=u;exfalso;have N:u x=some (.ins Ad.Lid c [("name", .str g),("rest",j),("weights", .ref e),("load", .int (i.map (·.2)).sum),("last_level", .ref Ad.ZERO)]):=by rw [<- B];exact Jak.trans rfl
 exact k u N fun b a=>by rw [<- B,Jag a];exact J b a
abbrev Bak:Stmt:=inClass (top 32) 1
theorem Jdv:Jan ["self"] ["self"] (Jae Bak):=by bv_decide
def Jby (K:W.Frag) (Ad:Adr):Sp:=fun vs H Q E=>∃ (q:Addr) (e:LidD),vs=[.ref q]/\LDV K Ad H e (.ref q)/\FB 3000 1000 e.rest/\1<=e.load/\Mth.Sz 64 e.load/\∀ p H',Same H H'->H' p=some (.tup [.int (divF e.rest (e.load,1)).1, .int (divF e.rest (e.load,1)).2])->Q (.ref p) H'
theorem Jdr (F:FunD K "full_level" "Lid.full_level" Bak dV f fd) (T:Txt K mg Ad) (BcZ:Cal P w K mg base 3 "over" ["one","other"] [] (Jfn K Ad)):FnOk P w K mg base (CX1 P w) 4 f fd ["self"] (Jby K Ad):=by
 refine F.okn Jdv (by subst_eqs) (fun x A d s H C Q E c h=>?_)
 obtain ⟨q,e,rfl,h⟩:=h;refine ⟨_,(Jai (Jaq (BcZ.ev c ⋯ rfl passF (Jaa (Jar (pv 0) rfl) (Jaa (JaG (Jaa (Jar (pv 0) rfl) (Jaa Jac Jad))) Jad)) (he:=by exact Jaf rfl)))),?_⟩;obtain ⟨⟨L,j,i,M,G,n,m,c,N,O⟩,b,J,y,k⟩:=h;cases n;have a:=T.c_Lid Ad.Lid rfl;show tRet _ _ [some (.ref q)] H;and_intros;refine ⟨q,_,j,_,i,rfl,m,a.cls,a.n2,rfl,?_⟩;refine ⟨q,_,j,_, .int e.load,rfl,m,a.cls,a.n4,rfl,?_⟩;and_intros;refine ⟨len2,?_⟩;rename_i p t D H I l B;and_intros;refine ⟨i, .ref p,_,_,e.load,1,rfl,c.same l,FrV.of B,b.s1.mono ⋯,b.s2.mono ⋯,y.mono ⋯, .lit ⋯ ⋯,b.b1,by decide,b.g1,by unfold Mth.g;simp,fun z=>absurd z ∅,fun _ o u v r=>?_⟩;exact k o u (l.trans v) r
abbrev BaL:Stmt:=inClass (top 32) 2
theorem Jdj:Jan ["self","part","level","weight"] ["self","part","level"] (Jae BaL):=by bv_decide
def Jck (K:W.Frag) (Ad:Adr):Sp:=fun vs H Q E=>∃ (q:Addr) (n:Str) (lv:V) (e:LidD) (L:Fr2),vs=[.ref q, .str n,lv]/\LDV K Ad H e (.ref q)/\FrV K H lv L.1 L.2/\FB 3000 1000 e.rest/\FB 3000 1000 L/\(∀ x∈e.ws,Mth.Sz 64 x.2)/\∀ H',(∀ b u,b≠q->H b=some u->H' b=some u)->LDV K Ad H' (e.settle n L) (.ref q)->(∀ d kv,H d=some (.dK kv)->LDV K Ad (cut d H) e (.ref q)->LDV K Ad (cut d H') (e.settle n L) (.ref q))->Q .non H'
theorem Je3 (F:FunD K "settle" "Lid.settle" BaL dV f fd) (T:Txt K mg Ad) (Bbe:Cal P w K mg base 3 "minus" ["one","other"] [] (Jdk K)) (Bbd:Cal P w K mg base 2 "times" ["one","other"] [] (Jdl K)):FnOk P w K mg base (CX1 P w) 4 f fd ["self","part","level"] (Jck K Ad):=by
 refine F.okn Jdj (by subst_eqs) (fun b0 A a2 s H vs Q E M h=>?_)
 obtain ⟨q,n,G,e,L,rfl,h⟩:=h;have hu:=M.units;refine ⟨_,(Jai (ps_if (Jek (Jg2 (hu1 hu) (pv 1) (Jar (pv 0) rfl)) (by with_unfolding_all rfl))
   (Jab (Jaj (i:=3) Jdj.nd rfl (Or.inl rfl) (JaQ (hu1 hu) (Jar (pv 0) rfl) (pv 1) (fun _ _=>rfl)))
   (Jab (Ja5 (pv 0) (Bbe.ev M ⋯ rfl passF (Jaa (Jar (pv 0) rfl) (Jaa (Bbd.ev M ⋯ rfl passF (Jaa (pv 2) (Jaa (JaG (Jaa (pv 3) (Jaa Jac Jad))) Jad)) (he:=by exact Jaf rfl)) Jad)) (he:=by exact Jaf rfl)) rfl)
   (Jab (Ja5 (pv 0) (pe_op Jil (Jar (pv 0) rfl) (pv 3)) rfl)
   (Jai (Ja5 (pv 0) (pv 2) rfl)))))
   Jay)),?_⟩
 clear hu;obtain ⟨hd,hl,fr,o,a5,k⟩:=h;obtain ⟨q',l,vr,vt,m,hv,v,M,ht,S⟩:=id hd;cases hv;have j:=T.c_Lid Ad.Lid rfl;have X:m≠q:=fun z=>by rw [z,v] at S;cases S
 have gw:=DGet.k (k:=Sum.inr n) S;rw [JgI] at gw;show tIfS _ _ _ _ [some (.ref q),some (.str n),some G,none] H;try simpa only [y4dy,y84y]
 refine ⟨q,_,l,_, .ref m,rfl,v,j.cls,j.n3,rfl,?_⟩;refine ⟨m,_,rfl,gw,?_⟩;cases hwt:wtOf e.ws n with
 | none=>
  rw [show ((none:Option Int).map V.int).isSome=false from rfl];try simpa only [y4dy,y84y]
  have Y:e.settle n L=e:=by unfold LidD.settle;rw [hwt]
  exact k H (fun b u _ h=>h) (by rw [Y];exact hd) (fun d kv _ h=>by rw [Y];exact h)
 | some w=>
  rw [hwt] at gw;have Y:e.settle n L={ e with rest:=subF e.rest (mulF L (w,1)),load:=e.load-w,last:=L }:=by unfold LidD.settle;rw [hwt]
  have sw:=a5 _ (JiY hwt);rw [show ((some w).map V.int).isSome=true from rfl];try simpa only [y4dy,y84y]
  refine ⟨q,_,l,_, .ref m,rfl,v,j.cls,j.n3,rfl,?_⟩;refine ⟨m, .int w,rfl,gw,?_⟩;try simpa only [y4dy,y84y]
  refine ⟨q,_,l,_,vr,rfl,v,j.cls,j.n2,rfl,?_⟩;try simpa only [y4dy,y84y]
  refine ⟨len2,?_⟩;rename_i p a7 b3 H H1 S1 e1;symm_saturate;refine ⟨G, .ref p,_,_,w,1,rfl,hl.same S1,FrV.of e1,o.s1.mono ⋯,o.s2.mono ⋯,sw.mono ⋯, .lit ⋯ ⋯,o.b1,by decide,o.g1,by unfold Mth.g;simp,fun p2 H2 S2 e2=>?_⟩;have U:=S1.trans S2;have ml:=Je2 (a:=L) (c:=(w,1)) o.b1 (Int.le_refl 1);have a4:Mth.Sz 4000 (mulF L (w,1)).1:=(Mth.Sz.top (by have:=o.b1;show L.2*1≠0;ac_nf) (o.s1.mul sw)).mono ⋯;have a3:Mth.Sz 4000 (mulF L (w,1)).2:=(Mth.Sz.bot (t:=L.1*w) (b:=L.2*1) (by have:=o.b1;ac_nf) (by rw [Int.mul_one];exact o.s2)).mono ⋯;have e2:H2 p2=some (.tup [.int (mulF L (w,1)).1, .int (mulF L (w,1)).2]):=e2;try simpa only [y4dy,y84y]
  refine ⟨vr, .ref p2,_,_,_,_,rfl,M.same U,FrV.of e2,fr.s1.mono ⋯,fr.s2.mono ⋯,a4,a3,fr.b1,ml.b1,fr.g1,ml.g1,fun O H3 S3 e3=>?_⟩;have x:=U.trans S3;have I:=x _ _ v;try simpa only [y4dy,y84y]
  refine ⟨q,_,l,_,rfl,I,j.cls,j.n2,by simp,?_⟩;generalize u4:upd H3 q _=J;symm_saturate;have e4:J q=some (.ins Ad.Lid l [("name", .str e.nm),("rest", .ref O),("weights", .ref m),("load", .int e.load),("last_level",vt)]):=by rw [<- u4];exact Jak.trans rfl
  have o4:∀ b u,b≠q->H b=some u->J b=some u:=fun b u N h=>by rw [<- u4,Jag N];exact x _ _ h
  have T4:SameT H3 J:=SameT.put u4 I rfl;try simpa only [y4dy,y84y]
  refine ⟨q,_,l,_, .int e.load,rfl,e4,j.cls,j.n4,rfl,?_⟩;try simpa only [y4dy,y84y]
  refine ⟨q,_,l,_,rfl,e4,j.cls,j.n4,by simp,?_⟩;generalize u5:upd J q _=Z;symm_saturate;have e5:Z q=some (.ins Ad.Lid l [("name", .str e.nm),("rest", .ref O),("weights", .ref m),("load", .int (e.load-w)),("last_level",vt)]):=by rw [<- u5];exact Jak.trans rfl
  have T5:SameT J Z:=SameT.put u5 e4 rfl;try simpa only [y4dy,y84y]
  refine ⟨q,_,l,_,rfl,e5,j.cls,j.n5,by simp,?_⟩;generalize u6:upd Z q _=D;symm_saturate;have e6:D q=some (.ins Ad.Lid l [("name", .str e.nm),("rest", .ref O),("weights", .ref m),("load", .int (e.load-w)),("last_level",G)]):=by rw [<- u6];exact Jak.trans rfl
  have T6:SameT Z D:=SameT.put u6 e5 rfl;have W:=T4.trans (T5.trans T6);have o6:∀ b u,b≠q->H b=some u->D b=some u:=fun b u N h=>by rw [<- u6,Jag N, <- u5,Jag N];exact o4 b u N h
  have f3:=FrV.of (K:=K) (W _ _ rfl e3);have fl:=(hl.same x).sameT W;refine k D o6 ?_ fun d a9 R a1=>?_
  ·rw [Y];exact ⟨q,l, .ref O,G,m,rfl,e6,f3,fl,o6 _ _ X S⟩
  ·obtain ⟨q',a8,b2,b4,a6,B,C,_,_,r⟩:=a1;have B:q=q':=by injection B
   subst B;have y:q≠d:=fun z=>by rw [z,R] at v;cases v
   rw [JbJ y,v] at C;simp only [Option.some.injEq,HO.ins.injEq,List.cons.injEq,Prod.mk.injEq,V.ref.injEq,true_and,and_true] at C;have ew:m=a6:=C.2.2.1;subst ew;have a0:m≠d:=fun z=>by
    rw [z] at r;unfold cut at r;rw [if_pos rfl] at r;cases r
   have Tc:SameT D (cut d D):=SameT.cutO (o6 _ _ y.symm R) rfl;rw [Y];exact ⟨q,l, .ref O,G,m,rfl,by rw [JbJ y];exact e6,f3.sameT Tc,fl.sameT Tc,by rw [JbJ a0];exact o6 _ _ X S⟩
abbrev Bag:Stmt:=inClass (top 32) 3
theorem Jdi:Jan ["self","part","level"] ["self","part","level"] (Jae Bag):=by bv_decide
def Jbq (K:W.Frag) (Ad:Adr):Sp:=fun vs H Q E=>∃ (q:Addr) (n:Str) (lv:V) (e:LidD) (L:Fr2),vs=[.ref q, .str n,lv]/\LDV K Ad H e (.ref q)/\FrV K H lv L.1 L.2/\Q (.bl ((wtOf e.ws n).isSome&&(decide (e.rest=(0,1))&&decide (e.last=L)))) H
theorem Jdb (F:FunD K "has_stopped" "Lid.has_stopped" Bag dV f fd) (T:Txt K mg Ad)  : FnOk P w K mg base (CX1 P w) 1 f fd ["self","part","level"] (Jbq K Ad):=by
 refine F.okn Jdi (by subst_eqs) (fun u A g s H z Q E c h=>?_)
 obtain ⟨q,n,l,e,L,rfl,h⟩:=h;have b:=c.units;refine ⟨_,(Jai (Jaq (JcA (Jlw (Jg2 (hu1 b) (pv 1) (Jar (pv 0) rfl)) (by with_unfolding_all rfl)) (JcA (Jbv (Jcx b) (Jar (pv 0) rfl) (JcT (v:=.ref _) rfl T.Bdl T.Bdm) (JaC _)) (JdC (Jbv (Jcx b) (Jar (pv 0) rfl) (pv 2) (JaC _))))))),?_⟩;clear b;obtain ⟨⟨D,d,p,t,j,o,i,c,B,C⟩,y,k⟩:=h;cases o;have a:=T.c_Lid Ad.Lid rfl;have m:=DGet.k (k:=Sum.inr n) C;rw [JgI] at m;have x:decide (e.rest=(0,1))=(decide (e.rest.1=0)&&decide (e.rest.2=1)):=by
  rw [<- Bool.decide_and];exact decide_eq_decide.mpr Prod.ext_iff
 have r:decide (e.last=L)=(decide (e.last.1=L.1)&&decide (e.last.2=L.2)):=by
  rw [<- Bool.decide_and];exact decide_eq_decide.mpr Prod.ext_iff
 rw [x,r] at k;show tRet _ _ [some (.ref q),some (.str n),some l] H;and_intros;refine ⟨q,_,d,_, .ref j,rfl,i,a.cls,a.n3,rfl,?_⟩;refine ⟨j,_,rfl,m,?_⟩;rw [show ((wtOf e.ws n).map V.int).isSome=(wtOf e.ws n).isSome by cases wtOf e.ws n <;> rfl];cases c1:(wtOf e.ws n).isSome with
 | false=>
  rw [c1] at k;and_intros;exact k
 | true=>
  rw [c1] at k;and_intros;refine ⟨q,_,d,_,p,rfl,i,a.cls,a.n2,rfl,?_⟩;refine eqF c ⟨Ad.ZERO,rfl,T.Bdn _⟩ ?_;cases c2:(decide (e.rest.1=0)&&decide (e.rest.2=1)) with
  | false=>
   rw [c2] at k;and_intros;exact k
  | true=>
   rw [c2] at k;and_intros;refine ⟨q,_,d,_,t,rfl,i,a.cls,a.n5,rfl,?_⟩;refine eqF B y ?_;exact k
abbrev Bbu:Stmt:=top 33
theorem Jbx:Jan ["thing","scale","weights","part","lids","gap","room","on_way"] ["thing","scale"] (Jae Bbu):=by bv_decide
def Jdx (K:W.Frag) (Ad:Adr):Sp:=fun vs H Q E=>∃ (x sc:Addr) (ls:List PD) (es:List (GD × List Str)) (pl:Str->Fr2) (b:Int) (fs:List Int),vs=[.ref x, .ref sc]/\TK K Ad H x ls (es.map (·.1))/\SCK Ad H sc b fs/\SHC ls es pl/\(∀ e∈es,0<=vl (roomF pl e.1))/\∀ ll xs lds H',Same H H'->H ll=none->H' ll=some (.lst xs)->All2 (LDV K Ad H') lds xs->xs.Nodup->(∀ v∈xs, ∃ q,v=.ref q/\H q=none)->lds.length=es.length->(∀ (i:Nat) e l,es[i]?=some e->lds[i]?=some l->LSt b ls pl e l)->Q (.ref ll) H'
theorem Jhr (F:FunD K "lids_of" "lids_of" Bbu dV f fd) (T:Txt K mg Ad) (BaX:MCal P w K mg base 2 "parts" (Jbd Ad) ["self"] (Ja9 K Ad)) (BcY:MCal P w K mg base 2 "gaps" (Jbd Ad) ["self"] (JbM K Ad)) (BdG:MCal P w K mg base 5 "room" (Jbd Ad) ["self","name"] (Jcm K Ad)) (BaF:Cal P w K mg base 1 "under" ["one","other"] [] (Jcu K)) (BbT:Cal P w K mg base 2 "part_names" ["thing","gap_name"] [] (Jcs K Ad)) (k_Lid:KCal P w K mg base 1 "Lid" Ad.Lid ["self","name","rest","weights"] (JbR K Ad)) (Bb5:MCal P w K mg base 2 "lifted" (Jdm Ad) ["self","number"] (Jbr K Ad)):FnOk P w K mg base (CX1 P w) 7 f fd ["thing","scale"] (Jdx K Ad):=by
 refine F.okx Jbx (fun vs H Q E h=>?_) (fun i8 A g3 s H vs Q E hr h=>?_)
 ·obtain ⟨x,sc,Y,es,pl,b,fs,rfl,_⟩:=h;rfl
 obtain ⟨x,sc,Y,es,pl,b,fs,rfl,h⟩:=h;have hu:=hr.units;refine ⟨_,(Jab (Jaj (i:=2) Jbx.nd rfl (Or.inr rfl) Jbj)
   (Jab (Ja0 PassesOwn.leaving rfl (pi_U (BaX.m0 hr ⋯ pass1 (pv 0))) (Jap (i:=3) Jbx.nd rfl (Or.inl rfl))
   (Jai (JbG (hu1 hu) (pv 2) (pe_ix ix_U (pv 3) Jac (fun _ _=>rfl)) (pe_ix ix_U (pv 3) Jac (fun _ _=>rfl)) rfl)))
   (Jab (Jaj (i:=4) Jbx.nd rfl (Or.inl rfl) (JaX Jad))
   (Jab (Ja0 PassesOwn.leaving rfl (pi_U (BcY.m0 hr ⋯ pass1 (pv 0))) (Jap (i:=5) Jbx.nd rfl (Or.inl rfl))
   (Jab (Jaj (i:=6) Jbx.nd rfl (Or.inl rfl) (BdG.m hr ⋯ pass1 (pv 0) (Jaa (pe_ix ix_U (pv 5) Jac (fun _ _=>rfl)) Jad)))
   (Jab (ps_if (Jbc (BaF.ev hr ⋯ rfl pass1 (Jaa (pv 6) (Jaa (JcT (v:=.ref _) rfl T.Bdl T.Bdm) Jad)) (he:=by exact Jaf rfl)))
   (Jai ps_no)
   Jay)
   (Jab (Jaj (i:=7) Jbx.nd rfl (Or.inl rfl) (JcB (Jhd rfl) rfl T.n_dict Jj6 (Jaa (Jjj (own:=["name"]) (cs:=[(2,"weights")]) rfl (pi_U (BbT.ev hr ⋯ rfl pass1 (Jaa (pv 0) (Jaa (pe_ix ix_U (pv 5) Jac (fun _ _=>rfl)) Jad)) (he:=by exact Jaf rfl))) (fun _ _ _ _=>(Jap (i:=0) (show [("name" : Str),("weights" : Str)].Nodup by decide) rfl (Or.inl rfl))) (fun _ _ _ _=>(JaG (Jaa (pv 0) (Jaa (JaQ (hu1 hu) (pv 1) (pv 0) (fun _ _=>rfl)) Jad)))) (JdW rfl) ⋯ rfl ⋯
   (hcs1 rfl rfl rfl)) Jad)))
   (Jai (Ja7 (pe_bm PySem.F.plainAttrs_list PySem.F.slot_list_append PySem.F.type_list_append JaZ (pv 4) (Jaa (k_Lid.ev hr ⋯ rfl pass1 (Jaa (pe_ix ix_U (pv 5) Jac (fun _ _=>rfl)) (Jaa (Bb5.m hr ⋯ pass1 (pv 1) (Jaa (pv 6) Jad)) (Jaa (pv 7) Jad)))) Jad) (hs:=by exact Jaf rfl))))))))
   (Jai (Jaq (pv 4))))))),?_⟩
 clear hu;obtain ⟨ht,c5,M,g4,k⟩:=h;obtain ⟨dx,d1,d2,d3,k1,k2,k3,hx,_⟩:=id ht;obtain ⟨h9,fl,e3,_,i6,sb,_⟩:=id c5;have sl:(1000:Nat)<=sizeLine:=by decide
 have j5:=M.l12;have l7:=M.l7;show tSeq _ _ _ [some (.ref x),some (.ref sc),none,none,none,none,none,none] H;nofun;rename_i wd d4 i3 H H1 S1 e1;nofun;refine ⟨x,_,dx,_,rfl,S1 _ _ hx,rfl,rfl,x,Y,_,rfl,ht.same S1,by ac_nf,fun l ys H2 S2 c8 e2 hY=>?_⟩;have lY:=hY.length;have f7:l≠wd:=fun z=>by rw [z,e1] at c8;cases c8
 have g5:=S1.trans S2;nofun;refine ⟨l,rfl,ForA.byLN (xs:=ys) (SqL.of e2) (fun i σ N=>i<=ys.length/\∃ (v3:Option V) (kv:List (Key × V)),σ=[some (.ref x),some (.ref sc),some (.ref wd),v3,none,none,none,none]/\(∀ c u,c≠wd->H2 c=some u->N c=some u)/\SameT H2 N/\N wd=some (.dK kv)/\BG (·.nm) (fun p v=>v=.int p.wt) (Y.take i) kv) ⟨Nat.zero_le _,none,[],rfl,fun _ _ _ h=>h,SameT.refl _,S2 _ _ e1,⟨rfl,rfl⟩⟩ (fun i σ N q=>by obtain ⟨_,_,_,_,q,_⟩:=q;exact SqL.of (q _ _ f7 e2)) ?_ ?_⟩
 ·rintro i y σ H3 S ⟨hi,v3,kv,rfl,ho,hT,a2,hB⟩ N0 c3;have li:=(List.getElem?_eq_some_iff.mp S).1;obtain ⟨p,hp,b_,vz,vm,rfl,hb,_,_⟩:=hY.at_ S;have lB:=hB.length;rw [length_take] at lB;have f5:=hb.sameT hT;nofun;refine ixT (i:=5) f5 rfl ?_;nofun;refine ixT (i:=0) f5 rfl ?_;refine ⟨wd,_,rfl,DPut.k (k:=Sum.inr p.nm) a2 ∅,?_⟩;generalize u4:upd H3 wd _=H4;nofun;have e4:=putE u4;have T4:SameT H3 H4:=SameT.put u4 a2 rfl;refine c3 _ _ ⟨li,_,_,rfl,fun c u W h=>by rw [<- u4,Jag W];exact ho c u W h,hT.trans T4,e4,?_⟩;rw [take_succ,hp];exact hB.new (a:=p) (Jh9 M.nd hp) rfl
 ·rintro σ H3 ⟨hi,v3,kv,rfl,ho,hT,a2,hB⟩;rw [take_of_length_le ∅] at hB;have c6:Same H H3:=fun c u h=>ho c u (Jah h d4) (g5 _ _ h);nofun;refine ⟨len0,?_⟩;rename_i C X i7 H3 H4 S4 e4;nofun;have c0:=c6.trans S4;have a0:H C=none:=Jb9 c6 X;refine ⟨x,_,dx,_,rfl,c0 _ _ hx,rfl,rfl,x,Y,_,rfl,ht.same c0,by rw [length_map];ac_nf,fun m zs H5 S5 d6 e5 hZ=>?_⟩;have lZ:=hZ.length;rw [length_map] at lZ;have h8:m≠C:=fun z=>by rw [z,e4] at d6;cases d6
  have d9:=c0.trans S5;have e6:=S5 _ _ (S4 _ _ a2);nofun;refine ⟨m,rfl,ForA.byLN (xs:=zs) (SqL.of e5) (fun i σ N=>i<=zs.length/\∃ (v5 v6 v7:Option V) (xs:List V) (J:List LidD),σ=[some (.ref x),some (.ref sc),some (.ref wd),v3,some (.ref C),v5,v6,v7]/\(∀ c u,c≠C->H5 c=some u->N c=some u)/\N C=some (.lst xs)/\All2 (LDV K Ad (cut C N)) J xs/\xs.Nodup/\(∀ v∈xs, ∃ q,v=.ref q/\H q=none/\N q≠none)/\J.length=i/\∀ (j:Nat) e l,es[j]?=some e->J[j]?=some l->LSt b Y pl e l) ⟨Nat.zero_le _,none,none,none,[],[],rfl,fun _ _ _ h=>h,S5 _ _ e4,rfl, .nil,(fun v hv=>by cases hv),rfl,fun j e l _ h=>by simp at h⟩ (fun i σ N q=>by obtain ⟨_,_,_,_,_,_,_,q,_⟩:=q;exact SqL.of (q _ _ h8 e5)) ?_ ?_⟩
  ·rintro i y σ H6 S ⟨hi,v5,v6,v7,xs,J,rfl,R,ex,hX,b7,a6,c4,b4⟩ N0 c3;have li:=(List.getElem?_eq_some_iff.mp S).1;have lX:=hX.length;obtain ⟨g,a5,a_,j2,j4,rfl,hb,_,_⟩:=hZ.at_ S;obtain ⟨e,d5,rfl⟩:∃ e,es[i]?=some e/\e.1=g:=by
    rw [List.getElem?_map] at a5;exact Option.map_eq_some_iff.mp a5
   have he:=List.mem_of_getElem? d5;have gm:e.1∈es.map (·.1):=mem_map.mpr ⟨e,he,rfl⟩;have Z:Same H H6:=fun c u h=>R c u (Jah h a0) (d9 _ _ h);have h4:SameT H5 H6:=fun c u t h=>R c u (fun z=>by have:=S5 _ _ e4;rw [<- z,h] at this;cases this;simp [isTF] at t) h;have f8:wd≠C:=fun z=>by rw [<- z,a2] at X;cases X
   have e0:=R _ _ f8 e6;have b9:=hb.sameT h4;nofun;refine ⟨x,_,dx,_,rfl,Z _ _ hx,rfl,rfl,?_⟩;refine ixT (i:=0) b9 rfl ?_;refine ⟨x,e.1.nm,Y,es.map (·.1),rfl,ht.same Z,fun z=>absurd (mem_map.mpr ⟨e.1,gm,rfl⟩) z,fun g' a5 hz=>?_⟩;have g8:=M.gn e he g' a5 hz;subst g8;refine ⟨pl,M.gn e he,fun p hp q hq h=>Jgx M.nd hp hq h,M.pok,M.plb,M.pls,M.tok e he,fun v H7 S7 fv=>?_⟩;have rb:=M.rb e he;have l0:=Jeu (a:=roomF pl e.1) (c:=(0,1)) rb.b1 ⋯;rw [Jft] at l0;unfold lessF at l0;nofun;refine ⟨v, .ref Ad.ZERO,_,_,0,1,rfl,fv,⟨Ad.ZERO,rfl,T.Bdn _⟩,rb.s1.mono ⋯,rb.s2.mono ⋯, .lit ⋯ ⋯, .lit ⋯ ⋯,?_⟩;nofun;rw [if_neg (fun z=>absurd (l0.mp z) (Rat.not_lt.mpr (g4 e he)))];nofun;have h7:=Z.trans S7;refine ixT (i:=0) (b9.same S7) rfl ?_;refine ⟨x,Y,es.map (·.1),e.1,rfl,ht.same h7,M.nd,by ac_nf,gm,M.gn e he,fun nl w H8 S8 e8 hw b8=>?_⟩;have b6:=S7.trans S8;have f2:=b6 _ _ e0;have d8:∀ n∈w.map (·.1),n∈Y.map (·.nm):=fun n hn=>JeQ (Jgw hw) n hn;have lw:w.length<=12:=by
    have:=sub_len (w.map (·.1)) (Y.map (·.nm)) b8 fun n hn=>d8 n hn;rw [length_map,length_map] at this;ac_nf
   nofun;refine ⟨nl,rfl, .inl ⟨⟨_,SqL.of e8⟩,CompJ.list (xs:=(w.map (·.1)).map V.str) (fun j qs N=>Same H8 N/\∃ (as:List Addr) (D:List (Str × Int)),qs=as.map V.ref/\as.length=D.length/\(∀ (i:Nat) (a:Addr) (p:Str × Int),as[i]?=some a->D[i]?=some p->N a=some (.tup [.str p.1, .int p.2]))/\D.map (·.1)=(w.map (·.1)).take j/\∀ y∈D, ∃ p∈Y,p.nm=y.1/\p.wt=y.2) ⟨Same.refl _,[],[],rfl,rfl,(fun i a p h=>by simp at h),rfl,(fun y S=>by cases S)⟩ (fun j qs N hj z=>by
    obtain ⟨z1,as,D,rfl,B,_,d,_⟩:=z;have:=congrArg List.length d;rw [length_map,length_take,length_map] at this;exact ⟨SqL.of (z1 _ _ e8),by rw [length_map];ac_nf⟩) ?_ ?_⟩⟩
   ·rintro j y' qs H9 O ⟨S9,as,D,rfl,c1,b2,o,b3⟩;have lj:=(List.getElem?_eq_some_iff.mp O).1;rw [length_map] at lj;rw [List.getElem?_map,List.getElem?_eq_getElem lj] at O;obtain ⟨n,hn⟩:∃ n,n=(w.map (·.1))[j]:=⟨_,rfl⟩;rw [<- hn] at O;have O:y'=.str n:=(Option.some.inj O).symm;subst O;have g1:n∈Y.map (·.nm):=d8 n (by rw [hn];exact List.getElem_mem lj);obtain ⟨p,v',g2,f6,hv,i0⟩:=hB.some (z:=n) g1;simpa only [length_singleton,length_cons,length_nil,List.replicate,JaB,map_cons,map_nil,Option.join_some];refine ⟨wd,_,rfl,by rw [<- hv];exact DGet.k (k:=Sum.inr n) (S9 _ _ f2),?_⟩;rw [i0];refine ⟨by show 2<=sizeLine;ac_nf,?_⟩;rename_i t j1 j0 H9 f4 U c2;nofun;refine ⟨S9.trans U,as++[t],D++[(n,p.wt)],by simp,by simp [c1],fun i' a' p' B d=>?_,?_,fun y S=>?_⟩
    ·rcases Jbo B with B | ⟨q1,q2⟩
     ·rcases Jbo d with d | ⟨q3,q4⟩
      ·exact U _ _ (b2 i' a' p' B d)
      ·have:=(List.getElem?_eq_some_iff.mp B).1;ac_nf
     ·rcases Jbo d with d | ⟨q3,q4⟩
      ·have:=(List.getElem?_eq_some_iff.mp d).1;ac_nf
      ·rw [q2,q4];exact c2
    ·rw [map_append,o,take_succ,List.getElem?_eq_getElem lj, <- hn];rfl
    ·rcases mem_append.mp S with S | S
     ·exact b3 y S
     ·rw [mem_singleton.mp S];exact ⟨p,g2,f6,rfl⟩
   ·rintro qs H9 ⟨S9,as,D,rfl,c1,b2,o,b3⟩;rw [length_map,take_of_length_le (Nat.le_refl _)] at o;have j3:D.length<=12:=by have:=congrArg List.length o;rw [length_map,length_map] at this;ac_nf
    have d0:(D.map (·.1)).Nodup:=by rw [o];exact b8
    rename_i ql i2 i4 H9 f4 U c2;nofun;refine ⟨ql,as,D.map fun p=>(p.1,V.int p.2),rfl,c2,by rw [length_map];exact c1,fun i' a' p' B d=>?_,?_⟩
    ·rw [List.getElem?_map] at d;obtain ⟨h5,h3,rfl⟩:=Option.map_eq_some_iff.mp d;exact U _ _ (b2 i' a' h5 B h3)
    have h6:JdB (D.map fun p=>(p.1,V.int p.2))=wsK D:=by
     rw [Jin (by rw [map_map];exact d0),map_map];rfl
    rw [h6];rename_i od b0 i5 f4 i9 h0 e9;nofun;have a8:=S9.trans (U.trans h0);have r:=b6.trans a8;have c9:=Z.trans r;have c7:=r _ _ ex;refine ⟨.inl ⟨rfl,_,SqL.of c7⟩,?_⟩;refine ixT (i:=0) (b9.same r) rfl ?_;refine ⟨sc,_,h9,_,rfl,c9 _ _ e3,rfl,rfl,?_⟩;refine ⟨sc,v,roomF pl e.1,b,fs,rfl,c5.same c9,FrV.same (S8.trans a8) fv,rb.mono ⋯ ⋯,fun pr t b5 a4 f9 hL=>?_⟩;nofun;intro q dq hq g7 i1;have d7:Same b5 (upd (upd b5 dq (.own q)) q (.ins Ad.Lid dq [])):=fun b u z=>by rw [Jag (Jah z hq),Jag (Jah z g7)];exact z
    refine ⟨q,dq,od,e.1.nm, .ref pr,D,rfl,Jak,d7 _ _ (a4 _ _ e9),fun a3 f0 g0=>⟨rfl,?_⟩⟩;have G:Same b5 a3:=fun b u z=>by rw [g0 b (Jah z hq)];exact d7 _ _ z
    have L:=r.trans (a4.trans G);have a9:=L _ _ ex;have a7:H6 q=none:=Jb9 (r.trans a4) hq;refine ⟨C,xs,_,rfl,rfl,a9,by ac_nf,?_⟩;generalize a1:upd a3 C _=f1;nofun;have f3:=putE a1;have ec:cut C f1=cut C a3:=by rw [<- a1];exact Jgb
    have e7:q≠C:=fun z=>by rw [z,ex] at a7;cases a7
    have g6:od≠C:=fun z=>by rw [z,(b6.trans (S9.trans U)) _ _ ex] at b0;cases b0
    refine c3 _ _ ⟨li,_,_,_,xs++[.ref q],J++[⟨e.1.nm,t,D,(D.map (·.2)).sum,(0,1)⟩],rfl,fun c u W h=>by rw [<- a1,Jag W];exact L _ _ (R c u W h),f3,?_,?_,fun v' I=>?_,by simp [c4],fun j e' l' B d=>?_⟩
    ·rw [ec];refine (hX.mono (P':=LDV K Ad (cut C a3)) fun _ _ z=>z.same L.cut).append (.one ⟨q,dq, .ref pr, .ref Ad.ZERO,od,rfl,?_,?_,⟨Ad.ZERO,rfl,T.Bdn _⟩,?_⟩)
     ·rw [JbJ e7];exact f0
     ·exact (FrV.of (G _ _ f9)).cut a9
     ·rw [JbJ g6];exact G _ _ (a4 _ _ e9)
    ·refine nodup_append.mpr ⟨b7,by simp,fun u hu v' I z=>?_⟩;rw [mem_singleton.mp I] at z;obtain ⟨q',B,_,d⟩:=a6 u hu;rw [B] at z;cases z;exact d a7
    ·have g9:∀ c,H6 c≠none->f1 c≠none:=fun c h=>by
      by_cases cc:c=C
      ·rw [cc,f3];intro y;cases y
      ·cases hh:H6 c with
       | none=>exact absurd hh h
       | some u=>rw [<- a1,Jag cc,L _ _ hh];intro y;cases y
     rcases mem_append.mp I with I | I
     ·obtain ⟨q',B,d,h3⟩:=a6 v' I;exact ⟨q',B,d,g9 q' h3⟩
     ·rw [mem_singleton.mp I];exact ⟨q,rfl,Jb9 Z a7,by rw [<- a1,Jag e7,f0];intro y;cases y⟩
    ·rcases Jbo d with d | ⟨q1,q2⟩
     ·exact b4 j e' l' B d
     ·rw [q1,c4,d5] at B;cases B;rw [q2];exact ⟨rfl,hL.vl rb.b1,(hL.fb rb sb).mono ⋯ ⋯,by rw [o];exact (M.way e he w hw b8).symm,d0,b3,rfl,rfl⟩
  ·rintro σ H6 ⟨hi,v5,v6,v7,xs,J,rfl,R,ex,hX,b7,a6,c4,b4⟩;nofun;exact k C xs J H6 (fun c u h=>R c u (Jah h a0) (d9 _ _ h)) a0 ex (hX.mono fun _ _ z=>z.same Jc5) b7 (fun v hv=>by obtain ⟨q,B,d,_⟩:=a6 v hv;exact ⟨q,B,d⟩) ∅ b4
abbrev BaC:Stmt:=top 34
theorem Jb4:Jan ["thing","scale","told","part"] ["thing","scale"] (Jae BaC):=by bv_decide
def Jb7 (K:W.Frag) (Ad:Adr):Sp:=fun vs H Q E=>∃ (x sc:Addr) (ls:List PD) (gs:List GD) (b:Int) (fs:List Int),vs=[.ref x, .ref sc]/\TK K Ad H x ls gs/\SCK Ad H sc b fs/\ls.length<=12/\(ls.map (·.nm)).Nodup/\(∀ p∈ls,FB 200 12 p.mo/\1<=p.wt/\Mth.Sz 21 p.wt)/\∀ md kv ms H',Same H H'->H md=none->H' md=some (.dK kv)->BG (·.1) (NFV K H') ms kv->ms.length=ls.length->(∀ (i:Nat) p m,ls[i]?=some p->ms[i]?=some m->MSt b p m)->Q (.ref md) H'
theorem JeA (F:FunD K "most_levels" "most_levels" BaC dV f fd) (T:Txt K mg Ad) (BaX:MCal P w K mg base 2 "parts" (Jbd Ad) ["self"] (Ja9 K Ad)) (Bb5:MCal P w K mg base 2 "lifted" (Jdm Ad) ["self","number"] (Jbr K Ad)) (BcZ:Cal P w K mg base 3 "over" ["one","other"] [] (Jfn K Ad)):FnOk P w K mg base (CX1 P w) 4 f fd ["thing","scale"] (Jb7 K Ad):=by
 refine F.okn Jb4 (by subst_eqs) (fun b0 A a0 s H vs Q E Z h=>?_)
 obtain ⟨x,W,ls,gs,b,fs,rfl,h⟩:=h;have hu:=Z.units;refine ⟨_,(Jab (Jaj (i:=2) Jb4.nd rfl (Or.inl rfl) Jbj)
   (Jab (Ja0 PassesOwn.never rfl (pi_U (BaX.m0 Z ⋯ passF (pv 0))) (Jap (i:=3) Jb4.nd rfl (Or.inl rfl))
   (Jai (JbG (hu1 hu) (pv 2) (pe_ix ix_U (pv 3) Jac (fun _ _=>rfl)) (BcZ.ev Z ⋯ rfl passF (Jaa (Bb5.m Z ⋯ passF (pv 1) (Jaa (pe_ix ix_U (pv 3) Jac (fun _ _=>rfl)) Jad)) (Jaa (JaG (Jaa (pe_ix ix_U (pv 3) Jac (fun _ _=>rfl)) (Jaa Jac Jad))) Jad)) (he:=by exact Jaf rfl)) rfl)))
   (Jai (Jaq (pv 2))))),?_⟩
 clear hu;obtain ⟨ht,G,b2,a6,a2,k⟩:=h;obtain ⟨dx,d1,d2,d3,k1,k2,k3,hx,_⟩:=id ht;obtain ⟨a4,fl,S,_,U,sb,_⟩:=id G;have sl:(1000:Nat)<=sizeLine:=by decide
 have b1:=U.b1;show tSeq _ _ _ [some (.ref x),some (.ref W),none,none] H;nofun;rename_i B n a9 H H1 S1 e1;nofun;refine ⟨x,_,dx,_,rfl,S1 _ _ hx,rfl,rfl,x,ls,_,rfl,ht.same S1,by ac_nf,fun l ys H2 S2 L e2 hY=>?_⟩;have lY:=hY.length;have a1:l≠B:=fun z=>by rw [z,e1] at L;cases L
 have R:=S1.trans S2;nofun;refine ⟨l,rfl,ForA.byLN (xs:=ys) (SqL.of e2) (fun i σ N=>i<=ys.length/\∃ (v3:Option V) (O:List (Key × V)) (r:List (Str × Fr2)),σ=[some (.ref x),some (.ref W),some (.ref B),v3]/\(∀ c u,c≠B->H2 c=some u->N c=some u)/\SameT H2 N/\N B=some (.dK O)/\BG (·.1) (NFV K N) r O/\r.map (·.1)=(ls.take i).map (·.nm)/\∀ (j:Nat) p m,ls[j]?=some p->r[j]?=some m->MSt b p m) ⟨Nat.zero_le _,none,[],[],rfl,fun _ _ _ h=>h,SameT.refl _,S2 _ _ e1,⟨rfl,rfl⟩,rfl,fun j p m _ h=>by simp at h⟩ (fun i σ N q=>by obtain ⟨_,_,_,_,_,q,_⟩:=q;exact SqL.of (q _ _ a1 e2)) ?_ ?_⟩
 ·rintro i y σ H3 hy ⟨hi,v3,O,r,rfl,X,hT,v,Y,d,C⟩ N0 a5;have li:=(List.getElem?_eq_some_iff.mp hy).1;obtain ⟨p,hp,b_,vz,vm,rfl,hb,_,hm⟩:=hY.at_ hy;obtain ⟨mb,w1,ws⟩:=a2 p (List.mem_of_getElem? hp);have lB:=Y.length;have a3:r.length=i:=by have:=congrArg List.length d;rw [length_map,length_map,length_take] at this;ac_nf
  have D:=hb.sameT hT;have I:Same H H3:=fun c u h=>X c u (Jah h n) (R _ _ h);nofun;refine ⟨W,_,a4,_,rfl,I _ _ S,rfl,rfl,?_⟩;refine ixT (i:=4) D rfl ?_;refine ⟨W,vm,p.mo,b,fs,rfl,G.same I,hm.sameT hT,mb.mono ⋯ ⋯,fun pr t H4 S4 e4 hL=>?_⟩;nofun;refine ixT (i:=5) (D.same S4) rfl ?_;nofun;refine ⟨len2,?_⟩;rename_i wp a8 a7 H4 H5 S5 e5;nofun;have o:=hL.fb mb sb;refine ⟨.ref pr, .ref wp,_,_,p.wt,1,rfl,FrV.of (S5 _ _ e4),FrV.of e5,o.s1.mono ⋯,o.s2.mono ⋯,ws.mono ⋯, .lit ⋯ ⋯,o.b1,by decide,o.g1,by unfold Mth.g;simp,fun z=>absurd z ∅,fun _ p2 H6 S6 e6=>?_⟩;have e6:H6 p2=some (.tup [.int (divF t (p.wt,1)).1, .int (divF t (p.wt,1)).2]):=e6;have e:=S4.trans (S5.trans S6);nofun;refine ixT (i:=0) (D.same e) rfl ?_;refine ⟨B,_,rfl,DPut.k (k:=Sum.inr p.nm) (e _ _ v) ∅,?_⟩;generalize u7:upd H6 B _=H7;nofun;have e7:=putE u7;have T7:SameT H6 H7:=SameT.put u7 (e _ _ v) rfl;have M:SameT H3 H7:=e.t.trans T7;have nn:p.nm∉r.map (·.1):=by rw [d];exact Jh9 a6 hp
  refine a5 _ _ ⟨li,_,_,r++[(p.nm,divF t (p.wt,1))],rfl,fun c u J h=>by rw [<- u7,Jag J];exact e _ _ (X c u J h),hT.trans M,e7,?_,?_,fun j p' m' h1 h2=>?_⟩
  ·exact (Y.mono (P':=NFV K H7) fun _ _ z=>z.sameT M).new (a:=(p.nm,divF t (p.wt,1))) nn (FrV.of (T7 _ _ rfl e6))
  ·rw [map_append,d,take_succ,hp,map_append];rfl
  ·rcases Jbo h2 with h2 | ⟨q1,q2⟩
   ·exact C j p' m' h1 h2
   ·rw [q1,a3,hp] at h1;cases h1;rw [q2];have dl:=Jkb (a:=t) (c:=(p.wt,1)) o.b1 w1;refine ⟨rfl,?_,?_,?_,dl.b1,dl.g1⟩
    ·show vl (divF t (p.wt,1))=_;rw [JjV o.b1 w1 (Int.le_refl 1),Jf6,hL.vl mb.b1]
    ·exact Mth.Sz.top (by have:=JbO o.b1 w1;show t.2*p.wt≠0;ac_nf) (by rw [Int.mul_one];exact o.s1)
    ·exact (Mth.Sz.bot (t:=t.1*1) (b:=t.2*p.wt) (by have:=JbO o.b1 w1;ac_nf) (o.s2.mul ws)).mono ⋯
 ·rintro σ H3 ⟨hi,v3,O,r,rfl,X,hT,v,Y,d,C⟩;rw [take_of_length_le ∅] at d;nofun;exact k B O r H3 (fun c u h=>X c u (Jah h n) (R _ _ h)) n v Y (by simpa using congrArg List.length d) C
abbrev Bat:Stmt:=top 35
theorem JbP:Jan ["mosts","lids","levels","stops","lid"] ["mosts","lids","levels"] (Jae Bat):=by bv_decide
def JbT (K:W.Frag) (Ad:Adr):Sp:=fun vs H Q E=>∃ (md ll ld:Addr) (kvm:List (Key × V)) (ms:List (Str × Fr2)) (xs:List V) (lds:List LidD) (kvl:List (Key × V)) (lvs:List (Str × Fr2)),vs=[.ref md, .ref ll, .ref ld]/\H md=some (.dK kvm)/\BG (·.1) (NFV K H) ms kvm/\H ll=some (.lst xs)/\All2 (LDV K Ad H) lds xs/\H ld=some (.dK kvl)/\BG (·.1) (NFV K H) lvs kvl/\ms.length<=12/\lds.length<=7/\(∀ e∈lds,FB 3000 1000 e.rest/\Mth.Sz 64 e.load/\e.ws.length<=12)/\(ms.map (·.1)).Nodup/\∀ sl ys H',Same H H'->H' sl=some (.lst ys)->All2 (StV K H') (stF ms lds (lvs.map (·.1))) ys->Q (.ref sl) H'
theorem Jeb (F:FunD K "coming_stops" "coming_stops" Bat dV f fd) (T:Txt K mg Ad) (m_full_level:MCal P w K mg base 4 "full_level" (IsLid Ad) ["self"] (Jby K Ad)):FnOk P w K mg base (CX1 P w) 5 f fd ["mosts","lids","levels"] (JbT K Ad):=by
 refine F.okn JbP (by subst_eqs) (fun e1 A c5 s H vs Q E hr h=>?_)
 obtain ⟨r,ll,ld,c,Y,xs,M,d1,a,rfl,h⟩:=h;have hu:=hr.units;refine ⟨_,(Jab (JkL (JcV (j:=3) (own:=["name"]) (cs:=[(0,"mosts"),(2,"levels")]) JbP.nd rfl (Or.inl rfl) rfl (Jiq (pv 0)) (fun _ _ _ _=>(Jap (i:=0) (show [("name" : Str),("mosts" : Str),("levels" : Str)].Nodup by decide) rfl (Or.inl rfl))) (fun _ _ _ _=>(Jek (Jde (hu1 hu) (pv 0) (pv 2)) (by with_unfolding_all rfl))) (fun _ _ _ _=>(JaG (Jaa (JaQ (hu1 hu) (pv 1) (pv 0) (fun _ _=>rfl)) (Jaa (JaX (Jaa (pv 0) Jad)) Jad)))) (JdW rfl) ⋯ rfl ⋯ (hcs2 rfl rfl rfl rfl rfl rfl)))
   (Jab (Ja0 PassesOwn.never rfl (pi_U (pv 1)) (Jap (i:=4) JbP.nd rfl (Or.inl rfl))
   (Jai (ps_if (Jaz Jg0 (Jar (pv 4) rfl) Jac (JaC _))
   (Jai (Ja7 (pe_bm PySem.F.plainAttrs_list PySem.F.slot_list_append PySem.F.type_list_append JaZ (pv 3) (Jaa (JaG (Jaa (m_full_level.m0 hr ⋯ passF (pv 4)) (Jaa (Jgy (Jeh (own:=["name"]) (cs:=[(2,"levels")]) rfl (Jiq (Jar (pv 4) rfl)) (fun _ _ _ _=>(Jap (i:=0) (show [("name" : Str),("levels" : Str)].Nodup by decide) rfl (Or.inl rfl))) (fun _ _ _ _=>(Jek (Jde (hu1 hu) (pv 0) (pv 1)) (by with_unfolding_all rfl))) (fun _ _ _ _=>(pv 0)) (JdW rfl) ⋯ rfl ⋯ (hcs1 rfl rfl rfl))) Jad))) Jad) (hs:=by exact Jaf rfl))))
   Jay)))
   (Jai (Jaq (pv 3))))),?_⟩
 clear hu;obtain ⟨hm,bm,hl,hX,hv,bl,d4,l7,d7,d3,k⟩:=h;have sz:(1000:Nat)<=sizeLine:=by decide
 have lX:=hX.length;show tSeq _ _ _ [some (.ref r),some (.ref ll),some (.ref ld),none,none] H;and_intros;refine ⟨r,c,hm,r,c,Y.map (·.1),rfl,hm,bm.keysS,fun od=>?_⟩;generalize uf:upd H r (.frz od (.dK c))=H1;and_intros;have f1:H1 r=some (.frz od (.dK c)):=by rw [<- uf,Jak]
 have t1:thw r c H1=H:=by rw [<- uf];exact JiN hm
 refine JbW.keys (fun i ys C=>C r=some (.frz od (.dK c))/\Same H (thw r c C)/\All2 (StV K (thw r c C)) (((Y.take i).filter fun m=>decide (m.1∉a.map (·.1))).map fun m=>(m.2,[m.1])) ys) ⟨f1,by rw [t1];exact Same.refl _,rfl⟩ (fun i ys C hi z=>⟨z.1,by
  have h1:=z.2.2.length;rw [length_map] at h1;have h2:=length_filter_le (fun m:Str × Fr2=>decide (m.1∉a.map (·.1))) (Y.take i);rw [length_take] at h2;ac_nf⟩) ?_ ?_
 ·rintro i z ys H2 hz ⟨I,Z,hA⟩;rw [List.getElem?_map] at hz;obtain ⟨m,S,W⟩:=Option.map_eq_some_iff.mp hz;have W:m.1=z:=W;subst W;have b2:=List.mem_of_getElem? S;simpa only [length_singleton,length_cons,length_nil,List.replicate,JaB,map_cons,map_nil,Option.join_some];refine ⟨ld,_,rfl,JiO (k:=Sum.inr m.1) I (Z _ _ hv),?_⟩;rw [bl.val];by_cases g:m.1∈a.map (·.1)
  ·rw [decide_eq_true g];and_intros;refine ⟨I,Z,?_⟩;rw [take_succ,S,filter_append,map_append];have : [m].filter (fun m=>decide (m.1∉a.map (·.1)))=[]:=List.filter_eq_nil_iff.mpr fun x G=>by rw [mem_singleton.mp G];simpa using g
   rw [show (some m).toList=[m] from rfl,this,map_nil,append_nil];exact hA
  ·rw [decide_eq_false g];and_intros;obtain ⟨a',v,d6,b9,d5,d0⟩:=bm.some (z:=m.1) (mem_map.mpr ⟨m,b2,rfl⟩);have ea:=JgS d3 d6 b2 b9;subst ea;refine ⟨r,v,rfl,by rw [<- d5];exact DGet.f (k:=Sum.inr a'.1) I,?_⟩;and_intros;refine ⟨by show 1<=sizeLine;ac_nf,?_⟩;rename_i l a7 c3 H2 H3 S3 e3;and_intros;refine ⟨by show 2<=sizeLine;ac_nf,?_⟩;rename_i t c7 c6 H3 U S4 e4;and_intros;have a8:=S3.trans S4;have f4:=a8 _ _ I;have St:=Jfr (d:=r) (kv:=c) a8;refine ⟨f4,Z.trans St,?_⟩;rw [take_succ,S,filter_append,map_append];have : [a'].filter (fun m=>decide (m.1∉a.map (·.1)))=[a']:=List.filter_eq_self.mpr fun x G=>by rw [mem_singleton.mp G];simpa using g
   rw [show (some a').toList=[a'] from rfl,this];exact (hA.mono (P':=StV K (thw r c U)) fun _ _ z=>z.same St).append (.one ⟨t,v,l,rfl,SqT.of (Jg8 f4 e4 (by intro o w z;cases z)),FrV.same (Z.trans St) d0,Jg8 f4 (S4 _ _ e3) (by intro o w z;cases z)⟩)
 ·rintro ys H2 ⟨I,Z,hA⟩;rw [length_map,take_of_length_le (Nat.le_refl _)] at hA;rename_i B O e0 H2 H3 S3 e3;and_intros;refine ⟨od,c,S3 _ _ I,?_⟩;obtain ⟨U,a1⟩:∃ U,U=thw r c H3:=⟨_,rfl⟩;rw [show upd H3 r (.dK c)=U from a1.symm];and_intros;have St:=Jfr (d:=r) (kv:=c) S3;rw [<- a1] at St;have b6:=Z.trans St;have e4:U B=some (.lst ys):=by rw [a1];exact Jg8 (S3 _ _ I) e3 (by intro o w z;cases z)
  have N:H B=none:=Jb9 Z (Jfq I O);have d2:All2 (StV K (cut B U)) ((Y.filter fun m=>decide (m.1∉a.map (·.1))).map fun m=>(m.2,[m.1])) ys:=hA.mono fun _ _ z=>z.same fun b u h=>by
   rw [JbJ (fun y=>by rw [y,Jfq I O] at h;cases h)];exact St b u h
  have d9:(Y.filter fun m=>decide (m.1∉a.map (·.1))).length<=12:=Nat.le_trans (length_filter_le _ _) d4;have e2:ll≠B:=fun z=>by rw [z,N] at hl;cases hl
  refine ⟨ll,rfl,ForA.byLN (xs:=xs) (SqL.of (b6 _ _ hl)) (fun i σ C=>i<=xs.length/\∃ (v4:Option V) (R:List V) (st:List (Fr2 × List Str)),σ=[some (.ref r),some (.ref ll),some (.ref ld),some (.ref B),v4]/\Same H C/\C B=some (.lst R)/\All2 (StV K (cut B C)) st R/\st.length<=12+i/\st=(Y.filter fun m=>decide (m.1∉a.map (·.1))).map (fun m=>(m.2,[m.1]))++((M.take i).filter fun e=>decide (0<e.load)).map fun e=>(divF e.rest (e.load,1),(e.ws.map (·.1)).filter fun n=>decide (n∉a.map (·.1)))) ⟨Nat.zero_le _,none,ys,_,rfl,b6,e4,d2,by rw [length_map];ac_nf,by rw [take_zero];simp⟩ (fun i σ C q=>by obtain ⟨_,_,_,_,_,q,_⟩:=q;exact SqL.of (q _ _ hl)) ?_ ?_⟩
  ·rintro i y σ H5 hy ⟨hi,v4,R,st,rfl,S5,ez,hZ,c2,D⟩ N0 b7;have li:=(List.getElem?_eq_some_iff.mp hy).1;obtain ⟨e,b1,hd⟩:=hX.at_ hy;have c9:=List.mem_of_getElem? b1;obtain ⟨c8,d8,e7⟩:=d7 e c9;have b3:=hd.same S5;obtain ⟨q,dx,vr,vt,J,rfl,hq,hr,e5,hw⟩:=id b3;have tc:=T.c_Lid Ad.Lid rfl;have lZ:=hZ.length;and_intros;refine ⟨q,_,dx,_, .int e.load,rfl,hq,tc.cls,tc.n4,rfl,?_⟩;and_intros;have b5:M.take (i+1)=M.take i++[e]:=by rw [take_succ,b1];rfl
   by_cases c0:0<e.load
   ·rw [if_pos (by simpa using c0)];and_intros;refine ⟨.inl ⟨rfl,_,SqL.of ez⟩,?_⟩;refine ⟨q,_,dx,_,rfl,hq,rfl,rfl,?_⟩;refine ⟨q,e,rfl,b3,c8,by ac_nf,d8,fun p H6 S6 e6=>?_⟩;and_intros;have a5:=S6 _ _ hw;refine ⟨J,_,a5,q,_,dx,_, .ref J,rfl,S6 _ _ hq,tc.cls,tc.n3,rfl,J,wsK e.ws,e.ws.map (·.1),rfl,a5,Jjz e.ws,fun a3=>?_⟩;generalize ug:upd H6 J (.frz a3 (.dK (wsK e.ws)))=H7;and_intros;have f7:H7 J=some (.frz a3 (.dK (wsK e.ws))):=by rw [<- ug,Jak]
    have t7:thw J (wsK e.ws) H7=H6:=by rw [<- ug];exact JiN a5
    have c1:=S5.trans S6;refine JbW.keys (fun j qs C=>C=H7/\qs=(((e.ws.map (·.1)).take j).filter fun n=>decide (n∉a.map (·.1))).map V.str) ⟨rfl,by rw [take_zero];rfl⟩ (fun j qs C hj z=>⟨by rw [z.1];exact f7,by
     rw [z.2,length_map];have h2:=length_filter_le (fun n:Str=>decide (n∉a.map (·.1))) ((e.ws.map (·.1)).take j);rw [length_take,length_map] at h2;ac_nf⟩) ?_ ?_
    ·rintro j z qs H8 hz ⟨a0,L⟩;subst a0;subst L;simpa only [length_singleton,length_cons,length_nil,List.replicate,JaB,map_cons,map_nil,Option.join_some];refine ⟨ld,_,rfl,JiO (k:=Sum.inr z) f7 (by rw [t7];exact c1 _ _ hv),?_⟩;rw [bl.val];have b0:(e.ws.map (·.1)).take (j+1)=(e.ws.map (·.1)).take j++[z]:=by rw [take_succ,hz];rfl
     by_cases g:z∈a.map (·.1)
     ·rw [decide_eq_true g];and_intros;rw [b0,filter_append,show [z].filter (fun n=>decide (n∉a.map (·.1)))=[] from List.filter_eq_nil_iff.mpr fun x G=>by rw [mem_singleton.mp G];simpa using g,append_nil]
     ·rw [decide_eq_false g];and_intros;rw [b0,filter_append,show [z].filter (fun n=>decide (n∉a.map (·.1)))=[z] from List.filter_eq_self.mpr fun x G=>by rw [mem_singleton.mp G];simpa using g,map_append];rfl
    ·rintro qs H8 ⟨a0,L⟩;subst a0;rw [take_of_length_le (Nat.le_refl _)] at L;subst L;rename_i l a7 c3 H8 H9 S9 e9;and_intros;refine ⟨a3,_,S9 _ _ f7,?_⟩;obtain ⟨HA,X⟩:∃ HA,HA=thw J (wsK e.ws) H9:=⟨_,rfl⟩;rw [show upd H9 J (.dK (wsK e.ws))=HA from X.symm];have Su:=Jfr (d:=J) (kv:=wsK e.ws) S9;rw [t7, <- X] at Su;have eA:HA l=some (.lst (((e.ws.map (·.1)).filter fun n=>decide (n∉a.map (·.1))).map V.str)):=by rw [X];exact Jg8 (S9 _ _ f7) e9 (by intro o w z;cases z)
     and_intros;refine ⟨len2,?_⟩;rename_i t c7 c6 HA HB SB eB;and_intros;have a4:=S6.trans (Su.trans SB);have a6:=a4 _ _ ez;refine ⟨B,R,_,rfl,rfl,a6,by ac_nf,?_⟩;generalize a2:upd HB B _=c4;and_intros;have b8:=putE a2;have ec:cut B c4=cut B HB:=by rw [<- a2];exact Jgb
     have a9:H6 l=none:=by rw [<- t7];exact Jfq f7 a7
     have b4:l≠B:=fun z=>by rw [z,S6 _ _ ez] at a9;cases a9
     refine b7 _ _ ⟨li,_,R++[.ref t],st++[(divF e.rest (e.load,1),(e.ws.map (·.1)).filter fun n=>decide (n∉a.map (·.1)))],rfl,fun b u h=>by rw [<- a2,Jag (Jah h N)];exact a4 _ _ (S5 _ _ h),b8,?_,by simp;ac_nf,?_⟩
     ·rw [ec];refine (hZ.mono (P':=StV K (cut B HB)) fun _ _ z=>z.same a4.cut).append (.one ⟨t, .ref p,l,rfl,SqT.cut a6 (SqT.of eB),FrV.cut a6 (FrV.of (SB _ _ (Su _ _ e6))),?_⟩);rw [JbJ b4];exact SB _ _ eA
     ·rw [D,b5,filter_append,show [e].filter (fun e=>decide (0<e.load))=[e] from List.filter_eq_self.mpr fun x G=>by rw [mem_singleton.mp G];simpa using c0,map_append, <- List.append_assoc];rfl
   ·rw [if_neg (by simpa using c0)];and_intros;refine b7 _ _ ⟨li,_,R,st,rfl,S5,ez,hZ,by ac_nf,?_⟩;rw [D,b5,filter_append,show [e].filter (fun e=>decide (0<e.load))=[] from List.filter_eq_nil_iff.mpr fun x G=>by rw [mem_singleton.mp G];simpa using c0,append_nil]
  ·rintro σ H5 ⟨hi,v4,R,st,rfl,S5,ez,hZ,c2,D⟩;rw [take_of_length_le ∅] at D;and_intros;refine k B R H5 S5 ez ?_;unfold stF;rw [<- D];exact hZ.mono fun _ _ z=>z.cut
abbrev BaD:Stmt:=top 36
theorem JbC:Jan ["stops","found","stop"] ["stops"] (Jae BaD):=by bv_decide
def Jb6 (K:W.Frag):Sp:=fun vs H Q E=>∃ (sl:Addr) (ys:List V) (st:List (Fr2 × List Str)),vs=[.ref sl]/\SqL K H sl ys/\All2 (StV K H) st ys/\st≠[]/\(∀ s∈st,FB 3000 1200 s.1)/\∀ v (L:Fr2),L∈st.map (·.1)->(∀ s∈st,vl L<=vl s.1)->FrV K H v L.1 L.2->Q v H
theorem Jey (F:FunD K "first_level" "first_level" BaD dV f fd) (T:Txt K mg Ad) (BaF:Cal P w K mg base 1 "under" ["one","other"] [] (Jcu K)):FnOk P w K mg base (CX1 P w) 2 f fd ["stops"] (Jb6 K):=by
 refine F.okn JbC (by subst_eqs) (fun a0 A N s H vs Q E hr h=>?_)
 obtain ⟨u,Z,J,rfl,h⟩:=h;refine ⟨_,(Jab (Jaj (i:=1) JbC.nd rfl (Or.inl rfl) (pe_ix ix_U (pe_ix ix_U (pv 0) Jac (fun _ _=>rfl)) Jac (fun _ _=>rfl)))
   (Jab (Ja0 PassesOwn.never rfl (pi_U (pv 0)) (Jap (i:=2) JbC.nd rfl (Or.inl rfl))
   (Jai (ps_if (Jbc (BaF.ev hr ⋯ rfl passF (Jaa (pe_ix ix_U (pv 2) Jac (fun _ _=>rfl)) (Jaa (pv 1) Jad)) (he:=by exact Jaf rfl)))
   (Jai (Jaj (i:=1) JbC.nd rfl (Or.inl rfl) (pe_ix ix_U (pv 2) Jac (fun _ _=>rfl))))
   Jay)))
   (Jai (Jaq (pv 1))))),?_⟩
 obtain ⟨Y,W,G,j,k⟩:=h;have lA:=W.length;obtain ⟨g,r,rfl⟩:∃ g r,J=g::r:=by cases J with | nil=>exact absurd rfl G | cons a b=>exact ⟨a,b,rfl⟩
 obtain ⟨y0,X,t0,v0,l0,rfl,O,U,_⟩:=W.get (i:=0) rfl;show tSeq _ _ _ [some (.ref u),none,none] H;nofun;refine ixL (i:=0) Y X ?_;nofun;refine ixT (i:=0) O rfl ?_;nofun;refine ⟨u,rfl,ForA.byLN (xs:=Z) Y (fun i σ x=>i<=Z.length/\x=H/\∃ (v:V) (L:Fr2) (v2:Option V),σ=[some (.ref u),some v,v2]/\FrV K H v L.1 L.2/\L∈(g::r).map (·.1)/\∀ s∈(g::r).take i,vl L<=vl s.1) ⟨Nat.zero_le _,rfl,v0,g.1,none,rfl,U,by simp,(fun s n=>by simp at n)⟩ (fun i σ x q=>by rw [q.2.1];exact Y) ?_ ?_⟩
 ·rintro i y σ x hy ⟨hi,rfl,v,L,v2,rfl,p,B,d⟩ N0 o;have li:=(List.getElem?_eq_some_iff.mp hy).1;obtain ⟨s,n,t,w,l,rfl,ht,hw,_⟩:=W.at_ hy;have I:=j s (List.mem_of_getElem? n);obtain ⟨sL,S,M⟩:=mem_map.mp B;have R:FB 3000 1200 L:=M ▸ j sL S;have m:(g::r).take (i+1)=(g::r).take i++[s]:=by rw [take_succ,n];rfl
  have D:=Jeu (a:=s.1) (c:=L) I.b1 R.b1;unfold lessF at D;nofun;refine ixT (i:=0) ht rfl ?_;refine ⟨w,v,_,_,_,_,rfl,hw,p,I.s1.mono ⋯,I.s2.mono ⋯,R.s1.mono ⋯,R.s2.mono ⋯,?_⟩;nofun;by_cases c:decide (s.1.1*L.2<L.1*s.1.2)=true
  ·rw [if_pos c];nofun;refine ixT (i:=0) ht rfl ?_;nofun;have lt:=D.mp c;refine o _ _ ⟨li,rfl,w,s.1,_,rfl,hw,mem_map.mpr ⟨s,List.mem_of_getElem? n,rfl⟩,fun C e=>?_⟩;rw [m] at e;rcases mem_append.mp e with h | h
   ·exact Rat.le_trans (Rat.le_of_lt lt) (d C h)
   ·rw [mem_singleton.mp h];exact Rat.le_refl
  ·rw [if_neg c];nofun;refine o _ _ ⟨li,rfl,v,L,_,rfl,p,B,fun C e=>?_⟩;rw [m] at e;rcases mem_append.mp e with h | h
   ·exact d C h
   ·rw [mem_singleton.mp h];exact Rat.not_lt.mp fun z=>c (D.mpr z)
 ·rintro σ x ⟨hi,rfl,v,L,v2,rfl,p,B,d⟩;rw [take_of_length_le ∅] at d;nofun;exact k v L B d p
abbrev BaM:Stmt:=top 37
theorem JbL:Jan ["stops","level","names","stop","name"] ["stops","level"] (Jae BaM):=by bv_decide
def Jct (K:W.Frag):Sp:=fun vs H Q E=>∃ (sl:Addr) (lv:V) (ys:List V) (st:List (Fr2 × List Str)) (L:Fr2) (N:List Str),vs=[.ref sl,lv]/\SqL K H sl ys/\All2 (StV K H) st ys/\FrV K H lv L.1 L.2/\N.length<=20/\(∀ s∈st, ∀ n∈s.2,n∈N)/\∀ (l:Addr) (ns:List Str) (H':Hp),Same H H'->H' l=some (.lst (ns.map V.str))->ns.Nodup->(∀ n,n∈ns↔∃ s∈st,s.1=L/\n∈s.2)->Q (.ref l) H'
theorem Jfb (F:FunD K "stopped_at" "stopped_at" BaM dV f fd) (T:Txt K mg Ad)  : FnOk P w K mg base (CX1 P w) 1 f fd ["stops","level"] (Jct K):=by
 refine F.okn JbL (by subst_eqs) (fun a8 A a2 s H vs Q E hr h=>?_)
 obtain ⟨sl,lv,ys,st,L,N,rfl,h⟩:=h;have W:=hr.units;refine ⟨_,(Jab (Jaj (i:=2) JbL.nd rfl (Or.inl rfl) Jbj)
   (Jab (Ja0 PassesOwn.never rfl (pi_U (pv 0)) (Jap (i:=3) JbL.nd rfl (Or.inl rfl))
   (Jai (ps_if (Jaz (Jcx W) (pe_ix ix_U (pv 3) Jac (fun _ _=>rfl)) (pv 1) (JaC _))
   (Jai (Ja0 PassesOwn.never rfl (pi_U (pe_ix ix_U (pv 3) Jac (fun _ _=>rfl))) (Jap (i:=4) JbL.nd rfl (Or.inl rfl))
   (Jai (JbG (hu1 W) (pv 2) (pv 4) pe_bl rfl))))
   Jay)))
   (Jai (Jaq (JcB (Jhe rfl) rfl T.BdT JhH (Jaa (pv 2) Jad)))))),?_⟩
 clear W;obtain ⟨hS,hA,hL,a9,hN,k⟩:=h;have sz:(1000:Nat)<=sizeLine:=by decide
 have lA:=hA.length;show tSeq _ _ _ [some (.ref sl),some lv,none,none,none] H;nofun;rename_i O R a4 H H1 S1 e1;nofun;refine ⟨sl,rfl,ForA.byLN (xs:=ys) (hS.same S1) (fun i σ S=>i<=ys.length/\∃ (v3 M:Option V) (B:List (Key × V)) (r:List Str),σ=[some (.ref sl),some lv,some (.ref O),v3,M]/\Same H S/\S O=some (.dK B)/\B.map (·.1)=r.map Sum.inr/\r.Nodup/\∀ n,n∈r↔∃ s∈st.take i,s.1=L/\n∈s.2) ⟨Nat.zero_le _,none,none,[],[],rfl,S1,e1,rfl, .nil,fun n=>by simp⟩ (fun i σ S q=>by obtain ⟨_,_,_,_,_,_,q,_⟩:=q;exact hS.same q) ?_ ?_⟩
 ·rintro i y σ H2 hy ⟨hi,v3,M,B,r,rfl,G,e2,hk,J,d⟩ N0 a1;have li:=(List.getElem?_eq_some_iff.mp hy).1;obtain ⟨s,hs,t,w,l,rfl,ht,hw,hl⟩:=hA.at_ hy;have a3:=List.mem_of_getElem? hs;have Y:st.take (i+1)=st.take i++[s]:=by rw [take_succ,hs];rfl
  nofun;refine ixT (i:=0) (ht.same G) rfl ?_;refine eqF (hw.same G) (hL.same G) ?_;have ee:(decide (s.1.1=L.1)&&decide (s.1.2=L.2))=decide (s.1=L):=by
   rw [<- Bool.decide_and];exact decide_eq_decide.mpr Prod.ext_iff.symm
  rw [ee];nofun;by_cases c:s.1=L
  ·rw [if_pos (by simpa using c)];nofun;refine ixT (i:=1) (ht.same G) rfl ?_;nofun;have a5:l≠O:=Jah hl R;refine ⟨l,rfl,ForA.byLN (xs:=s.2.map V.str) (SqL.of (G _ _ hl)) (fun j σ S=>j<=(s.2.map V.str).length/\∃ (M:Option V) (B:List (Key × V)) (ns':List Str),σ=[some (.ref sl),some lv,some (.ref O),some (.ref t),M]/\Same H S/\S O=some (.dK B)/\B.map (·.1)=ns'.map Sum.inr/\ns'.Nodup/\∀ n,n∈ns'↔n∈r\/n∈s.2.take j) ⟨Nat.zero_le _,M,B,r,rfl,G,e2,hk,J,fun n=>by simp⟩ (fun j σ S q=>by obtain ⟨_,_,_,_,_,q,_⟩:=q;exact SqL.of (q _ _ hl)) ?_ ?_⟩
   ·rintro j z σ H3 hz ⟨hj,M,I,m,rfl,S3,X,o,g,a⟩ N1 a0;have lj:=(List.getElem?_eq_some_iff.mp hz).1;rw [List.getElem?_map] at hz;obtain ⟨n,hn,rfl⟩:=Option.map_eq_some_iff.mp hz;have lk:I.length=m.length:=by simpa using congrArg List.length o
    have lN:m.length<=N.length:=sub_len m N g fun x hx=>by
     rcases (a x).mp hx with h | h
     ·obtain ⟨C,e,_,p⟩:=(d x).mp h;exact hN C (List.mem_of_mem_take e) x p
     ·exact hN s a3 x (List.mem_of_mem_take h)
    nofun;refine ⟨O,_,rfl,DPut.k (k:=Sum.inr n) X ∅,?_⟩;generalize u4:upd H3 O _=H4;nofun;have e4:=putE u4;have Z:s.2.take (j+1)=s.2.take j++[n]:=by rw [take_succ,hn];rfl
    have S4:Same H H4:=fun b u h=>by rw [<- u4,Jag (Jah h R)];exact S3 _ _ h
    have U:=Jh4 (kvs:=I) (k:=Sum.inr n);rw [o] at U;by_cases cn:n∈m
    ·refine a0 _ _ ⟨lj,_,_,m,rfl,S4,e4,?_,g,fun x=>?_⟩
     ·rw [Jh5,if_pos (U.mpr (mem_map.mpr ⟨n,cn,rfl⟩))];exact o
     ·rw [a x,Z,mem_append,mem_singleton];refine ⟨fun h=>h.elim .inl fun h=>.inr (.inl h),fun h=>?_⟩;rcases h with h | h | h
      ·exact .inl h
      ·exact .inr h
      ·rw [h];exact (a n).mp cn
    ·refine a0 _ _ ⟨lj,_,_,m++[n],rfl,S4,e4,?_,?_,fun x=>?_⟩
     ·rw [Jh5,if_neg (fun z=>cn (by obtain ⟨q,hq,eq⟩:=mem_map.mp (U.mp z);have eq:q=n:=(by injection eq);exact eq ▸ hq)),o,map_append];rfl
     ·exact nodup_append.mpr ⟨g,by simp,fun u W v hv z=>cn (by rw [mem_singleton.mp hv] at z;rw [<- z];exact W)⟩
     ·rw [mem_append,mem_singleton,a x,Z,mem_append,mem_singleton];grind
   ·rintro σ H3 ⟨hj,M,I,m,rfl,S3,X,o,g,a⟩;rw [length_map,take_of_length_le (Nat.le_refl _)] at a;refine a1 _ _ ⟨li,_,_,I,m,rfl,S3,X,o,g,fun n=>?_⟩;rw [a n,d n,Y];constructor
    ·rintro (⟨C,e,p,D⟩ | h)
     ·exact ⟨C,mem_append.mpr (.inl e),p,D⟩
     ·exact ⟨s,mem_append.mpr (.inr (by simp)),c,h⟩
    ·rintro ⟨C,e,p,D⟩;rcases mem_append.mp e with e | e
     ·exact .inl ⟨C,e,p,D⟩
     ·rw [mem_singleton.mp e] at D;exact .inr D
  ·rw [if_neg (by simpa using c)];nofun;refine a1 _ _ ⟨li,_,_,B,r,rfl,G,e2,hk,J,fun n=>?_⟩;rw [d n,Y];constructor
   ·rintro ⟨C,e,p,D⟩;exact ⟨C,mem_append.mpr (.inl e),p,D⟩
   ·rintro ⟨C,e,p,D⟩;rcases mem_append.mp e with e | e
    ·exact ⟨C,e,p,D⟩
    ·rw [mem_singleton.mp e] at p;exact absurd p c
 ·rintro σ H2 ⟨hi,v3,M,B,r,rfl,G,e2,hk,J,d⟩;rw [take_of_length_le ∅] at d;nofun;refine ⟨O,B,r,rfl,e2,hk,?_⟩;rename_i l a6 a7 H2 H3 S3 X;nofun;exact k l r H3 (G.trans S3) X J d
abbrev Bau:Stmt:=top 38
theorem Ja4:Jan ["mosts","lids","levels","stops","level","name","lid"] ["mosts","lids"] (Jae Bau):=by bv_decide
def JbV (K:W.Frag) (Ad:Adr):Sp:=fun vs H Q E=>∃ (md ll:Addr) (kvm:List (Key × V)) (ms:List (Str × Fr2)) (xs:List V) (lds:List LidD) (b q0:Int) (N:List Str) (w M:Str->Rat) (gs:List Gp),vs=[.ref md, .ref ll]/\H md=some (.dK kvm)/\BG (·.1) (NFV K H) ms kvm/\H ll=some (.lst xs)/\All2 (LDV K Ad H) lds xs/\xs.Nodup/\lds.length<=7/\RC b q0 N w M gs ms/\RSt b N w M gs [] lds/\∀ (ld:Addr) (kv:List (Key × V)) (lvs:List (Str × Fr2)) (lds':List LidD) (H':Hp),(∀ a u,V.ref a∉xs->H a=some u->H' a=some u)->H ld=none->H' ld=some (.dK kv)->BG (·.1) (NFV K H') lvs kv->All2 (LDV K Ad H') lds' xs->RSt b N w M gs lvs lds'->N.length<=lvs.length->lds'.map (·.nm)=lds.map (·.nm)->Q (.ref ld) H'
theorem Jec (F:FunD K "risen_levels" "risen_levels" Bau dV f fd) (T:Txt K mg Ad) (Bbf:Cal P w K mg base 5 "coming_stops" ["mosts","lids","levels"] [] (JbT K Ad)) (Bbw:Cal P w K mg base 2 "first_level" ["stops"] [] (Jb6 K)) (BbU:Cal P w K mg base 1 "stopped_at" ["stops","level"] [] (Jct K)) (m_settle:MCal P w K mg base 4 "settle" (IsLid Ad) ["self","part","level"] (Jck K Ad)):FnOk P w K mg base (CX1 P w) 7 f fd ["mosts","lids"] (JbV K Ad):=by
 refine F.okn Ja4 (by subst_eqs) (fun f8 A d0 s H vs Q E hr h=>?_)
 obtain ⟨md,Z,R,ms,xs,G,b,q0,N,w,M,gs,rfl,h⟩:=h;have hu:=hr.units;refine ⟨_,(Jab (Jaj (i:=2) Ja4.nd rfl (Or.inl rfl) Jbj)
   (Jab (JdP PassesOwn.never (Jaz JeP (Jat Jb8 rfl T.BbE Jbs (Jaa (pv 2) Jad)) (Jat Jb8 rfl T.BbE Jbs (Jaa (pv 0) Jad)) (JaC _))
   (Jab (Jaj (i:=3) Ja4.nd rfl (Or.inl rfl) (Bbf.ev hr ⋯ rfl passF (Jaa (pv 0) (Jaa (pv 1) (Jaa (pv 2) Jad))) (he:=by exact Jaf rfl)))
   (Jab (Jaj (i:=4) Ja4.nd rfl (Or.inl rfl) (Bbw.ev hr ⋯ rfl passF (Jaa (pv 3) Jad) (he:=by exact Jaf rfl)))
   (Jai (Ja0 PassesOwn.never rfl (pi_U (BbU.ev hr ⋯ rfl passF (Jaa (pv 3) (Jaa (pv 4) Jad)) (he:=by exact Jaf rfl))) (Jap (i:=5) Ja4.nd rfl (Or.inl rfl))
   (Jab (JbG (hu1 hu) (pv 2) (pv 5) (pv 4) rfl)
   (Jai (Ja0 PassesOwn.never rfl (pi_U (pv 1)) (Jap (i:=6) Ja4.nd rfl (Or.inl rfl))
   (Jai (Ja7 (m_settle.m hr ⋯ passF (pv 6) (Jaa (pv 5) (Jaa (pv 4) Jad)))))))))))))
   (Jai (Jaq (pv 2))))),?_⟩
 clear hu;obtain ⟨hm,bm,hl,hX,d1,l7,X,c8,k⟩:=h;show tSeq _ _ _ [some (.ref md),some (.ref Z),none,none,none,none,none] H;nofun;rename_i g S f5 H H1 S1 e1;nofun;refine ⟨fun m σ C=>∃ (v3 v4 v5 v6:Option V) (kv:List (Key × V)) (d:List (Str × Fr2)) (o:List LidD),σ=[some (.ref md),some (.ref Z),some (.ref g),v3,v4,v5,v6]/\(∀ a u,V.ref a∉xs->H a=some u->C a=some u)/\C g=some (.dK kv)/\BG (·.1) (NFV K C) d kv/\All2 (LDV K Ad (cut g C)) o xs/\RSt b N w M gs d o/\o.map (·.nm)=G.map (·.nm)/\m=N.length-d.length,⟨_,none,none,none,none,[],[],G,rfl,fun a u _ h=>S1 _ _ h,e1,⟨rfl,rfl⟩,hX.mono fun _ _ h=>h.same (Same.cutN S1 S),c8,rfl,rfl⟩,?_⟩;rintro m σ H2 ⟨v3,v4,v5,v6,kv,d,o,rfl,S2,e2,b2,a9,st,b7,rfl⟩;have x2:All2 (LDV K Ad H2) o xs:=a9.mono fun _ _ z=>z.same Jc5;nofun;have g2:=X.l12;have c0:=S2 md _ (LDV.notin hX hm (fun _ _ z=>by cases z)) hm;have U:=S2 Z _ (LDV.notin hX hl (fun _ _ z=>by cases z)) hl;have T2:SameT H H2:=fun c u t h=>S2 c u (LDV.notin hX h (fun _ _ z=>by rw [z] at t;simp [isTF] at t)) h;have f0:BG (·.1) (NFV K H2) ms R:=bm.mono fun _ _ z=>z.sameT T2;have lk:=b2.length;have lm:=bm.length;have lN:ms.length=N.length:=by rw [<- X.nm,length_map]
 have sz:(1000:Nat)<=sizeLine:=by decide
 have f6:=hX.length;have g0:=x2.length;refine ⟨g,kv,rfl,e2,md,R,rfl,c0,?_⟩;nofun;by_cases c:d.length<N.length
 ·rw [if_pos (by simpa using (by ac_nf:kv.length<R.length))];nofun;refine ⟨_,fun σ' C h=>h,?_⟩;nofun;refine ⟨md,Z,g,R,ms,xs,o,kv,d,rfl,c0,f0,U,x2,e2,b2,by ac_nf,by ac_nf,st.lids X,by rw [X.nm];exact X.nd,fun sl ys H3 S3 e3 hY=>?_⟩;nofun;have p:=st.stops X;refine ⟨sl,ys,_,rfl,SqL.of e3,hY,st.some X c,fun s hs=>⟨(p s hs).1.s1,(p s hs).1.s2.mono ⋯,(p s hs).1.b1,(p s hs).1.g1⟩,fun v L hL b3 hv=>?_⟩;nofun;refine ⟨sl,v,ys,_,L,N,rfl,SqL.of e3,hY,hv,by ac_nf,fun s hs n hn=>((p s hs).2 n hn).1,fun l I H4 S4 e4 c3 e9=>?_⟩;obtain ⟨d2,e0,d8,D,d3⟩:=st.first X c hL b3 c3 e9;have J:=S3.trans S4;have x4:All2 (LDV K Ad H4) o xs:=x2.mono fun _ _ z=>z.same J;have a0:=J _ _ e2;have d9:l≠g:=fun z=>by rw [z,a0] at e4;cases e4
  have d7:=LDV.notin x4 e4 (fun _ _ z=>by cases z);have a3:=LDV.notin x4 a0 (fun _ _ z=>by cases z);have c2:Z≠g:=fun z=>by rw [z,e2] at U;cases U
  have a4:=LDV.notin x2 U (fun _ _ z=>by cases z);have c9:=hv.same S4;nofun;refine ⟨l,rfl,ForA.byLN (xs:=I.map V.str) (SqL.of e4) (fun i σ C=>i<=(I.map V.str).length/\∃ (v5 v6:Option V) (kv':List (Key × V)) (lds':List LidD),σ=[some (.ref md),some (.ref Z),some (.ref g),some (.ref sl),some v,v5,v6]/\(∀ a u,V.ref a∉xs->a≠g->H4 a=some u->C a=some u)/\C g=some (.dK kv')/\BG (·.1) (NFV K C) (d++(I.take i).map fun n=>(n,L)) kv'/\All2 (LDV K Ad (cut g C)) lds' xs/\RMd b N w M gs L D (d.length+1) (d++(I.take i).map fun n=>(n,L)) lds'/\lds'.map (·.nm)=G.map (·.nm)) ⟨Nat.zero_le _,v5,v6,kv,o,rfl,fun _ _ _ _ h=>h,a0,by rw [take_zero,map_nil,append_nil];exact b2.mono fun _ _ z=>z.sameT fun c u _ h=>J _ _ h,a9.mono (fun _ _ z=>z.same J.cut),by rw [take_zero,map_nil,append_nil];exact d3,b7⟩ (fun i σ C q=>by obtain ⟨_,_,_,_,_,_,q,_⟩:=q;exact SqL.of (q _ _ d7 d9 e4)) ?_ ?_⟩
  ·rintro i y σ H5 hy ⟨hi,f1,c4,a6,B,rfl,S5,e5,b5,O,x,Y⟩ N0 f4;have li:=(List.getElem?_eq_some_iff.mp hy).1;rw [length_map] at li;rw [List.getElem?_map] at hy;obtain ⟨n,hn,rfl⟩:=Option.map_eq_some_iff.mp hy;have c6:=List.mem_of_getElem? hn;have hN:=e0 n c6;have d4:I.take (i+1)=I.take i++[n]:=by rw [take_succ,hn];rfl
   have a2:(d++(I.take (i+1)).map fun n=>(n,L))=(d++(I.take i).map fun n=>(n,L))++[(n,L)]:=by rw [d4,map_append, <- List.append_assoc];rfl
   have hS:n∉(d++(I.take i).map fun n=>(n,L)).map (·.1):=by
    rw [Jbe];intro z;rcases mem_append.mp z with z | z
    ·exact hN.2 z
    ·exact JdJ c3 hn z
   have T5:SameT H4 H5:=fun c u t h=>S5 c u (LDV.notin x4 h (fun _ _ z=>by rw [z] at t;simp [isTF] at t)) (fun z=>by rw [z,a0] at h;cases h;simp [isTF] at t) h;have f9:=b5.length;have l5:(d++(I.take i).map fun n=>(n,L)).length<=N.length:=by
    have:=sub_len _ _ x.inv.nd x.inv.sub;simpa using this
   have f7:=O.length;nofun;refine ⟨g,_,rfl,DPut.k (k:=Sum.inr n) e5 ∅,?_⟩;generalize u6:upd H5 g _=H6;nofun;have e6:=putE u6;have T6:SameT H5 H6:=SameT.put u6 e5 rfl;have o6:∀ a u,a≠g->H5 a=some u->H6 a=some u:=fun a u ne h=>by rw [<- u6,Jag ne];exact h
   have f3:cut g H6=cut g H5:=by rw [<- u6];exact Jgb
   rw [<- f3] at O;have x6:All2 (LDV K Ad H6) B xs:=O.mono fun _ _ z=>z.same Jc5;have b0:=(c9.sameT T5).sameT T6;have b6:BG (·.1) (NFV K H6) (d++(I.take (i+1)).map fun n=>(n,L)) (putK a6 (Sum.inr n) v):=by
    rw [a2];exact (b5.mono (P':=NFV K H6) fun _ _ z=>z.sameT T6).new (a:=(n,L)) hS b0
   have b8:H6 Z=some (.lst xs):=o6 _ _ c2 (S5 _ _ a4 c2 (J _ _ U));have W:=x.rest X;have f2:=x.step X hN.1 hS;nofun;refine ⟨Z,rfl,ForA.byLN (xs:=xs) (SqL.of b8) (fun j σ C=>j<=xs.length/\∃ (v6:Option V),σ=[some (.ref md),some (.ref Z),some (.ref g),some (.ref sl),some v,some (.str n),v6]/\(∀ a u,V.ref a∉xs->H6 a=some u->C a=some u)/\All2 (LDV K Ad (cut g C)) ((B.take j).map (fun e=>e.settle n L)++B.drop j) xs) ⟨Nat.zero_le _,c4,rfl,fun _ _ _ h=>h,by rw [take_zero,map_nil,List.drop_zero,nil_append];exact O⟩ (fun j σ C q=>by obtain ⟨_,_,_,q,_⟩:=q;exact SqL.of (q _ _ a4 b8)) ?_ ?_⟩
   ·rintro j z σ H7 hz ⟨hj,a8,rfl,S7,x7⟩ N1 d6;have lj:=(List.getElem?_eq_some_iff.mp hz).1;obtain ⟨e,a7,a5⟩:=x7.at_ hz;rw [Jkh] at a7;have c1:=List.mem_of_getElem? a7;have b9:=a5.same Jc5;obtain ⟨q,dx,vr,vt,wd,rfl,hq,_⟩:=id b9;have T7:SameT H6 H7:=fun c u t h=>S7 c u (LDV.notin x6 h (fun _ _ z=>by rw [z] at t;simp [isTF] at t)) h;have e7:=S7 _ _ a3 e6;have c5:V.ref q∈xs:=List.mem_of_getElem? hz;nofun;refine ⟨q,_,dx,_,rfl,hq,rfl,rfl,?_⟩;refine ⟨q,n,v,e,L,rfl,b9,b0.sameT T7,(W e c1).1,x.fL,(W e c1).2,fun H8 S8 _ c7=>?_⟩;nofun;have b4:g≠q:=fun z=>by rw [<- z,e7] at hq;cases hq
    have e8:=S8 _ _ b4 e7;refine d6 _ _ ⟨lj,_,rfl,fun a u hx h=>S8 a u (fun z=>hx (z ▸ c5)) (S7 a u hx h),?_⟩;rw [<- JgU a7];refine x7.put hz (c7 g _ e7 a5) fun i' a y ne ha hy a1=>?_;have qc:cut g H7 q=_:=(JbJ b4.symm).trans hq;refine a1.keep (q:=q) (fun b u nb h=>?_) qc (fun z=>ne ?_)
    ·have d5:b≠g:=fun z=>by rw [z] at h;unfold cut at h;rw [if_pos rfl] at h;cases h
     rw [JbJ d5] at h ⊢;exact S8 b u nb h
    ·rw [z, <- hz] at hy;exact ((List.getElem?_inj lj d1).mp hy.symm).symm
   ·rintro σ H7 ⟨hj,a8,rfl,S7,x7⟩;rw [take_of_length_le ∅,List.drop_eq_nil_of_le ∅,append_nil] at x7;have T7:SameT H6 H7:=fun c u t h=>S7 c u (LDV.notin x6 h (fun _ _ z=>by rw [z] at t;simp [isTF] at t)) h;refine f4 _ _ ⟨by rw [length_map];ac_nf,_,_,_,_,rfl,fun a u hx a1 h=>S7 a u hx (o6 a u a1 (S5 a u hx a1 h)),S7 _ _ a3 e6,b6.mono fun _ _ z=>z.sameT T7,x7,by rw [a2];exact f2,JhA.trans Y⟩
  ·rintro σ H5 ⟨hi,f1,c4,a6,B,rfl,S5,e5,b5,O,x,Y⟩;rw [length_map,take_of_length_le (Nat.le_refl _)] at b5 x;have ln:1<=I.length:=by cases I with | nil=>exact absurd rfl d2 | cons a r=>simp
   refine ⟨_,?_,_,_,_,_,a6,_,B,rfl,fun a u hx h=>S5 a u hx (fun z=>by rw [z,S] at h;cases h) (J _ _ (S2 a u hx h)),e5,b5,O,x.next X d8 st.lo ∅,Y,rfl⟩;rw [length_append,length_map];ac_nf
 ·rw [if_neg (by simpa using (by ac_nf:¬ kv.length<R.length))];nofun;exact k g kv d o H2 S2 S e2 b2 x2 st ∅ b7
abbrev Ba2:Stmt:=top 39
theorem Jen:Jan ["lids","name","level","full"] ["lids","name","level"] (Jae Ba2):=by bv_decide
def JcY (K:W.Frag) (Ad:Adr):Sp:=fun vs H Q E=>∃ (ll:Addr) (n:Str) (lv:V) (xs:List V) (lds:List LidD) (L:Fr2) (e:LidD),vs=[.ref ll, .str n,lv]/\H ll=some (.lst xs)/\All2 (LDV K Ad H) lds xs/\lds.length<=7/\FrV K H lv L.1 L.2/\lds.find? (fun l=>(wtOf l.ws n).isSome&&(decide (l.rest=(0,1))&&decide (l.last=L)))=some e/\∀ p H',Same H H'->H' p=some (.tup [.str (Str.ofString "gap"), .str e.nm])->Q (.ref p) H'
theorem Jgm (F:FunD K "gap_stop" "gap_stop" Ba2 dV f fd) (T:Txt K mg Ad) (m_has_stopped:MCal P w K mg base 1 "has_stopped" (IsLid Ad) ["self","part","level"] (Jbq K Ad)):FnOk P w K mg base (CX1 P w) 2 f fd ["lids","name","level"] (JcY K Ad):=by
 refine F.okn Jen (by subst_eqs) (fun a0 A u s H vs Q E hr h=>?_)
 obtain ⟨o,n,t,xs,a,L,e,rfl,h⟩:=h;refine ⟨_,(Jab (JcV (j:=3) (own:=["lid"]) (cs:=[(1,"name"),(2,"level")]) Jen.nd rfl (Or.inl rfl) rfl (pi_U (pv 0)) (fun _ _ _ _=>(Jap (i:=0) (show [("lid" : Str),("name" : Str),("level" : Str)].Nodup by decide) rfl (Or.inl rfl))) (fun _ _ _ _=>(Jbc (m_has_stopped.m hr ⋯ passF (pv 0) (Jaa (pv 1) (Jaa (pv 2) Jad))))) (fun _ _ _ _=>(JkF (K:=K) rfl (pv 0) rfl)) (JdW rfl) ⋯ rfl ⋯ (hcs2 rfl rfl rfl rfl rfl rfl))
   (Jai (Jaq (JaG (Jaa Jbu (Jaa (pe_ix ix_U (pv 3) Jac (fun _ _=>rfl)) Jad)))))),?_⟩
 obtain ⟨R,B,l7,X,J,k⟩:=h;have lX:=B.length;have sz:(1000:Nat)<=sizeLine:=by decide
 show tSeq _ _ _ [some (.ref o),some (.str n),some t,none] H;and_intros;obtain ⟨P,M⟩:∃ P:LidD->Bool,P=fun l=>(wtOf l.ws n).isSome&&(decide (l.rest=(0,1))&&decide (l.last=L)):=⟨_,rfl⟩;rw [<- M] at J;refine ⟨o,rfl, .inl ⟨⟨xs,SqL.of R⟩,JbW.list (xs:=xs) (fun i g I=>I=H/\g=((a.take i).filter P).map fun e=>V.str e.nm) ⟨rfl,by rw [take_zero];rfl⟩ (fun i g I hi z=>⟨by rw [z.1];exact SqL.of R,by
  rw [z.2,length_map];have h2:=length_filter_le P (a.take i);rw [length_take] at h2;ac_nf⟩) ?_ ?_⟩⟩
 ·rintro i y g D W ⟨c,b⟩;subst c;subst b;obtain ⟨l,v,G⟩:=B.at_ W;obtain ⟨q,C,vr,vt,wd,rfl,U,_⟩:=id G;have S:=T.c_Lid Ad.Lid rfl;have d:a.take (i+1)=a.take i++[l]:=by rw [take_succ,v];rfl
  simpa only [length_singleton,length_cons,length_nil,List.replicate,JaB,map_cons,map_nil,Option.join_some];refine ⟨q,_,C,_,rfl,U,rfl,rfl,?_⟩;refine ⟨q,n,t,l,L,rfl,G,X,?_⟩;and_intros;rw [show ((wtOf l.ws n).isSome&&(decide (l.rest=(0,1))&&decide (l.last=L)))=P l by rw [M]];cases cp:P l with
  | false=>
   and_intros;rw [d,filter_append,show [l].filter P=[] from List.filter_eq_nil_iff.mpr fun x r=>by rw [mem_singleton.mp r,cp];decide,append_nil]
  | true=>
   and_intros;refine ⟨q,_,C,_, .str l.nm,rfl,U,S.cls,S.n1,rfl,?_⟩;and_intros;rw [d,filter_append,show [l].filter P=[l] from List.filter_eq_self.mpr fun x r=>by rw [mem_singleton.mp r,cp],map_append];rfl
 ·rintro g D ⟨c,b⟩;subst c;rw [take_of_length_le ∅] at b;have h0:g[0]?=some (.str e.nm):=by
   have h1:(a.filter P).head?=some e:=by rw [List.head?_filter];exact J
   rw [b,List.getElem?_map, <- List.head?_eq_getElem?,h1];rfl
  rename_i fl N O D Z S3 e3;and_intros;and_intros;refine ixL (i:=0) (SqL.of e3) h0 ?_;and_intros;refine ⟨len2,?_⟩;rename_i p Y a1 Z H4 S4 e4;and_intros;exact k p H4 (S3.trans S4) e4
abbrev Bcr:Stmt:=top 40
theorem JbD:Jan ["thing","scale","lids","mosts","levels","told","part","name","level","slack"] ["thing"] (Jae Bcr):=by bv_decide
def Jfp (K:W.Frag) (Ad:Adr):Sp:=fun vs H Q E=>∃ (x:Addr) (ls:List PD) (es:List (GD × List Str)) (pl:Str->Fr2),vs=[.ref x]/\TK K Ad H x ls (es.map (·.1))/\SHC ls es pl/\(∀ e∈es,0<=vl (roomF pl e.1))/\∀ (tl:Addr) (zs:List V) (rs:List ShD) (H':Hp),Same H H'->H tl=none->H' tl=some (.lst zs)->All2 (ShV K H') rs zs->ShR ls es pl rs->Q (.ref tl) H'
theorem Jjd (F:FunD K "share" "share" Bcr dV f fd) (T:Txt K mg Ad) (Bcs:Cal P w K mg base 4 "scale_of" ["thing"] [] (Jc1 K Ad)) (BcN:Cal P w K mg base 7 "lids_of" ["thing","scale"] [] (Jdx K Ad)) (Bbx:Cal P w K mg base 4 "most_levels" ["thing","scale"] [] (Jb7 K Ad)) (Bbg:Cal P w K mg base 7 "risen_levels" ["mosts","lids"] [] (JbV K Ad)) (BaX:MCal P w K mg base 2 "parts" (Jbd Ad) ["self"] (Ja9 K Ad)) (m_lowered:MCal P w K mg base 2 "lowered" (Jdm Ad) ["self","number"] (JbI K Ad)) (Bbd:Cal P w K mg base 2 "times" ["one","other"] [] (Jdl K)) (Bct:Cal P w K mg base 2 "gap_stop" ["lids","name","level"] [] (JcY K Ad)):FnOk P w K mg base (CX1 P w) 9 f fd ["thing"] (Jfp K Ad):=by
 refine F.okx JbD (fun vs H Q E h=>?_) (fun i4 A f7 s H vs Q E hr h=>?_)
 ·obtain ⟨x,X,es,pl,rfl,_⟩:=h;rfl
 obtain ⟨x,X,es,pl,rfl,h⟩:=h;have hu:=hr.units;refine ⟨_,(Jab (Jaj (i:=1) JbD.nd rfl (Or.inl rfl) (Bcs.ev hr ⋯ rfl pass1 (Jaa (pv 0) Jad) (he:=by exact Jaf rfl)))
   (Jab (Jaj (i:=2) JbD.nd rfl (Or.inl rfl) (BcN.ev hr ⋯ rfl pass1 (Jaa (pv 0) (Jaa (pv 1) Jad)) (he:=by exact Jaf rfl)))
   (Jab (Jaj (i:=3) JbD.nd rfl (Or.inl rfl) (Bbx.ev hr ⋯ rfl pass1 (Jaa (pv 0) (Jaa (pv 1) Jad)) (he:=by exact Jaf rfl)))
   (Jab (Jaj (i:=4) JbD.nd rfl (Or.inl rfl) (Bbg.ev hr ⋯ rfl pass1 (Jaa (pv 3) (Jaa (pv 2) Jad)) (he:=by exact Jaf rfl)))
   (Jab (Jaj (i:=5) JbD.nd rfl (Or.inl rfl) (JaX Jad))
   (Jab (Ja0 PassesOwn.leaving rfl (pi_U (BaX.m0 hr ⋯ pass1 (pv 0))) (Jap (i:=6) JbD.nd rfl (Or.inl rfl))
   (Jab (Jaj (i:=7) JbD.nd rfl (Or.inl rfl) (pe_ix ix_U (pv 6) Jac (fun _ _=>rfl)))
   (Jab (Jaj (i:=8) JbD.nd rfl (Or.inl rfl) (JaQ (hu1 hu) (pv 4) (pv 7) (fun _ _=>rfl)))
   (Jai (ps_if (Jaz (Jcx hu) (pv 8) (JaQ (hu1 hu) (pv 3) (pv 7) (fun _ _=>rfl)) (JaC _))
   (Jai (Ja7 (pe_bm PySem.F.plainAttrs_list PySem.F.slot_list_append PySem.F.type_list_append JaZ (pv 5) (Jaa (JaG (Jaa (pv 7) (Jaa (pe_ix ix_U (pv 6) Jac (fun _ _=>rfl)) (Jaa (JaG (Jaa Jbu Jad)) Jad)))) Jad) (hs:=by exact Jaf rfl))))
   (Jab (Jaj (i:=9) JbD.nd rfl (Or.inl rfl) (m_lowered.m hr ⋯ pass1 (pv 1) (Jaa (Bbd.ev hr ⋯ rfl pass1 (Jaa (pv 8) (Jaa (JaG (Jaa (pe_ix ix_U (pv 6) Jac (fun _ _=>rfl)) (Jaa Jac Jad))) Jad)) (he:=by exact Jaf rfl)) Jad)))
   (Jai (Ja7 (pe_bm PySem.F.plainAttrs_list PySem.F.slot_list_append PySem.F.type_list_append JaZ (pv 5) (Jaa (JaG (Jaa (pv 7) (Jaa (pv 9) (Jaa (Bct.ev hr ⋯ rfl pass1 (Jaa (pv 2) (Jaa (pv 7) (Jaa (pv 8) Jad))) (he:=by exact Jaf rfl)) Jad)))) Jad) (hs:=by exact Jaf rfl))))))))))
   (Jai (Jaq (pv 5))))))))),?_⟩
 clear hu;obtain ⟨ht,n,c4,k⟩:=h;obtain ⟨dx,d1,d2,d3,k1,k2,k3,hx,_⟩:=id ht;have sl:(1000:Nat)<=sizeLine:=by decide
 have i9:=n.l12;have l7:=n.l7;show tSeq _ _ _ [some (.ref x),none,none,none,none,none,none,none,none,none] H;nofun;refine ⟨x,X,_,rfl,ht,n.l12,by rw [length_map];exact n.l7,by rw [length_map];exact n.l14,fun p N=>⟨(n.pb p N).1,(n.pb p N).2.b1,(n.pb p N).2.s2.mono ⋯⟩,fun g hg=>by obtain ⟨e,he,rfl⟩:=mem_map.mp hg;exact n.gb e he,fun sc b fs H1 S1 Z=>?_⟩;obtain ⟨h3,fl,c5,_,c6,sb,_⟩:=id Z;have b1:=c6.b1;nofun;refine ⟨x,sc,X,es,pl,b,fs,rfl,ht.same S1,Z,n,c4,fun ll xs b6 H2 S2 h9 e2 hX f8 h5 d7 b0=>?_⟩;nofun;have g3:=S1.trans S2;refine ⟨x,sc,X,_,b,fs,rfl,ht.same g3,Z.same S2,n.l12,n.nd,fun p N=>⟨(n.pb p N).2,(n.pok p N).w,n.wt p N⟩,fun md d6 ms H3 S3 i0 e3 bm h0 g9=>?_⟩;obtain ⟨q0,rc,e1⟩:=Jjv b1 sb n c4 d7 b0 h0 g9;have hw:=JjN d7 b0;nofun;have x3:All2 (LDV K Ad H3) b6 xs:=hX.mono fun _ _ z=>z.same S3;refine ⟨md,ll,d6,ms,xs,b6,b,q0,_,_,_,_,rfl,e3,bm,S3 _ _ e2,x3,f8,by ac_nf,rc,e1,fun ld kv g2 O H4 S4 h8 e4 b4 x4 Y M f2=>?_⟩;have b2:Same H1 H4:=fun c u h=>S4 c u (fun z=>by obtain ⟨q,eq,hq⟩:=h5 _ z;have eq:c=q:=(by injection eq);rw [<- eq,h] at hq;cases hq) (S3 _ _ (S2 _ _ h));have a1:=S1.trans b2;have T4:SameT H3 H4:=fun c u t h=>S4 c u (LDV.notin x3 h (fun _ _ z=>by rw [z] at t;simp [isTF] at t)) h;have d9:=S4 _ _ (LDV.notin x3 e3 (fun _ _ z=>by cases z)) e3;have f3:=S4 _ _ (LDV.notin x3 (S3 _ _ e2) (fun _ _ z=>by cases z)) (S3 _ _ e2);have f0:BG (·.1) (NFV K H4) ms d6:=bm.mono fun _ _ z=>z.sameT T4;have c2:O.map (·.nm)=es.map (·.1.nm):=by
  rw [f2];refine List.ext_getElem? fun i=>?_;rw [List.getElem?_map,List.getElem?_map];by_cases c:i<es.length
  ·rw [List.getElem?_eq_getElem c,List.getElem?_eq_getElem (by ac_nf:i<b6.length)];exact congrArg some (b0 i _ _ (List.getElem?_eq_getElem c) (List.getElem?_eq_getElem ∅)).nm
  ·rw [List.getElem?_eq_none ∅,List.getElem?_eq_none ∅];rfl
 have i7:O.length=es.length:=by simpa using congrArg List.length c2
 nofun;refine ⟨Nat.zero_le _,?_⟩;rename_i W a6 i1 H4 H5 S5 e5;nofun;have a4:H W=none:=Jb9 a1 a6;refine ⟨x,_,dx,_,rfl,S5 _ _ (a1 _ _ hx),rfl,rfl,x,X,_,rfl,ht.same (a1.trans S5),by ac_nf,fun l ys H6 S6 c0 e6 hY=>?_⟩;have lY:=hY.length;have g0:l≠W:=fun z=>by rw [z,e5] at c0;cases c0
 have c9:=Same.trans S5 S6;nofun;refine ⟨l,rfl,ForA.byLN (xs:=ys) (SqL.of e6) (fun i σ H'=>i<=ys.length/\∃ (v6 v7 v8 v9:Option V) (zs:List V) (Y:List ShD),σ=[some (.ref x),some (.ref sc),some (.ref ll),some (.ref md),some (.ref ld),some (.ref W),v6,v7,v8,v9]/\(∀ c u,c≠W->H6 c=some u->H' c=some u)/\SameT H6 H'/\H' W=some (.lst zs)/\All2 (ShV K H') Y zs/\Y.length=i/\∀ (j:Nat) p r,X[j]?=some p->Y[j]?=some r->ShRow X es pl (lvf b g2) p r) ⟨Nat.zero_le _,none,none,none,none,[],[],rfl,fun _ _ _ h=>h,SameT.refl _,S6 _ _ e5,rfl,rfl,fun j p r _ h=>by simp at h⟩ (fun i σ H' q=>by obtain ⟨_,_,_,_,_,_,_,_,q,_⟩:=q;exact SqL.of (q _ _ g0 e6)) ?_ ?_⟩
 ·rintro i y σ H7 hy ⟨hi,v6,v7,v8,v9,zs,a2,rfl,ho,hT,ez,hZ,S,I⟩ N0 d8;have li:=(List.getElem?_eq_some_iff.mp hy).1;obtain ⟨p,N,b_,vz,vm,rfl,hb,_,hm⟩:=hY.at_ hy;have a0:=List.mem_of_getElem? N;have b3:=hb.sameT hT;have v:Same H4 H7:=fun c u h=>ho c u (Jah h a6) (c9 _ _ h);have b9:p.nm∈X.map (·.nm):=mem_map.mpr ⟨p,a0,rfl⟩;obtain ⟨a,R,ha,J,d4,g5⟩:=b4.some (z:=p.nm) (Y.all rc M _ b9);have J:a.1=p.nm:=J;obtain ⟨m,b7,f6,b5,a7,f4⟩:=f0.some (z:=p.nm) (by rw [rc.nm];exact b9);have b5:m.1=p.nm:=b5;have fa:=sh_lv rc Y ha;have ml:=rc.ml m f6;have d5:vl m.2=moF X a.1*(b:Rat):=by rw [ml.1,b5,J]
  have g7:DGet H7 ld (.str p.nm) (some R):=by rw [<- d4];exact DGet.k (k:=Sum.inr p.nm) (v _ _ e4)
  have g8:DGet H7 md (.str p.nm) (some b7):=by rw [<- a7];exact DGet.k (k:=Sum.inr p.nm) (v _ _ d9)
  have b8:FrV K H7 R a.2.1 a.2.2:=FrV.same v g5;have f1:FrV K H7 b7 m.2.1 m.2.2:=FrV.same v f4;have lZ:=hZ.length;nofun;refine ixT (i:=0) b3 rfl ?_;nofun;refine ⟨ld,R,rfl,g7,?_⟩;nofun;refine ⟨md,b7,rfl,g8,?_⟩;refine eqF b8 f1 ?_;have ee:(decide (a.2.1=m.2.1)&&decide (a.2.2=m.2.2))=decide (a.2=m.2):=by
   rw [<- Bool.decide_and];exact decide_eq_decide.mpr Prod.ext_iff.symm
  rw [ee];nofun;by_cases c:a.2=m.2
  ·rw [if_pos (by simpa using c)];nofun;refine ⟨.inl ⟨rfl,_,SqL.of ez⟩,?_⟩;refine ixT (i:=4) b3 rfl ?_;nofun;refine ⟨by show 1<=sizeLine;ac_nf,?_⟩;rename_i t i6 i5 H7 H8 S8 e8;nofun;nofun;refine ⟨by show 3<=sizeLine;ac_nf,?_⟩;rename_i pr c3 c1 H8 H9 S9 e9;nofun;have o:=Same.trans S8 S9;have U:=o _ _ ez;nofun;refine ⟨W,zs,_,rfl,rfl,U,by ac_nf,?_⟩;generalize G:upd H9 W _=C;nofun;have a8:=putE G;have d:SameT H9 C:=SameT.put G U rfl;have T7:=o.t.trans d;refine d8 _ _ ⟨li,_,_,_,_,_,a2++[(⟨p.nm,p.mo,none⟩:ShD)],rfl,fun c u L h=>by rw [<- G,Jag L];exact o _ _ (ho c u L h),hT.trans T7,a8,(hZ.mono (P':=ShV K C) fun _ _ z=>z.sameT T7).append (.one (show ShV K C (⟨p.nm,p.mo,none⟩:ShD) (.ref pr) from ⟨pr,_,t,rfl,SqT.of (d _ _ rfl e9),((hm.sameT hT).same o).sameT d,SqT.of (d _ _ rfl (S9 _ _ e8))⟩)),by rw [length_append,S];rfl,fun j p' r' h1 h2=>?_⟩;rcases Jbo h2 with h2 | ⟨q1,q2⟩
   ·exact I j p' r' h1 h2
   ·rw [q1,S,N] at h1;cases h1;rw [q2];exact JkT n rc Y a0 ha J (by rw [c];exact d5)
  ·rw [if_neg (by simpa using c)];nofun;have c8:vl a.2≠moF X a.1*(b:Rat):=fun z=>c (fa.lo.inj ml.2.1.lo (z.trans d5.symm));obtain ⟨l0,e0,h6,e7,h7⟩:=JkR hw rc Y M c2 ha c8;have wp:=n.wt p a0;refine ⟨sc,_,h3,_,rfl,v _ _ (b2 _ _ c5),rfl,rfl,?_⟩;refine ixT (i:=5) b3 rfl ?_;nofun;refine ⟨len2,?_⟩;rename_i w1 i2 i3 H7 H8 S8 e8;nofun;refine ⟨R, .ref w1,_,_,p.wt,1,rfl,b8.same S8,FrV.of e8,fa.s1.mono ⋯,fa.s2.mono ⋯,wp.mono ⋯, .lit ⋯ ⋯,fa.b1,by decide,fa.g1,by unfold Mth.g;simp,fun p2 H9 S9 e9=>?_⟩;have e9:H9 p2=some (.tup [.int (mulF a.2 (p.wt,1)).1, .int (mulF a.2 (p.wt,1)).2]):=e9;have a5:=Same.trans S8 S9;have i8:=Je2 (a:=a.2) (c:=(p.wt,1)) fa.b1 (Int.le_refl 1);have f5:FB 3000 1000 (mulF a.2 (p.wt,1)):=by
    refine FB.low (JbO fa.b1 (Int.le_refl 1)) ((fa.s1.mul wp).mono ⋯) ?_;show Mth.Sz 1000 (a.2.2*1);rw [Int.mul_one];exact fa.s2.mono ⋯
   nofun;refine ⟨sc, .ref p2,_,b,fs,rfl,Z.same (b2.trans (v.trans a5)),FrV.of e9,f5,fun p3 tt j0 g4 g6 h4=>?_⟩;have B:=a5.trans g4;nofun;refine ⟨.inl ⟨rfl,_,SqL.of (B _ _ ez)⟩,?_⟩;nofun;refine ⟨ll,p.nm,R,xs,O,a.2,l0,rfl,B _ _ (v _ _ f3),x4.mono (fun _ _ z=>z.same (v.trans B)),by ac_nf,b8.same B,by rw [<- J];exact h6,fun t f9 d0 c7=>?_⟩;nofun;refine ⟨by show 3<=sizeLine;ac_nf,?_⟩;rename_i pr c3 c1 f9 a3 a9 e9;nofun;have o:=B.trans (d0.trans a9);have U:=o _ _ ez;nofun;refine ⟨W,zs,_,rfl,rfl,U,by ac_nf,?_⟩;generalize G:upd a3 W _=C;nofun;have a8:=putE G;have d:SameT a3 C:=SameT.put G U rfl;have T7:=o.t.trans d;refine d8 _ _ ⟨li,_,_,_,_,_,a2++[(⟨p.nm,tt,some e0.1.nm⟩:ShD)],rfl,fun c u L h=>by rw [<- G,Jag L];exact o _ _ (ho c u L h),hT.trans T7,a8,(hZ.mono (P':=ShV K C) fun _ _ z=>z.sameT T7).append (.one (show ShV K C (⟨p.nm,tt,some e0.1.nm⟩:ShD) (.ref pr) from ⟨pr,_,t,rfl,SqT.of (d _ _ rfl e9),FrV.of (d _ _ rfl (a9 _ _ (d0 _ _ g6))),by rw [h7] at c7;exact SqT.of (d _ _ rfl (a9 _ _ c7))⟩)),by rw [length_append,S];rfl,fun j p' r' h1 h2=>?_⟩;rcases Jbo h2 with h2 | ⟨q1,q2⟩
   ·exact I j p' r' h1 h2
   ·rw [q1,S,N] at h1;cases h1;rw [q2];exact JkS n rc Y a0 ha J c8 h4 e7
 ·rintro σ H7 ⟨hi,v6,v7,v8,v9,zs,a2,rfl,ho,hT,ez,hZ,S,I⟩;nofun;obtain ⟨D,F⟩:=JiE hw rc Y M;exact k W zs a2 H7 (fun c u h=>ho c u (Jah h a4) (c9 _ _ (a1 _ _ h))) a4 ez hZ ⟨by have:=hZ.length;ac_nf,_,D,F,I⟩
abbrev Ba3:Stmt:=top 51
theorem Jch:Jan ["_law_script","_law_k","_law_total","_law_j"] ["_law_script","_law_k"] (Jae Ba3):=by bv_decide
def JbB (K:W.Frag):Sp:=fun vs H Q E=>∃ (a:Addr) (ns:List Int) (k:Int),vs=[.ref a, .int k]/\SqL K H a (ns.map V.int)/\ns.length<=63/\0<=k/\k<=1000/\∀ v:Int,Q (.int v) H
theorem Jgp (F:FunD K "_law_cell" "_law_cell" Ba3 dV f fd) (T:Txt K mg Ad)  : FnOk P w K mg base (CX1 P w) 1 f fd ["_law_script","_law_k"] (JbB K):=by
 refine F.okn Jch (by subst_eqs) (fun m A d s H o Q E p h=>?_)
 obtain ⟨a,e,k,rfl,h⟩:=h;refine ⟨_,(Jab (Jaj (i:=2) Jch.nd rfl (Or.inl rfl) Jac)
   (Jab (Ja0 PassesOwn.never rfl (Jir rfl T.Bcm (Jaa (pv 1) (Jaa (Jat (JhK rfl) rfl T.Bd5 Jk3 (Jaa (Jat Ja8 rfl T.BbE Jbs (Jaa (pv 0) Jad)) (Jaa Jac Jad))) (Jaa Jac Jad)))) (Jap (i:=3) Jch.nd rfl (Or.inl rfl))
   (Jai (Jaj (i:=2) Jch.nd rfl (Or.inl rfl) (pe_op Ja1 (pv 2) (pe_op Jax (pe_ix ix_U (pv 0) (pv 3) (fun _ _=>rfl)) (pe_op Ja1 Jac (pv 3)))))))
   (Jai (Jaq (pv 2))))),?_⟩
 obtain ⟨g,r,j,u,q⟩:=h;obtain ⟨k,rfl⟩:=Int.eq_ofNat_of_zero_le j;show tSeq _ _ _ [some (.ref a),some (.int (k:Int)),none,none] H;nofun;refine ⟨_, .inl g,?_⟩;simpa only [length_map];refine ⟨_,_,_,rfl,⟨by ac_nf,by ac_nf,by split <;> ac_nf,by split <;> ac_nf,by decide,by decide⟩,?_⟩;refine ForQ.by (fun i σ c=>∃ (t:Int) (v:Option V),σ=[some (.ref a),some (.int (k:Int)),some (.int t),v]/\c=H) ⟨0,none,rfl,rfl⟩ ?_ ?_
 ·rintro i σ c b ⟨t,v,rfl,rfl⟩;have n:k+i*44<e.length:=by
   unfold rsz at b;split at b <;> split at b <;> ac_nf
  have l:(k:Int)+(i:Int)*44=((k+i*44:Nat):Int):=by ac_nf
  rw [l];nofun;refine ixL g (by rw [List.getElem?_map,List.getElem?_eq_getElem n];rfl) ?_;nofun;exact ⟨JjJ (.lit ∅ ∅),_,_,rfl,trivial⟩
 ·rintro σ c ⟨t,v,rfl,rfl⟩;nofun;exact q t
abbrev Bbv:Stmt:=top 52
theorem JbN:Jan ["_law_top","_law_bottom","_law_one","_law_other","_law_rest"] ["_law_top","_law_bottom"] (Jae Bbv):=by bv_decide
def Jcd  : Sp:=fun vs H Q E=>∃ (t b:Int),vs=[.int t, .int b]/\1<=b/\Mth.Sz 8000 b/\∀ p H',Same H H'->H' p=some (.tup [.int (Mth.top t b), .int (Mth.bot t b)])->Q (.ref p) H'
theorem Jhq (F:FunD K "_law_low" "_law_low" Bbv dV f fd) (T:Txt K mg Ad)  : FnOk P w K mg base (CX1 P w) 1 f fd ["_law_top","_law_bottom"] (Jcd):=by
 refine F.okn JbN (by subst_eqs) (fun D A j s H I Q E C h=>?_)
 obtain ⟨t,b,rfl,h⟩:=h;have l:=C.units;refine ⟨_,(Jab (Jaj (i:=2) JbN.nd rfl (Or.inl rfl) (pv 0))
   (Jab (Jaj (i:=3) JbN.nd rfl (Or.inl rfl) (pv 1))
   (Jab (JdP PassesOwn.never (Jaz (Jdc l) (pv 3) Jac (JaC _))
   (Jab (Jaj (i:=4) JbN.nd rfl (Or.inl rfl) (pe_op JaA (pv 2) (pv 3)))
   (Jab (Jaj (i:=2) JbN.nd rfl (Or.inl rfl) (pv 3))
   (Jai (Jaj (i:=3) JbN.nd rfl (Or.inl rfl) (pv 4))))))
   (Jai (Jaq (JaG (Jaa (pe_op Jas (pv 0) (Jat Jc4 rfl T.BdM JgL (Jaa (pv 2) Jad))) (Jaa (pe_op Jas (pv 1) (Jat Jc4 rfl T.BdM JgL (Jaa (pv 2) Jad))) Jad)))))))),?_⟩
 clear l;obtain ⟨L,G,k⟩:=h;show tSeq _ _ _ [some (.int t),some (.int b),none,none,none] H;nofun;refine ⟨fun m σ o=>∃ (x y:Int) (z:Option V),σ=[some (.int t),some (.int b),some (.int x),some (.int y),z]/\o=H/\0<=y/\Mth.g x y=Mth.g t b/\y.toNat=m,⟨_,_,_,none,rfl,rfl,by ac_nf,rfl,rfl⟩,?_⟩;rintro m σ o ⟨x,y,z,rfl,rfl,J,u,rfl⟩;nofun;by_cases c:y=0
 ·subst c;rw [if_neg (by simp)];nofun;have N:=Mth.g_pos (a:=t) (b:=b) ∅;have M:=Mth.g_le (a:=t) (b:=b) ∅;have r:DivOk (Mth.g t b):=divOk (n:=8000) ∅ (Nat.lt_of_le_of_lt (by ac_nf:(Mth.g t b).natAbs<=b.natAbs) G);have e:(if x<0 then -x else x)=Mth.g t b:=by
   rw [<- u,Mth.JjH];split <;> ac_nf
  nofun;rw [e];refine ⟨r,r,len2,?_⟩;refine Jd6 fun p B S v=>k p B S ?_;rw [v];unfold Mth.top Mth.bot Mth.by_;rw [if_neg ∅];nofun
 ·rw [if_pos (by simp [c])];nofun;have f:=Mth.fm (x:=x) (y:=y) ∅;refine ⟨_,fun _ _ q=>q,?_⟩;nofun;have d:Mth.g y (x.fmod y)=Mth.g t b:=by rw [Mth.JhW ∅];exact u
  refine ⟨c,?_⟩;nofun;first
   | exact ⟨(x.fmod y).toNat,by ac_nf,y,x.fmod y,_,rfl,f.1,d,rfl⟩
   | exact ⟨(x.fmod y).toNat,by ac_nf,y,x.fmod y,_,rfl,rfl,f.1,d,rfl⟩
abbrev Ba4:Stmt:=top 53
theorem JgF:Jan ["_law_one","_law_other","_law_sign"] ["_law_one","_law_other","_law_sign"] (Jae Ba4):=by bv_decide
def JbU (K:W.Frag):Sp:=fun vs H Q E=>∃ (x y:V) (g:Int) (a c:Fr2) (s:Bool),vs=[x,y, .int g]/\(g=if s then 1 else -1)/\FrV K H x a.1 a.2/\FrV K H y c.1 c.2/\FW 3000 3000 a/\FW 3000 3000 c/\∀ p H',Same H H'->H' p=some (.tup [.int (addF a (sgn s c)).1, .int (addF a (sgn s c)).2])->Q (.ref p) H'
theorem Jgs (F:FunD K "_law_plus" "_law_plus" Ba4 dV f fd) (T:Txt K mg Ad) (Baw:Cal P w K mg base 1 "_law_low" ["_law_top","_law_bottom"] [] (Jcd)):FnOk P w K mg base (CX1 P w) 2 f fd ["_law_one","_law_other","_law_sign"] (JbU K):=by
 refine F.okn JgF (by subst_eqs) (fun t A m s H v Q E r h=>?_)
 obtain ⟨x,y,g,a,c,s,rfl,h⟩:=h;refine ⟨_,(Jai (Jaq (Baw.ev r ⋯ rfl passF (Jaa (pe_op Ja1 (pe_op Jax (pe_ix ix_U (pv 0) Jac (fun _ _=>rfl)) (pe_ix ix_U (pv 1) Jac (fun _ _=>rfl))) (pe_op Jax (pe_op Jax (pv 2) (pe_ix ix_U (pv 1) Jac (fun _ _=>rfl))) (pe_ix ix_U (pv 0) Jac (fun _ _=>rfl)))) (Jaa (pe_op Jax (pe_ix ix_U (pv 0) Jac (fun _ _=>rfl)) (pe_ix ix_U (pv 1) Jac (fun _ _=>rfl))) Jad)) (he:=by exact Jaf rfl)))),?_⟩;obtain ⟨n,l,j,i,b,k⟩:=h;have d:Mth.Sz 4 g:=by
  rw [n];cases s
  ·exact .lit ⋯ ⋯
  ·exact .lit ⋯ ⋯
 have u:(sgn s c).1=g*c.1:=by
  rw [n];cases s
  ·show -c.1 = -1*c.1;ac_nf
  ·show c.1=1*c.1;ac_nf
 have q:(sgn s c).2=c.2:=by cases s <;> rfl
 unfold addF at k;rw [u,q] at k;show tRet _ _ [some x,some y,some (.int g)] H;nofun;refine ixF0 l (ixF1 j ?_);nofun;refine ⟨mulOk i.s1 b.s2,ixF0 j ?_⟩;nofun;refine ⟨mulOk d b.s1,ixF1 l ?_⟩;nofun;refine ⟨mulOk (d.mul b.s1) i.s2,ixF1 l (ixF1 j ?_)⟩;nofun;refine ⟨mulOk i.s2 b.s2,_,_,rfl,?_,(i.s2.mul b.s2).mono ⋯,fun p o S e=>k p o S e⟩;have:=Int.mul_pos (show 0<a.2 by have:=i.b1;ac_nf) (show 0<c.2 by have:=b.b1;ac_nf);ac_nf
abbrev Ba5:Stmt:=top 54
theorem JgE:Jan ["_law_k","_law_sign","_law_style"] ["_law_k","_law_sign","_law_style"] (Jae Ba5):=by bv_decide
def Jcq  : Sp:=fun vs H Q E=>∃ (i:Int) (z:Str) (st:Int) (s m:Nat),vs=[.int i, .str z, .int st]/\z.cps=#[s]/\i=(m:Int)/\m<=16/\0<=st/\st<=3/\Q (.str (nmK s st.toNat m)) H
theorem Jgr (F:FunD K "_law_name" "_law_name" Ba5 dV f fd) (T:Txt K mg Ad)  : FnOk P w K mg base (CX1 P w) 1 f fd ["_law_k","_law_sign","_law_style"] (Jcq):=by
 refine F.okn JgE (by subst_eqs) (fun t A n s H u Q E D h=>?_)
 obtain ⟨i,z,a,s,m,rfl,h⟩:=h;refine ⟨_,(Jai (Jaq (pe_op Ja1 (pe_op Ja1 (pe_op Jax (pv 1) (pv 2)) (pe_ix ix_U Jbu (pv 0) (fun _ _=>rfl))) (pe_op Jax (pv 1) (pe_op Jil Jac (pv 2)))))),?_⟩;obtain ⟨x,rfl,L,p,y,q⟩:=h;have k:z.cps.toList=[s]:=by rw [x]
 have J:z.length=1:=by rw [JdN,k];rfl
 have G:(1000:Nat)<=sizeLine:=by decide
 show tRet _ _ [some (.int (m:Int)),some (.str z),some (.int a)] H;nofun;refine ⟨p,by ac_nf,by ac_nf,fun b l=>?_⟩;have g:b.cps.toList=List.replicate a.toNat s:=by
  rw [l,k];simp
 have o:(Str.ofString "abcdefghijklmnopqrstuvwxyz").cps.toList=List.range' 97 26:=by decide
 refine ⟨97+m,by decide,by rw [o];exact JdR (by rw [List.getElem?_range' ∅,Nat.one_mul]),?_⟩;nofun;have B:b.length=a.toNat:=by rw [JdN,g,List.length_replicate]
 have c:(b++(⟨#[97+m]⟩:Str)).cps.toList=List.replicate a.toNat s++[97+m]:=by rw [JgK,g]
 have v:(b++(⟨#[97+m]⟩:Str)).length=a.toNat+1:=by rw [JdN,c];simp
 have C:(⟨#[97+m]⟩:Str).length=1:=rfl;refine ⟨by ac_nf,?_⟩;nofun;refine ⟨by ac_nf,by ac_nf,by ac_nf,fun d j=>?_⟩;have e:d.cps.toList=List.replicate (3-a.toNat) s:=by
  rw [j,k];have : (3-a).toNat=3-a.toNat:=by ac_nf
  rw [this];simp
 have I:d.length=3-a.toNat:=by rw [JdN,e,List.length_replicate]
 nofun;refine ⟨by ac_nf,?_⟩;have r:b++(⟨#[97+m]⟩:Str)++d=nmK s a.toNat m:=by
  have : (b++(⟨#[97+m]⟩:Str)++d).cps=(nmK s a.toNat m).cps:=by
   apply Array.toList_inj.mp;rw [JgK,c,e];unfold nmK;simp
  cases h1:b++(⟨#[97+m]⟩:Str)++d;cases h2:nmK s a.toNat m;rw [h1,h2] at this
  congr
 rw [r];exact q
abbrev BaV:Stmt:=top 55
theorem Jav:Jan ["_law_script","_law_style","_law_parts_here","_law_spots","_law_k","_law_cell_here","_law_mixed","_law_here","_law_there","_law_other","_law_size","_law_bottom","_law_most","_law_ends","_law_name_here","_law_weight","_law_place"] ["_law_script","_law_style"] (Jae BaV):=by bv_decide
def JcF (K:W.Frag):Sp:=fun vs H Q E=>∃ (a:Addr) (ns:List Int) (st:Nat),vs=[.ref a, .int (st:Int)]/\SqL K H a (ns.map V.int)/\ns.length<=63/\st<=3/\∀ q pl sd px kv ls xs H',Same H H'->H' q=some (.tup [.ref pl, .ref sd])->H' pl=some (.lst px)->All2 (PDV K H') ls px->H' sd=some (.dK kv)->BG (·.1.f) (SNV K pl sd H') xs kv->Grn st ls (xs.map (·.1))->Nms ls xs->Two (xs.map (·.1))->1<=ls.length->ls.length<=8->xs.length<=16->(∀ p∈ls,Mth.Sz 21 p.wt)->xs≠[]->Q (.ref q) H'
theorem JfP (F:FunD K "_law_parts" "_law_parts" BaV dV f fd) (T:Txt K mg Ad) (Bae:Cal P w K mg base 1 "_law_cell" ["_law_script","_law_k"] [] (JbB K)) (BaN:Cal P w K mg base 1 "_law_name" ["_law_k","_law_sign","_law_style"] [] (Jcq)) (Baw:Cal P w K mg base 1 "_law_low" ["_law_top","_law_bottom"] [] (Jcd)) (Ban:Cal P w K mg base 2 "_law_plus" ["_law_one","_law_other","_law_sign"] [] (JbU K)):FnOk P w K mg base (CX1 P w) 3 f fd ["_law_script","_law_style"] (JcF K):=by
 refine F.okn Jav (by subst_eqs) (fun t4 A p3 s H vs Q E hr h=>?_)
 obtain ⟨a,ns,g,rfl,h⟩:=h;have hu:=hr.units;refine ⟨_,(Jab (Jaj (i:=2) Jav.nd rfl (Or.inl rfl) (JaX Jad))
   (Jab (Jaj (i:=3) Jav.nd rfl (Or.inl rfl) Jbj)
   (Jab (Ja0 PassesOwn.never rfl (JcC rfl T.Bcm (Jaa (pe_op Ja1 Jac (pe_op JaA (Bae.ev hr ⋯ rfl passF (Jaa (pv 0) (Jaa Jac Jad)) (he:=by exact Jaf rfl)) Jac)) Jad)) (Jap (i:=4) Jav.nd rfl (Or.inl rfl))
   (Jab (Jaj (i:=5) Jav.nd rfl (Or.inl rfl) (Bae.ev hr ⋯ rfl passF (Jaa (pv 0) (Jaa (pe_op Ja1 Jac (pe_op Jax Jac (pv 4))) Jad)) (he:=by exact Jaf rfl)))
   (Jab (Jaj (i:=6) Jav.nd rfl (Or.inl rfl) (pe_op Jas (pe_op JaA (pe_op Jax (pv 5) Jac) Jac) Jac))
   (Jab (ps_if (PW.pt (pw_or (Jaz (Jcx hu) (Jat Jb8 rfl T.BbE Jbs (Jaa (pv 3) Jad)) Jac (JaC _)) (JcD (Jaz (Jcx hu) (pe_op JaA (pe_op Jas (pv 6) Jac) Jac) Jac (JaC _)))))
   (Jab (Jaj (i:=7) Jav.nd rfl (Or.inl rfl) (BaN.ev hr ⋯ rfl passF (Jaa (Jat Jb8 rfl T.BbE Jbs (Jaa (pv 3) Jad)) (Jaa Jbu (Jaa (pv 1) Jad))) (he:=by exact Jaf rfl)))
   (Jai (JbG (hu1 hu) (pv 3) (pv 7) (JaG (Jaa (pv 7) (Jaa (JaG (Jaa Jac (Jaa Jac Jad))) (Jaa (JaX Jad) Jad)))) rfl)))
   (Jai (Jaj (i:=7) Jav.nd rfl (Or.inl rfl) (pe_ix ix_U (Jat (JeF rfl) rfl T.Bdz Jfz (Jaa (pv 3) Jad)) (pe_op JaA (pv 6) (Jat Jb8 rfl T.BbE Jbs (Jaa (pv 3) Jad))) (fun _ _=>rfl)))))
   (Jab (Jaj (i:=8) Jav.nd rfl (Or.inl rfl) (BaN.ev hr ⋯ rfl passF (Jaa (Jat Jb8 rfl T.BbE Jbs (Jaa (pv 3) Jad)) (Jaa Jbu (Jaa (pv 1) Jad))) (he:=by exact Jaf rfl)))
   (Jab (Jaj (i:=9) Jav.nd rfl (Or.inl rfl) (Bae.ev hr ⋯ rfl passF (Jaa (pv 0) (Jaa (pe_op Ja1 Jac (pe_op Jax Jac (pv 4))) Jad)) (he:=by exact Jaf rfl)))
   (Jab (Jaj (i:=10) Jav.nd rfl (Or.inl rfl) (Baw.ev hr ⋯ rfl passF (Jaa (pe_op JaA (pv 9) (pe_ix ix_U (JaX (Jaa Jac (Jaa (pe_op Jfd Jac Jac) Jad))) (pe_op JaA (pe_op Jas (pv 6) Jac) Jac) (fun _ _=>rfl))) (Jaa (pe_op Ja1 Jac (pe_op JaA (pe_op Jas (pv 6) Jac) Jac)) Jad)) (he:=by exact Jaf rfl)))
   (Jab (Jaj (i:=11) Jav.nd rfl (Or.inl rfl) (pe_ix ix_U (JaX (Jcy (Jcy (Jcy (Jcy (Jcy (Jcy (Jcy (Jcy (Jcy (Jcy (Jcy (Jcy Jad))))))))))))) (pe_op JaA (pe_op Jas (pv 6) Jac) Jac) (fun _ _=>rfl)))
   (Jab (Jaj (i:=12) Jav.nd rfl (Or.inl rfl) (Baw.ev hr ⋯ rfl passF (Jaa (pe_op JaA (pv 9) (pe_ix ix_U (JaX (Jaa Jac (Jaa Jac (Jaa (pe_op Jfd Jac Jac) Jad)))) (pe_op JaA (pe_op Jas (pv 6) Jac) Jac) (fun _ _=>rfl))) (Jaa (pv 11) Jad)) (he:=by exact Jaf rfl)))
   (Jab (Jaj (i:=13) Jav.nd rfl (Or.inl rfl) (pe_ix ix_U (JaX (Jaa (JaG (Jaa (pv 7) (Jaa (pv 8) Jad))) (Jaa (JaG (Jaa (pv 8) (Jaa (pv 7) Jad))) Jad))) (pe_op JaA (pe_op Jas (pv 6) Jac) Jac) (fun _ _=>rfl)))
   (Jab (Jaj (i:=14) Jav.nd rfl (Or.inl rfl) (BaN.ev hr ⋯ rfl passF (Jaa (pv 4) (Jaa Jbu (Jaa (pv 1) Jad))) (he:=by exact Jaf rfl)))
   (Jab (Jaj (i:=15) Jav.nd rfl (Or.inl rfl) (pe_ix ix_U (JaX (Jaa (pe_op Ja1 Jac (pe_op JaA (pe_op Jas (pv 6) Jac) Jac)) (Jaa (pe_op Ja1 Jac (pe_op JaA (pv 9) (pe_op Jfd Jac Jac))) Jad))) (JcB JfA rfl T.BdU JhG (Jaa (Jbv (Jcx hu) (pe_op JaA (pe_op Jas (pv 6) Jac) Jac) Jac (JaC _)) Jad)) (fun _ _=>rfl)))
   (Jab (Ja7 (pe_bm PySem.F.plainAttrs_list PySem.F.slot_list_append PySem.F.type_list_append JaZ (pv 2) (Jaa (JaG (Jaa (pv 14) (Jaa (pe_ix ix_U (pv 13) Jac (fun _ _=>rfl)) (Jaa (pe_ix ix_U (pv 13) Jac (fun _ _=>rfl)) (Jaa (pv 10) (Jaa (pv 12) (Jaa (pv 15) Jad))))))) Jad) (hs:=by exact Jaf rfl)))
   (Jab (Jaj (i:=16) Jav.nd rfl (Or.inl rfl) (Ban.ev hr ⋯ rfl passF (Jaa (pe_ix ix_U (JaQ (hu1 hu) (pv 3) (pv 7) (fun _ _=>rfl)) Jac (fun _ _=>rfl)) (Jaa (pv 10) (Jaa (pe_op Jil Jac (pe_op Jax Jac (pe_op JaA (pe_op Jas (pv 6) Jac) Jac))) Jad))) (he:=by exact Jaf rfl)))
   (Jai (JbG (hu1 hu) (pv 3) (pv 8) (JaG (Jaa (pe_ix ix_U (JaQ (hu1 hu) (pv 3) (pv 7) (fun _ _=>rfl)) Jac (fun _ _=>rfl)) (Jaa (pv 16) (Jaa (pe_op Ja1 (pe_ix ix_U (JaQ (hu1 hu) (pv 3) (pv 7) (fun _ _=>rfl)) Jac (fun _ _=>rfl)) (JaX (Jaa (pv 14) Jad))) Jad)))) rfl))))))))))))))))
   (Jai (Jaq (JaG (Jaa (pv 2) (Jaa (pv 3) Jad)))))))),?_⟩
 clear hu;obtain ⟨hS,hl,d7,k⟩:=h;have sl:(1000:Nat)<=sizeLine:=by decide
 have b7:(Str.ofString "f").cps=#[102]:=by decide
 have i6:(Str.ofString "p").cps=#[112]:=by decide
 show tSeq _ _ _ [some (.ref a),some (.int (g:Int)),none,none,none,none,none,none,none,none,none,none,none,none,none,none,none] H;nofun;refine ⟨len0,?_⟩;rename_i D k3 r8 H H1 S1 e1;nofun;rename_i l b5 r4 H1 H2 S2 e2;nofun;refine ⟨a,ns,0,rfl,(hS.same S1).same S2,hl,by decide,by decide,fun c0=>?_⟩;nofun;repeat (refine And.intro (by first | exact JaV ⋯ | exact JaY ⋯ | exact JaW ⋯ | exact JaF ⋯ | exact Int.one_ne_zero | decide) ?_)
 have q0:=Mth.fm (x:=c0) (y:=8) ⋯;refine ⟨_,rfl,by ac_nf,by ac_nf,?_⟩;have h6:D≠l:=fun z=>by rw [<- z,e1] at b5;cases b5
 have f2:=Jb9 S1 b5;refine ForR.byN (fun i σ G=>∃ (v4 v5 v6 v7 v8 v9 a9 b4 c9 c3 b0 d1 b3:Option V) (px:List V) (L:List (Key × V)) (ls:List PD) (e:List (SpD × List Str)),σ=[some (.ref a),some (.int (g:Int)),some (.ref D),some (.ref l),v4,v5,v6,v7,v8,v9,a9,b4,c9,c3,b0,d1,b3]/\Same H G/\G D=some (.lst px)/\All2 (PDV K G) ls px/\G l=some (.dK L)/\BG (·.1.f) (SNV K D l G) e L/\Grn g ls (e.map (·.1))/\Nms ls e/\Two (e.map (·.1))/\ls.length=i/\e.length<=2*i/\(1<=i->e≠[])/\∀ p∈ls,Mth.Sz 21 p.wt) ⟨none,none,none,none,none,none,none,none,none,none,none,none,none,[],[],[],[],rfl,S1.trans S2,S2 _ _ e1,rfl,e2,⟨rfl,rfl⟩,Grn.nil,Nms.nil,(fun s hs=>by cases hs),rfl,by decide,fun z=>absurd z ⋯,(fun p hp=>by cases hp)⟩ ?_ ?_
 ·rintro i σ H3 hi ⟨v4,v5,v6,v7,v8,v9,a9,b4,c9,c3,b0,d1,b3,px,L,ls,e,rfl,S3,ep,hP,W,hB,hG,hM,hT,d6,h5,g2,f7⟩ N0 n8;have i7:i<8:=by ac_nf
  rw [Int.zero_add];simpa only [-y5by];repeat (refine And.intro (by first | exact JaV ⋯ | exact JaY ⋯ | exact JaW ⋯ | exact JaF ⋯ | exact Int.one_ne_zero | decide) ?_)
  refine ⟨a,ns,_,rfl,hS.same S3,hl,by ac_nf,by ac_nf,fun c1=>?_⟩;try simpa only [-y5by]
  repeat (refine And.intro (by first | exact JaV ⋯ | exact JaY ⋯ | exact JaW ⋯ | exact JaF ⋯ | exact Int.one_ne_zero | decide) ?_)
  generalize ((c1*48271).fmod 2147483647).fdiv 37=mx;refine Jlc (fun σ' G=>∃ (L:List (Key × V)) (e:List (SpD × List Str)) (s0:SpD × List Str),σ'=[some (.ref a),some (.int (g:Int)),some (.ref D),some (.ref l),some (.int (i:Int)),some (.int c1),some (.int mx),some (.str s0.1.f),v8,v9,a9,b4,c9,c3,b0,d1,b3]/\Same H G/\G D=some (.lst px)/\All2 (PDV K G) ls px/\G l=some (.dK L)/\BG (·.1.f) (SNV K D l G) e L/\Grn g ls (e.map (·.1))/\Nms ls e/\s0∈e/\(∀ s∈e.map (·.1),s.r=s0.1.r\/∃ t∈e.map (·.1),t.f≠s.f/\t.r=s.r)/\e.length<=2*i+1) ?_ ?_
  ·clear hB hG hT hM h5 g2 W hP ep S3;rintro σ' S ⟨L,e,s0,rfl,B,ep,hP,W,hB,hG,hM,a0,hT,h5⟩;have lk:=hB.length;have a6:(e.map (·.1)).length=e.length:=length_map ..;have M:s0.1∈e.map (·.1):=mem_map.mpr ⟨s0,a0,rfl⟩;nofun;refine ⟨l,L,rfl,W,?_⟩;refine ⟨_,_,_,102,e.length,rfl,b7,by ac_nf,by ac_nf,by ac_nf,by ac_nf,?_⟩;rw [Int.toNat_natCast];nofun;repeat (refine And.intro (by first | exact JaV ⋯ | exact JaY ⋯ | exact JaW ⋯ | exact JaF ⋯ | exact Int.one_ne_zero | decide) ?_)
   refine ⟨a,ns,_,rfl,hS.same B,hl,by ac_nf,by ac_nf,fun c2=>?_⟩;nofun;repeat (refine And.intro (by first | exact JaV ⋯ | exact JaY ⋯ | exact JaW ⋯ | exact JaF ⋯ | exact Int.one_ne_zero | decide) ?_)
   rename_i ml p9 q1 S H6 S6 e6;nofun;repeat (refine And.intro (by first | exact JaV ⋯ | exact JaY ⋯ | exact JaW ⋯ | exact JaF ⋯ | exact Int.one_ne_zero | decide) ?_)
   have q5:=Mth.fm (x:=mx.fdiv 64) (y:=2) ⋯;obtain ⟨n5,k2⟩:=Int.eq_ofNat_of_zero_le q5.1;rw [k2] at q5 ⊢;obtain ⟨mo,m9,m1,m2⟩:∃ mo:Int,[V.int 9, .int 10000000000000000000000000000000000000000][n5]?=some (.int mo)/\1<=mo/\mo<=10000000000000000000000000000000000000000:=by
    match n5,q5 with
    | 0,_=>exact ⟨_,rfl,by decide,by decide⟩
    | 1,_=>exact ⟨_,rfl,by decide,by decide⟩
    | n+2,q5=>ac_nf
   refine ixL (i:=n5) (SqL.of e6) m9 ?_;clear q5 k2;nofun;refine ⟨by ac_nf,?_⟩;repeat (refine And.intro (by first | exact JaV ⋯ | exact JaY ⋯ | exact JaW ⋯ | exact JaF ⋯ | exact Int.one_ne_zero | decide) ?_)
   have qt:=Mth.fm (x:=c2) (y:=mo) ∅;have qb:=Mth.fm (x:=mx.fdiv 128) (y:=12) ⋯;refine ⟨_,_,rfl,by ac_nf, .lit ∅ ∅,fun fz H7 S7 e7=>?_⟩;have zb:FB 133 4 (Mth.top (c2.fmod mo) (1+(mx.fdiv 128).fmod 12),Mth.bot (c2.fmod mo) (1+(mx.fdiv 128).fmod 12)):=FB.low ∅ (.lit ∅ ∅) (.lit ∅ ∅);obtain ⟨sz,i3⟩:∃ sz:Fr2,sz=(Mth.top (c2.fmod mo) (1+(mx.fdiv 128).fmod 12),Mth.bot (c2.fmod mo) (1+(mx.fdiv 128).fmod 12)):=⟨_,rfl⟩;rw [<- i3] at zb;have e7:H7 fz=some (.tup [.int sz.1, .int sz.2]):=by rw [e7,i3]
   nofun;refine ⟨by show 12<=sizeLine;ac_nf,?_⟩;rename_i bl s6 r1 H7 p4 m4 n9;nofun;repeat (refine And.intro (by first | exact JaV ⋯ | exact JaY ⋯ | exact JaW ⋯ | exact JaF ⋯ | exact Int.one_ne_zero | decide) ?_)
   have g4:=Mth.fm (x:=mx.fdiv 16) (y:=12) ⋯;obtain ⟨k8,f0⟩:=Int.eq_ofNat_of_zero_le g4.1;rw [f0] at g4 ⊢;obtain ⟨bt,m7,b1,b2⟩:∃ bt:Int,[V.int 1, .int 2, .int 3, .int 4, .int 5, .int 6, .int 10, .int 12, .int 15, .int 20, .int 30, .int 60][k8]?=some (.int bt)/\1<=bt/\bt<=60:=Jlz ∅;refine ixL (i:=k8) (SqL.of n9) m7 ?_;clear g4 f0;nofun;repeat (refine And.intro (by first | exact JaV ⋯ | exact JaY ⋯ | exact JaW ⋯ | exact JaF ⋯ | exact Int.one_ne_zero | decide) ?_)
   rename_i ol q7 r6 p4 s8 m5 l7;nofun;repeat (refine And.intro (by first | exact JaV ⋯ | exact JaY ⋯ | exact JaW ⋯ | exact JaF ⋯ | exact Int.one_ne_zero | decide) ?_)
   have q3:=Mth.fm (x:=mx.fdiv 1024) (y:=3) ⋯;obtain ⟨n3,l2⟩:=Int.eq_ofNat_of_zero_le q3.1;rw [l2] at q3 ⊢;obtain ⟨om,o5,o1,o2⟩:∃ om:Int,[V.int 13, .int 13, .int 1000000000000000000000000000000][n3]?=some (.int om)/\1<=om/\om<=1000000000000000000000000000000:=pick3 ∅;refine ixL (i:=n3) (SqL.of l7) o5 ?_;clear q3 l2;nofun;refine ⟨by ac_nf,?_⟩;repeat (refine And.intro (by first | exact JaV ⋯ | exact JaY ⋯ | exact JaW ⋯ | exact JaF ⋯ | exact Int.one_ne_zero | decide) ?_)
   have qo:=Mth.fm (x:=c2) (y:=om) ∅;refine ⟨_,_,rfl,b1, .lit ∅ ∅,fun fm i0 n0 g5=>?_⟩;have mb:FB 100 6 (Mth.top (c2.fmod om) bt,Mth.bot (c2.fmod om) bt):=FB.low b1 (.lit ∅ ∅) (.lit ∅ ∅);have mn:0<=Mth.top (c2.fmod om) bt:=JiP qo.1 b1;obtain ⟨mz,h7⟩:∃ mz:Fr2,mz=(Mth.top (c2.fmod om) bt,Mth.bot (c2.fmod om) bt):=⟨_,rfl⟩;rw [<- h7] at mb;have mn:0<=mz.1:=by rw [h7];exact mn
   have g5:i0 fm=some (.tup [.int mz.1, .int mz.2]):=by rw [g5,h7]
   clear qt qb qo m1 m2 b1 b2 o1 o2;nofun;refine ⟨len2,?_⟩;rename_i t1 q8 s4 i0 H8 S8 e8;nofun;refine ⟨len2,?_⟩;rename_i t2 r3 s1 H8 H9 S9 e9;nofun;refine ⟨len2,?_⟩;rename_i el r2 q4 H9 d5 d9 o8;nofun;repeat (refine And.intro (by first | exact JaV ⋯ | exact JaY ⋯ | exact JaW ⋯ | exact JaF ⋯ | exact Int.one_ne_zero | decide) ?_)
   have q6:=Mth.fm (x:=mx.fdiv 32) (y:=2) ⋯;obtain ⟨n6,j0⟩:=Int.eq_ofNat_of_zero_le q6.1;rw [j0] at q6 ⊢;obtain ⟨d,et,u,v,hd,d3,d0,c4,j4⟩:∃ (d:Bool) (et:Addr) (u v:Str),[V.ref t1, .ref t2][n6]?=some (.ref et)/\d5 et=some (.tup [.str u, .str v])/\(u=if d then s0.1.f else nmK 102 g e.length)/\(v=if d then nmK 102 g e.length else s0.1.f)/\(1-2*(n6:Int)=if d then 1 else -1):=by
    match n6,q6 with
    | 0,_=>exact ⟨true,t1,_,_,rfl,d9 _ _ (S9 _ _ e8),rfl,rfl,rfl⟩
    | 1,_=>exact ⟨false,t2,_,_,rfl,d9 _ _ e9,rfl,rfl,rfl⟩
    | n+2,q6=>ac_nf
   refine ixL (i:=n6) (SqL.of o8) hd ?_;clear q6;nofun;have f6:Same H7 d5:=m4.trans (m5.trans (n0.trans (S8.trans (S9.trans d9))));have a2:Same S d5:=S6.trans (S7.trans f6);have d2:=f6 _ _ e7;have c7:=d9 _ _ (S9 _ _ (S8 _ _ g5));have c5:=a2 _ _ ep;refine ⟨_,_,_,112,i,rfl,i6,rfl,by ac_nf,by ac_nf,by ac_nf,?_⟩;rw [Int.toNat_natCast];nofun;repeat (refine And.intro (by first | exact JaV ⋯ | exact JaY ⋯ | exact JaW ⋯ | exact JaF ⋯ | exact Int.one_ne_zero | decide) ?_)
   have qw:=Mth.fm (x:=mx.fdiv 8) (y:=4) ⋯;have o0:=Mth.fm (x:=c2) (y:=1000000) ⋯;refine ⟨len2,?_⟩;rename_i wl r7 s3 d5 k4 R i9;nofun;repeat (refine And.intro (by first | exact JaV ⋯ | exact JaY ⋯ | exact JaW ⋯ | exact JaF ⋯ | exact Int.one_ne_zero | decide) ?_)
   refine .inr ⟨_,rfl,?_⟩;obtain ⟨n7,wt,i2,n4,m0,s7⟩:∃ (n7:Nat) (wt:Int),(if decide ((mx.fdiv 2048).fmod 5=1)=true then (1:Int) else 0)=(n7:Int)/\[V.int (1+(mx.fdiv 8).fmod 4), .int (1+c2.fmod 1000000)][n7]?=some (.int wt)/\1<=wt/\wt<=1000000:=by
    by_cases c:(mx.fdiv 2048).fmod 5=1
    ·exact ⟨1,_,by rw [if_pos (by simpa using c)];rfl,rfl,by ac_nf,by ac_nf⟩
    ·exact ⟨0,_,by rw [if_neg (by simpa using c)];rfl,rfl,by ac_nf,by ac_nf⟩
   rw [i2];refine ixL (i:=n7) (SqL.of i9) n4 ?_;clear qw o0 i2;nofun;replace d3:=R _ _ d3;replace c5:=R _ _ c5;replace d2:=R _ _ d2;replace c7:=R _ _ c7;replace a2:=a2.trans R;refine ⟨.inl ⟨rfl,_,SqL.of c5⟩,?_⟩;refine ixT (i:=0) (SqT.of d3) rfl ?_;refine ixT (i:=1) (SqT.of d3) rfl ?_;nofun;refine ⟨by show 6<=sizeLine;ac_nf,?_⟩;rename_i pt r5 q2 k4 d4 d8 o3;nofun;have C:=a2.trans d8;have lp:=hP.length;refine ⟨D,px,_,rfl,rfl,C _ _ ep,by ac_nf,?_⟩;generalize g1:upd d4 D _=b9;nofun;have i8:b9 D=some (.lst (px++[.ref pt])):=putE g1;have h0:SameT d4 b9:=SameT.put g1 (C _ _ ep) rfl;have a5:∀ b u,b≠D->d4 b=some u->b9 b=some u:=fun b u hb h=>by rw [<- g1,Jag hb];exact h
   have a8:=a5 _ _ (Ne.symm h6) (C _ _ W);have a3:SameT S b9:=C.t.trans h0;obtain ⟨U,t7,o6,o7,f9,tb,w0,l0,rfl,g9,o9,p5,t3,p7⟩:=hB.some (z:=s0.1.f) (mem_map.mpr ⟨s0,a0,rfl⟩);have es:=JdD hG o6 a0 o7;subst es;nofun;refine ⟨l,_,rfl,by rw [<- f9];exact DGet.k (k:=Sum.inr U.1.f) a8,?_⟩;refine ixT (i:=1) (g9.sameT a3) rfl ?_;nofun;repeat (refine And.intro (by first | exact JaV ⋯ | exact JaY ⋯ | exact JaW ⋯ | exact JaF ⋯ | exact Int.one_ne_zero | decide) ?_)
   have j9:FrV K b9 (.ref fz) sz.1 sz.2:=FrV.of (h0 _ _ rfl (d8 _ _ d2));have pb:=hG.fb U.1 M;refine ⟨w0, .ref fz,_,U.1.p,sz,d,rfl,(by first | exact j4 | (rw [j0];exact j4)),o9.sameT a3,j9,pb.w.mono ∅ ∅,zb.w.mono ⋯ ⋯,fun np l6 b8 p1=>?_⟩;nofun;have c8:=b8 _ _ a8;have f1:SameT S l6:=a3.trans b8.t;refine ⟨l,_,rfl,by rw [<- f9];exact DGet.k (k:=Sum.inr U.1.f) c8,?_⟩;refine ixT (i:=0) (g9.sameT f1) rfl ?_;refine ⟨l,_,rfl,by rw [<- f9];exact DGet.k (k:=Sum.inr U.1.f) c8,?_⟩;refine ixT (i:=2) (g9.sameT f1) rfl ?_;nofun;refine ⟨by show 1<=sizeLine;ac_nf,?_⟩;rename_i n1 r0 r9 l6 f5 O j8;nofun;have j1:f5 l0=some (.lst (U.2.map V.str)):=O _ _ (b8 _ _ (a5 _ _ p5 (C _ _ p7)));have t5:=hM.ln U a0;refine .inl ⟨l0,n1,_,_,rfl,rfl,j1,j8,by simp only [length_map,length_cons,length_nil];ac_nf,?_⟩;rename_i n2 I q9 f5 j6 f4 k6;nofun;refine ⟨by show 3<=sizeLine;ac_nf,?_⟩;rename_i nt s5 s2 j6 h9 g7 o4;nofun;have m:=b8.trans (O.trans (f4.trans g7));have e3:=m _ _ a8;refine ⟨l,_,rfl,DPut.k (k:=Sum.inr (nmK 102 g e.length)) e3 ∅,?_⟩;generalize h4:upd h9 l _=a1;nofun;have p2:=putE h4;have e0:SameT h9 a1:=SameT.put h4 e3 rfl;have a4:∀ b u,b≠l->h9 b=some u->a1 b=some u:=fun b u hb h=>by rw [<- h4,Jag hb];exact h
   have f3:SameT S a1:=a3.trans (m.t.trans e0);have Z:SameT d4 a1:=h0.trans (m.t.trans e0);have W416:Same2 D l S a1:=fun b u h1 h2 h=>a4 _ _ h2 (m _ _ (a5 _ _ h1 (C _ _ h)));have f8:nameS (nmK 112 g i)=true:=JdO ⋯ d7 ∅;have s9:nameS U.1.f=true:=hG.fname d7 ∅ M;have t6:nameS (nmK 102 g e.length)=true:=JdO ⋯ d7 ∅;have a7:nmK 102 g e.length∉(e.map (·.1)).map (·.f):=hG.new (by rw [a6];exact Nat.le_refl _);have nw:nmK 102 g e.length≠U.1.f:=fun z=>a7 (z ▸ mem_map.mpr ⟨U.1,M,rfl⟩);have p6:Mth.Sz 200 wt:=.lit ∅ ∅;have i5:Mth.Sz 21 wt:=.lit ∅ ∅;have m8:POk ⟨nmK 112 g i,u,v,sz,mz,wt⟩:=⟨f8,by show nameS u=true;rw [d0];cases d <;> assumption,by show nameS v=true;rw [c4];cases d <;> assumption,by show u≠v;rw [d0,c4];cases d;exact nw;exact Ne.symm nw,zb.ok ⋯ ⋯,mb.ok ⋯ ⋯,mn,m0,p6⟩;rw [<- a6] at d0 c4;have j2:=hG.part d7 M (p:=⟨nmK 112 g i,u,v,sz,mz,wt⟩) (d:=d) (by rw [d6]) d0 c4 (zb.mono ⋯ ⋯) m8;have l4:=hM.part hG a0 (p:=⟨nmK 112 g i,u,v,sz,mz,wt⟩) (d:=d) (by rw [d6]) d0 c4 zb mb;have l1:=Jjx hG M hT (z:=addF U.1.p (sgn d sz));rw [a6] at j2 l4 l1;obtain ⟨X,hX⟩:∃ X:SpD × List Str,X=(⟨nmK 102 g e.length,U.1.r,addF U.1.p (sgn d sz)⟩,U.2++[nmK 112 g i]):=⟨_,rfl⟩;have b6:(e++[X]).map (·.1)=e.map (·.1)++[⟨nmK 102 g e.length,U.1.r,addF U.1.p (sgn d sz)⟩]:=by rw [map_append,hX];rfl
   refine n8 _ _ ⟨_,_,_,_,_,_,_,_,_,_,_,_,_,px++[.ref pt],_,ls++[⟨nmK 112 g i,u,v,sz,mz,wt⟩],e++[X],rfl,fun b w h=>a4 _ _ (Jah h f2) (m _ _ (a5 _ _ (Jah h k3) (C _ _ (B _ _ h)))),a4 _ _ h6 (m _ _ i8),?_,p2,?_,by rw [b6];exact j2,by rw [hX];exact l4,by rw [b6];exact l1,by simp [d6],by simp;ac_nf,(fun _=>by simp),fun p hp=>by
    rcases mem_append.mp hp with hp | hp
    ·exact f7 p hp
    ·rw [mem_singleton.mp hp];exact i5⟩
   ·exact (hP.mono (P':=PDV K a1) fun _ _ z=>z.sameT f3).append (.one ⟨pt,_,_,rfl,SqT.of (Z _ _ rfl o3),FrV.of (Z _ _ rfl (d8 _ _ d2)),FrV.of (Z _ _ rfl (d8 _ _ c7))⟩)
   ·have g3:=hB.mono (P':=SNV K D l a1) fun _ _ z=>z.keep f3 W416;have ef:X.1.f=nmK 102 g e.length:=by rw [hX]
    have nX:(fun x:SpD × List Str=>x.1.f) X∉e.map (fun x=>x.1.f):=by
     show X.1.f∉_;rw [ef];rw [map_map] at a7;exact a7
    have m3:n2≠D:=fun z=>by rw [z] at I;rw [O _ _ (b8 _ _ i8)] at I;cases I
    have j7:n2≠l:=fun z=>by rw [z] at I;rw [O _ _ c8] at I;cases I
    have:=g3.new (a:=X) (v:=.ref nt) nX ⟨nt, .ref np,n2,rfl,by rw [hX];exact SqT.of (e0 _ _ rfl o4),by rw [hX];exact FrV.of (e0 _ _ rfl (g7 _ _ (f4 _ _ (O _ _ p1)))),m3,j7,a4 _ _ j7 (by rw [hX];rw [g7 _ _ k6];simp)⟩;rw [ef] at this;exact this
  ·intro N hN;have lk:=hB.length;have a6:(e.map (·.1)).length=e.length:=length_map ..;nofun;refine ⟨l,L,rfl,W,?_⟩;nofun;have k5:∀ (G:Hp) (tf rf lf:Addr),Same H3 G->H3 lf=none->G lf=some (.lst [])->G rf=some (.tup [.int 0, .int 1])->G tf=some (.tup [.str (nmK 102 g e.length), .ref rf, .ref lf])->∀ J,upd G l (.dK (putK L (Sum.inr (nmK 102 g e.length)) (.ref tf)))=J->N [some (.ref a),some (.int (g:Int)),some (.ref D),some (.ref l),some (.int (i:Int)),some (.int c1),some (.int mx),some (.str (nmK 102 g e.length)),v8,v9,a9,b4,c9,c3,b0,d1,b3] J:=fun G tf rf lf S' o m6 hr ht J u=>by
    have l8:=S' _ _ W;have p8:=putE u;have T':SameT G J:=SameT.put u l8 rfl;have fr:∀ b w,b≠l->G b=some w->J b=some w:=fun b w hb h=>by rw [<- u,Jag hb];exact h
    have T3:SameT H3 J:=S'.t.trans T';have W3:Same2 D l H3 J:=fun b u _ h2 h=>fr _ _ h2 (S' _ _ h);have np:lf≠D:=fun z=>by rw [z,ep] at o;cases o
    have k0:lf≠l:=fun z=>by rw [z,W] at o;cases o
    have k7:=hG.face;have k1:=hM.face hG;rw [a6] at k7 k1;obtain ⟨X,hX⟩:∃ X:SpD × List Str,X=(⟨nmK 102 g e.length,nmK 102 g e.length,(0,1)⟩,[]):=⟨_,rfl⟩;have b6:(e++[X]).map (·.1)=e.map (·.1)++[⟨nmK 102 g e.length,nmK 102 g e.length,(0,1)⟩]:=by rw [map_append,hX];rfl
    have h8:X.1.f=nmK 102 g e.length:=by rw [hX]
    have p0:X.1.r=nmK 102 g e.length:=by rw [hX]
    refine hN _ _ ⟨_,e++[X],X,by rw [h8],fun b w h=>fr _ _ (Jah h f2) (S' _ _ (S3 _ _ h)),fr _ _ h6 (S' _ _ ep),hP.mono (P':=PDV K J) (fun _ _ z=>z.sameT T3),p8,?_,by rw [b6];exact k7,by rw [hX];exact k1,by simp,fun s hs=>?_,by simp;ac_nf⟩
    ·have g3:=hB.mono (P':=SNV K D l J) fun _ _ z=>z.keep T3 W3;have nX:(fun x:SpD × List Str=>x.1.f) X∉e.map (fun x=>x.1.f):=by
      show X.1.f∉_;rw [h8];have a7:nmK 102 g e.length∉(e.map (·.1)).map (·.f):=hG.new (by rw [a6];exact Nat.le_refl _);rw [map_map] at a7;exact a7
     have:=g3.new (a:=X) (v:=.ref tf) nX ⟨tf, .ref rf,lf,rfl,by rw [hX];exact SqT.of (T' _ _ rfl ht),by rw [hX];exact FrV.of (T' _ _ rfl hr),np,k0,by rw [hX];exact fr _ _ k0 m6⟩;rw [h8] at this;exact this
    ·rw [b6] at hs ⊢;rcases mem_append.mp hs with hs | hs
     ·obtain ⟨t,h1,h2,h3⟩:=hT s hs;exact .inr ⟨t,mem_append.mpr (.inl h1),h2,h3⟩
     ·rw [mem_singleton.mp hs,p0];exact .inl rfl
   by_cases z0:e.length=0
   ·rw [if_pos (by rw [decide_eq_true_iff];ac_nf)];nofun;refine ⟨l,L,rfl,W,?_⟩;refine ⟨_,_,_,102,e.length,rfl,b7,by ac_nf,by ac_nf,by ac_nf,by ac_nf,?_⟩;rw [Int.toNat_natCast];nofun;refine ⟨len2,?_⟩;rename_i rf j3 i1 H3 S B e4;nofun;refine ⟨len0,?_⟩;rename_i lf o l3 S g8 Y g6;nofun;refine ⟨by show 3<=sizeLine;ac_nf,?_⟩;rename_i tf i4 l5 g8 H5 S5 e5;nofun;refine ⟨l,_,rfl,DPut.k (k:=Sum.inr (nmK 102 g e.length)) (S5 _ _ (Y _ _ (B _ _ W))) ∅,?_⟩;exact k5 H5 tf rf lf (B.trans (Y.trans S5)) (Jb9 B o) (S5 _ _ g6) (S5 _ _ (Y _ _ e4)) e5 _ rfl
   ·rw [if_neg (by rw [decide_eq_true_iff];ac_nf)];nofun;nofun;repeat (refine And.intro (by first | exact JaV ⋯ | exact JaY ⋯ | exact JaW ⋯ | exact JaF ⋯ | exact Int.one_ne_zero | decide) ?_)
    by_cases c6:(mx.fdiv 4096).fmod 6=1
    ·rw [if_pos (by simpa using c6)];nofun;refine ⟨l,L,rfl,W,?_⟩;refine ⟨_,_,_,102,e.length,rfl,b7,by ac_nf,by ac_nf,by ac_nf,by ac_nf,?_⟩;rw [Int.toNat_natCast];nofun;refine ⟨len2,?_⟩;rename_i rf j3 i1 H3 S B e4;nofun;refine ⟨len0,?_⟩;rename_i lf o l3 S g8 Y g6;nofun;refine ⟨by show 3<=sizeLine;ac_nf,?_⟩;rename_i tf i4 l5 g8 H5 S5 e5;nofun;refine ⟨l,_,rfl,DPut.k (k:=Sum.inr (nmK 102 g e.length)) (S5 _ _ (Y _ _ (B _ _ W))) ∅,?_⟩;exact k5 H5 tf rf lf (B.trans (Y.trans S5)) (Jb9 B o) (S5 _ _ g6) (S5 _ _ (Y _ _ e4)) e5 _ rfl
    ·rw [if_neg (by simpa using c6)];nofun;refine ⟨l,L,e.map (·.1.f),rfl,W,by rw [hB.1,map_map];rfl,by rw [length_map];ac_nf,fun l9 g0 k9 j5=>?_⟩;generalize u4:upd H3 l9 _=S;nofun;have B:=newS k9 u4;have e4:=newE u4;nofun;refine ⟨l,L,rfl,B _ _ W,?_⟩;nofun;have lo:g0.length=e.length:=by rw [j5.1.length_eq,length_map]
     refine ⟨by ac_nf,?_⟩;have qj:=Mth.fm (x:=mx) (y:=(L.length:Int)) ∅;obtain ⟨j,hj⟩:=Int.eq_ofNat_of_zero_le qj.1;rw [hj] at qj ⊢;have jl:j<g0.length:=by ac_nf
     obtain ⟨s0,a0,ef⟩:=mem_map.mp (j5.1.mem_iff.mp (List.getElem_mem jl));refine ixL (i:=j) (SqL.of e4) (by rw [List.getElem?_map,List.getElem?_eq_getElem jl];rfl) ?_;nofun;have ef:s0.1.f=g0[j]:=ef;rw [<- ef];exact hN _ _ ⟨L,e,s0,rfl,S3.trans B,B _ _ ep,hP.mono (P':=PDV K S) (fun _ _ z=>z.sameT B.t),B _ _ W,hB.mono (P':=SNV K D l S) (fun _ _ z=>z.same B),hG,hM,a0,fun s hs=>.inr (hT s hs),by ac_nf⟩
 ·rintro σ H3 ⟨v4,v5,v6,v7,v8,v9,a9,b4,c9,c3,b0,d1,b3,px,L,ls,e,rfl,S3,ep,hP,W,hB,hG,hM,hT,d6,h5,g2,f7⟩;nofun;refine ⟨len2,?_⟩;rename_i q t0 t8 H3 S B e4;nofun;exact k q D l px L ls e S (S3.trans B) e4 (B _ _ ep) (hP.mono (P':=PDV K S) fun _ _ z=>z.sameT B.t) (B _ _ W) (hB.mono (P':=SNV K D l S) fun _ _ z=>z.same B) hG hM hT ∅ ∅ ∅ f7 (g2 ∅)
abbrev BaO:Stmt:=top 56
theorem Jci:Jan ["_law_script","_law_parts_here","_law_kept","_law_k"] ["_law_script","_law_parts_here"] (Jae BaO):=by bv_decide
def Jcp (K:W.Frag):Sp:=fun vs H Q E=>∃ (a c:Addr) (ns:List Int) (px:List V) (ls:List PD),vs=[.ref a, .ref c]/\SqL K H a (ns.map V.int)/\ns.length<=63/\SqL K H c px/\All2 (PDV K H) ls px/\ls.length<=8/\∀ l ys ks H',Same H H'->H' l=some (.lst ys)->All2 (PDV K H') ks ys->ks.Perm ls->Q (.ref l) H'
theorem Je8 (F:FunD K "_law_listed" "_law_listed" BaO dV f fd) (T:Txt K mg Ad) (Bae:Cal P w K mg base 1 "_law_cell" ["_law_script","_law_k"] [] (JbB K)):FnOk P w K mg base (CX1 P w) 2 f fd ["_law_script","_law_parts_here"] (Jcp K):=by
 refine F.okn Jci (by subst_eqs) (fun a0 A G s H vs Q E hr h=>?_)
 obtain ⟨a,c,L,px,g,rfl,h⟩:=h;refine ⟨_,(Jab (Jaj (i:=2) Jci.nd rfl (Or.inl rfl) (JaX Jad))
   (Jab (Ja0 PassesOwn.never rfl (JcC rfl T.Bcm (Jaa (Jat Ja8 rfl T.BbE Jbs (Jaa (pv 1) Jad)) Jad)) (Jap (i:=3) Jci.nd rfl (Or.inl rfl))
   (Jai (Ja7 (pe_bm PySem.F.plainAttrs_list PySem.F.slot_list_insert PySem.F.type_list_insert Jh7 (pv 2) (Jaa (pe_op JaA (pe_op Jas (pe_op JaA (pe_op Jax (Bae.ev hr ⋯ rfl passF (Jaa (pv 0) (Jaa (pe_op Ja1 Jac (pe_op Jax Jac (pv 3))) Jad)) (he:=by exact Jaf rfl)) Jac) Jac) Jac) (pe_op Ja1 Jac (pv 3))) (Jaa (pe_ix ix_U (pv 1) (pv 3) (fun _ _=>rfl)) Jad))))))
   (Jai (Jaq (pv 2))))),?_⟩
 obtain ⟨hS,hl,W,S,h8,k⟩:=h;have sl:(1000:Nat)<=sizeLine:=by decide
 have lp:=S.length;show tSeq _ _ _ [some (.ref a),some (.ref c),none,none] H;nofun;refine ⟨len0,?_⟩;rename_i r q O H H1 R e1;nofun;refine ⟨_, .inl (W.same R),?_⟩;nofun;refine ⟨_,rfl,by ac_nf,by ac_nf,?_⟩;refine ForR.by (fun i σ I=>∃ (C:Option V) (j:List V) (d:List PD),σ=[some (.ref a),some (.ref c),some (.ref r),C]/\Same H I/\I r=some (.lst j)/\All2 (PDV K I) d j/\d.Perm (g.take i)) ⟨none,[],[],rfl,R,e1,rfl,by simp⟩ ?_ ?_
 ·rintro i σ B hi ⟨C,j,d,rfl,e,o,v,m⟩;have M:i<g.length:=by ac_nf
  have Z:d.length=i:=by rw [m.length_eq,length_take];ac_nf
  have a1:=v.length;obtain ⟨U,D,pv⟩:=S.get (List.getElem?_eq_getElem M);rw [Int.zero_add];nofun;refine ⟨.inl ⟨rfl,_,SqL.of o⟩,?_⟩;repeat (refine And.intro (by first | exact JaV ⋯ | exact JaY ⋯ | exact JaW ⋯ | exact JaF ⋯ | exact Int.one_ne_zero | decide) ?_)
  refine ⟨a,L,_,rfl,hS.same e,hl,by ac_nf,by ac_nf,fun c1=>?_⟩;nofun;repeat (refine And.intro (by first | exact JaV ⋯ | exact JaY ⋯ | exact JaW ⋯ | exact JaF ⋯ | exact Int.one_ne_zero | decide) ?_)
  refine ⟨by ac_nf,?_⟩;have Y:=Mth.fm (x:=((c1*16807).fmod 2147483587).fdiv 37) (y:=1+(i:Int)) ∅;obtain ⟨n,hn⟩:=Int.eq_ofNat_of_zero_le Y.1;rw [hn] at Y ⊢;refine ixL (i:=i) (W.same e) D ?_;nofun;refine ⟨r,j,U,n,rfl,rfl,o,by ac_nf,by ac_nf,?_⟩;generalize J:upd B r _=N;nofun;have e3:=putE J;have X:SameT B N:=SameT.put J o rfl;have p:=v.mono (P':=PDV K N) fun _ _ z=>z.sameT X;refine ⟨_,_,d.take n++g[i]::d.drop n,rfl,fun b u h=>by rw [<- J,Jag (Jah h q)];exact e _ _ h,e3,(p.take n).append ⟨U,_,rfl,(pv.sameT e.t).sameT X,p.drop n⟩,?_⟩;rw [take_succ,List.getElem?_eq_getElem M];refine List.Perm.trans List.perm_middle ?_;rw [List.take_append_drop];refine List.Perm.trans (List.Perm.cons _ m) ?_;exact (List.perm_append_comm (l₁:=[g[i]]) (l₂:=g.take i))
 ·rintro σ B ⟨C,j,d,rfl,e,o,v,m⟩;rw [take_of_length_le ∅] at m;nofun;exact k r j d B e o v m
abbrev Ba6:Stmt:=top 57
theorem Jau:Jan ["_law_script","_law_spots","_law_style","_law_gaps_here","_law_rows","_law_k","_law_cell_here","_law_mixed","_law_faces","_law_one","_law_same","_law_two","_law_middle","_law_other","_law_far","_law_below","_law_above","_law_name_here","_law_room","_law_here","_law_there","_law_names"] ["_law_script","_law_spots","_law_style"] (Jae Ba6):=by bv_decide
def Jc0 (K:W.Frag):Sp:=fun vs H Q E=>∃ (a sd c1 c2:Addr) (ns:List Int) (st:Nat) (kv:List (Key × V)) (ls:List PD) (xs:List (SpD × List Str)),vs=[.ref a, .ref sd, .int (st:Int)]/\SqL K H a (ns.map V.int)/\ns.length<=63/\st<=3/\H sd=some (.dK kv)/\BG (·.1.f) (SNV K c1 c2 H) xs kv/\Grn st ls (xs.map (·.1))/\Nms ls xs/\Two (xs.map (·.1))/\ls.length<=8/\xs.length<=16/\xs≠[]/\∀ q gl dl gx dx es H',Same H H'->H' q=some (.tup [.ref gl, .ref dl])->H' gl=some (.lst gx)->All2 (fun (e:GD × List Str) x=>TV K H' e.1.td x) es gx->H' dl=some (.lst dx)->All2 (RWT K gl dl (spOf (xs.map (·.1))) H') es dx->(∀ e∈es,GOQ ls xs e)->(∀ (i:Nat) (e:GD × List Str),es[i]?=some e->∃ s,e.1.nm=nmK s st i)->es.length<=6->Q (.ref q) H'
theorem Jgq (F:FunD K "_law_gaps" "_law_gaps" Ba6 dV f fd) (T:Txt K mg Ad) (Bae:Cal P w K mg base 1 "_law_cell" ["_law_script","_law_k"] [] (JbB K)) (BaN:Cal P w K mg base 1 "_law_name" ["_law_k","_law_sign","_law_style"] [] (Jcq)) (Baw:Cal P w K mg base 1 "_law_low" ["_law_top","_law_bottom"] [] (Jcd)) (Ban:Cal P w K mg base 2 "_law_plus" ["_law_one","_law_other","_law_sign"] [] (JbU K)):FnOk P w K mg base (CX1 P w) 3 f fd ["_law_script","_law_spots","_law_style"] (Jc0 K):=by
 refine F.okn Jau (by subst_eqs) (fun u6 A r9 s H vs Q E hr h=>?_)
 obtain ⟨a,sd,c1,c2,ns,st,kv,ls,xs,rfl,h⟩:=h;have R:=hr.units;refine ⟨_,(Jab (Jaj (i:=3) Jau.nd rfl (Or.inl rfl) (JaX Jad))
   (Jab (Jaj (i:=4) Jau.nd rfl (Or.inl rfl) (JaX Jad))
   (Jab (Ja0 PassesOwn.never rfl (JcC rfl T.Bcm (Jaa (pe_op JaA (Bae.ev hr ⋯ rfl passF (Jaa (pv 0) (Jaa Jac Jad)) (he:=by exact Jaf rfl)) Jac) Jad)) (Jap (i:=5) Jau.nd rfl (Or.inl rfl))
   (Jab (Jaj (i:=6) Jau.nd rfl (Or.inl rfl) (Bae.ev hr ⋯ rfl passF (Jaa (pv 0) (Jaa (pe_op Ja1 Jac (pe_op Jax Jac (pv 5))) Jad)) (he:=by exact Jaf rfl)))
   (Jab (Jaj (i:=7) Jau.nd rfl (Or.inl rfl) (pe_op Jas (pe_op JaA (pe_op Jax (pv 6) Jac) Jac) Jac))
   (Jab (Jaj (i:=8) Jau.nd rfl (Or.inl rfl) (Jat (JeF rfl) rfl T.Bdz Jfz (Jaa (pv 1) Jad)))
   (Jab (Jaj (i:=9) Jau.nd rfl (Or.inr rfl) (pe_ix ix_U (pv 8) (pe_op JaA (pv 7) (Jat Ja8 rfl T.BbE Jbs (Jaa (pv 8) Jad))) (fun _ _=>rfl)))
   (Jab (JcV (j:=10) (own:=["_law_face"]) (cs:=[(9,"_law_one"),(1,"_law_spots")]) Jau.nd rfl (Or.inl rfl) rfl (pi_U (pv 8)) (fun _ _ _ _=>(Jap (i:=0) (show [("_law_face" : Str),("_law_one" : Str),("_law_spots" : Str)].Nodup by decide) rfl (Or.inl rfl))) (fun _ _ _ _=>(PW.pt (JjM (Jaz (Jlt (K:=K) rfl R) (pv 0) (pv 1) (JaC _)) (Jix (Jaz (Jlq (K:=K) rfl R) (pe_ix (ix_UK (K:=K) rfl) (JaQ (hu1 R) (pv 2) (pv 0) (fun _ _=>rfl)) Jac (fun _ _=>rfl)) (pe_ix (ix_UK (K:=K) rfl) (JaQ (hu1 R) (pv 2) (pv 1) (fun _ _=>rfl)) Jac (fun _ _=>rfl)) (JaC _)))))) (fun _ _ _ _=>(pv 0)) (JdW rfl) ⋯ rfl ⋯ (hcs2 rfl rfl rfl rfl rfl rfl))
   (Jab (Jaj (i:=11) Jau.nd rfl (Or.inl rfl) (pe_ix ix_U (pv 10) (pe_op JaA (pe_op Jas (pv 7) Jac) (Jat Ja8 rfl T.BbE Jbs (Jaa (pv 10) Jad))) (fun _ _=>rfl)))
   (Jab (Jaj (i:=12) Jau.nd rfl (Or.inl rfl) (Ban.ev hr ⋯ rfl passF (Jaa (pe_ix ix_U (JaQ (hu1 R) (pv 1) (pv 11) (fun _ _=>rfl)) Jac (fun _ _=>rfl)) (Jaa (pe_ix ix_U (JaQ (hu1 R) (pv 1) (pv 9) (fun _ _=>rfl)) Jac (fun _ _=>rfl)) (Jaa (pe_un Jf2 Jac) Jad))) (he:=by exact Jaf rfl)))
   (Jab (Jaj (i:=13) Jau.nd rfl (Or.inl rfl) (Bae.ev hr ⋯ rfl passF (Jaa (pv 0) (Jaa (pe_op Ja1 Jac (pe_op Jax Jac (pv 5))) Jad)) (he:=by exact Jaf rfl)))
   (Jab (Jaj (i:=14) Jau.nd rfl (Or.inl rfl) (pe_ix ix_U (JaX (Jaa Jac (Jaa Jac (Jaa (pe_op Jfd Jac Jac) Jad)))) (pe_op JaA (pe_op Jas (pv 7) Jac) Jac) (fun _ _=>rfl)))
   (Jab (Jaj (i:=15) Jau.nd rfl (Or.inl rfl) (Baw.ev hr ⋯ rfl passF (Jaa (pe_op JaA (pv 13) (pv 14)) (Jaa (pe_op Ja1 Jac (pe_op JaA (pe_op Jas (pv 7) Jac) Jac)) Jad)) (he:=by exact Jaf rfl)))
   (Jab (Jaj (i:=16) Jau.nd rfl (Or.inl rfl) (Baw.ev hr ⋯ rfl passF (Jaa (pe_op JaA (pe_op Jas (pv 13) Jac) (pv 14)) (Jaa (pe_op Ja1 Jac (pe_op JaA (pe_op Jas (pv 7) Jac) Jac)) Jad)) (he:=by exact Jaf rfl)))
   (Jab (Jaj (i:=17) Jau.nd rfl (Or.inl rfl) (BaN.ev hr ⋯ rfl passF (Jaa (pv 5) (Jaa (pe_ix ix_U (JaX (Jaa Jbu (Jaa Jbu Jad))) (pe_op JaA (pe_op Jas (pv 7) Jac) Jac) (fun _ _=>rfl)) (Jaa (pv 2) Jad))) (he:=by exact Jaf rfl)))
   (Jab (Ja7 (pe_bm PySem.F.plainAttrs_list PySem.F.slot_list_append PySem.F.type_list_append JaZ (pv 3) (Jaa (JaG (Jaa (pv 17) (Jaa (pv 9) (Jaa (pv 11) (Jaa (Ban.ev hr ⋯ rfl passF (Jaa (pv 12) (Jaa (pv 15) (Jaa (pe_un Jf2 Jac) Jad))) (he:=by exact Jaf rfl)) (Jaa (Ban.ev hr ⋯ rfl passF (Jaa (pv 12) (Jaa (pv 16) (Jaa Jac Jad))) (he:=by exact Jaf rfl)) Jad)))))) Jad) (hs:=by exact Jaf rfl)))
   (Jab (Jaj (i:=18) Jau.nd rfl (Or.inl rfl) (pe_ix ix_U (JaX (Jaa (pv 16) (Jaa (pv 15) Jad))) (JcB JfA rfl T.BdU JhG (Jaa (Jbv JeP (pe_op Jax (pe_ix ix_U (pv 15) Jac (fun _ _=>rfl)) (pe_ix ix_U (pv 16) Jac (fun _ _=>rfl))) (pe_op Jax (pe_ix ix_U (pv 16) Jac (fun _ _=>rfl)) (pe_ix ix_U (pv 15) Jac (fun _ _=>rfl))) (JaC _)) Jad)) (fun _ _=>rfl)))
   (Jab (Jaj (i:=19) Jau.nd rfl (Or.inr rfl) (pe_ix ix_U (JaQ (hu1 R) (pv 1) (pv 9) (fun _ _=>rfl)) Jac (fun _ _=>rfl)))
   (Jab (Jaj (i:=20) Jau.nd rfl (Or.inr rfl) (pe_ix ix_U (JaQ (hu1 R) (pv 1) (pv 11) (fun _ _=>rfl)) Jac (fun _ _=>rfl)))
   (Jab (Jaj (i:=21) Jau.nd rfl (Or.inl rfl) (pe_op Ja1 (Jeh (own:=["_law_word"]) (cs:=[(20,"_law_there")]) rfl (pi_U (pv 19)) (fun _ _ _ _=>(Jap (i:=0) (show [("_law_word" : Str),("_law_there" : Str)].Nodup by decide) rfl (Or.inl rfl))) (fun _ _ _ _=>(Jaz (JfS (K:=K) rfl) (pv 0) (pv 1) (by with_unfolding_all rfl))) (fun _ _ _ _=>(pv 0)) (JdW rfl) ⋯ rfl ⋯ (hcs1 rfl rfl rfl)) (Jeh (own:=["_law_word"]) (cs:=[(19,"_law_here")]) rfl (pi_U (pv 20)) (fun _ _ _ _=>(Jap (i:=0) (show [("_law_word" : Str),("_law_here" : Str)].Nodup by decide) rfl (Or.inl rfl))) (fun _ _ _ _=>(Jaz (JfS (K:=K) rfl) (pv 0) (pv 1) (by with_unfolding_all rfl))) (fun _ _ _ _=>(pv 0)) (JdW rfl) ⋯ rfl ⋯ (hcs1 rfl rfl rfl))))
   (Jai (Ja7 (pe_bm PySem.F.plainAttrs_list PySem.F.slot_list_append PySem.F.type_list_append JaZ (pv 4) (Jaa (JaG (Jaa (pv 17) (Jaa (pv 18) (Jaa (pv 21) Jad)))) Jad) (hs:=by exact Jaf rfl))))))))))))))))))))))
   (Jai (Jaq (JaG (Jaa (pv 3) (Jaa (pv 4) Jad)))))))),?_⟩
 clear R;obtain ⟨hS,hl,i1,ed,hB,hG,hM,hT,h7,v4,n9,k⟩:=h;have sl:(1000:Nat)<=sizeLine:=by decide
 have lk:=hB.length;have v2:(xs.map (·.1)).length=xs.length:=length_map ..;have w0:1<=xs.length:=by cases xs with | nil=>exact absurd rfl n9 | cons _ _=>simp
 show tSeq _ _ _ [some (.ref a),some (.ref sd),some (.int (st:Int)),none,none,none,none,none,none,none,none,none,none,none,none,none,none,none,none,none,none,none] H;nofun;refine ⟨len0,?_⟩;rename_i gl a7 t7 H H1 S1 e1;nofun;refine ⟨len0,?_⟩;rename_i dl b5 u1 H1 H2 S2 e2;nofun;refine ⟨a,ns,1,rfl,(hS.same S1).same S2,hl,by decide,by decide,fun c0=>?_⟩;nofun;repeat (refine And.intro (by first | exact JaV ⋯ | exact JaY ⋯ | exact JaW ⋯ | exact JaF ⋯ | exact Int.one_ne_zero | decide) ?_)
 have q0:=Mth.fm (x:=c0) (y:=7) ⋯;refine ⟨_,rfl,by ac_nf,by ac_nf,?_⟩;have j3:gl≠dl:=fun z=>by rw [<- z,e1] at b5;cases b5
 have a8:=Jb9 S1 b5;replace hB:=hB.mono (P':=SNV K gl dl H) fun _ _ ⟨b,w,l,U,X,h3,_,_,h6⟩=>⟨b,w,l,U,X,h3,Jah h6 a7,Jah h6 a8,h6⟩;refine ForR.byN (fun i σ W=>∃ (v5 v6 v7 v8 v9 f2 f7 i2 h0 f3 i7 f5 g5 i4 i5 g7 f9:Option V) (gx dx:List V) (es:List (GD × List Str)),σ=[some (.ref a),some (.ref sd),some (.int (st:Int)),some (.ref gl),some (.ref dl),v5,v6,v7,v8,v9,f2,f7,i2,h0,f3,i7,f5,g5,i4,i5,g7,f9]/\Same H W/\W gl=some (.lst gx)/\All2 (fun (e:GD × List Str) x=>TV K W e.1.td x) es gx/\W dl=some (.lst dx)/\All2 (RWT K gl dl (spOf (xs.map (·.1))) W) es dx/\(∀ e∈es,GOQ ls xs e)/\(∀ (i:Nat) (e:GD × List Str),es[i]?=some e->∃ s,e.1.nm=nmK s st i)/\es.length=i) ⟨none,none,none,none,none,none,none,none,none,none,none,none,none,none,none,none,none,[],[],[],rfl,S1.trans S2,S2 _ _ e1,rfl,e2,rfl,(fun g hg=>by cases hg),(fun i g hi=>by cases hi),rfl⟩ ?_ ?_
 ·rintro i σ H3 hi ⟨v5,v6,v7,v8,v9,f2,f7,i2,h0,f3,i7,f5,g5,i4,i5,g7,f9,gx,dx,es,rfl,S3,eg,hX,el,hD,f8,g2,i0⟩ N0 p1;have i6:i<6:=by ac_nf
  have i8:=S3 _ _ ed;have k5:=hB.mono (P':=SNV K gl dl H3) fun _ _ z=>z.same S3;rw [Int.zero_add];nofun;repeat (refine And.intro (by first | exact JaV ⋯ | exact JaY ⋯ | exact JaW ⋯ | exact JaF ⋯ | exact Int.one_ne_zero | decide) ?_)
  refine ⟨a,ns,_,rfl,hS.same S3,hl,by ac_nf,by ac_nf,fun h8=>?_⟩;nofun;repeat (refine And.intro (by first | exact JaV ⋯ | exact JaY ⋯ | exact JaW ⋯ | exact JaF ⋯ | exact Int.one_ne_zero | decide) ?_)
  (try ((with_reducible refine Nxt.go (by assumption) ?_);nofun))
  generalize ((h8*39373).fmod 2147483629).fdiv 37=mx;refine ⟨sd,kv,xs.map (·.1.f),rfl,i8,by rw [k5.1,map_map];rfl,by rw [length_map];ac_nf,fun fl L k9 d1=>?_⟩;generalize u4:upd H3 fl _=H4;nofun;have S4:=newS k9 u4;have e4:=newE u4;have g4:=S4 _ _ i8;have g6:=k5.mono (P':=SNV K gl dl H4) fun _ _ z=>z.same S4;have lo:L.length=xs.length:=by rw [d1.1.length_eq,length_map]
  nofun;refine ⟨_, .inl (SqL.of e4),?_⟩;try simpa only [length_map]
  refine ⟨by ac_nf,?_⟩;have qj:=Mth.fm (x:=mx) (y:=(L.length:Int)) ∅;obtain ⟨j,hj⟩:=Int.eq_ofNat_of_zero_le qj.1;rw [hj] at qj ⊢;have jl:j<L.length:=by ac_nf
  obtain ⟨s1,M,ef⟩:=mem_map.mp (d1.1.mem_iff.mp (List.getElem_mem jl));refine ixL (i:=j) (SqL.of e4) (by rw [List.getElem?_map,List.getElem?_eq_getElem jl];rfl) ?_;have ef:s1.1.f=L[j]:=ef;rw [<- ef];clear qj hj;nofun;obtain ⟨d,u9,q6,q7,i3,u3,w1,l1,rfl,c4,o3,s4,_,n1⟩:=g6.some (z:=s1.1.f) (mem_map.mpr ⟨s1,M,rfl⟩);have t1:=JdD hG q6 M q7;subst t1;refine ⟨fl,rfl, .inl ⟨⟨_,SqL.of e4⟩,JbW.list (xs:=L.map V.str) (fun i ys W=>W=H4/\∃ fs:List Str,ys=fs.map V.str/\fs.length<=i/\(∀ f∈fs, ∃ t∈xs,t.1.f=f/\t.1.f≠d.1.f/\t.1.r=d.1.r)/\(∀ t∈xs,t.1.f∈L.take i->t.1.f≠d.1.f->t.1.r=d.1.r->t.1.f∈fs)) ⟨rfl,[],rfl,Nat.zero_le _,(fun f hf=>by cases hf),fun t _ h=>by simp at h⟩ (fun i ys W hi z=>by
   obtain ⟨rfl,fs,rfl,hf,_⟩:=z;rw [length_map] at hi ⊢;exact ⟨SqL.of e4,by ac_nf⟩) ?_ ?_⟩⟩
  ·rintro m y ys H5 S ⟨rfl,fs,rfl,j5,c8,c7⟩;have lm:=(List.getElem?_eq_some_iff.mp S).1;rw [length_map] at lm;rw [List.getElem?_map,List.getElem?_eq_getElem lm] at S;have S:y=.str L[m]:=(Option.some.inj S).symm;subst S;obtain ⟨t,ht,d2⟩:=mem_map.mp (d1.1.mem_iff.mp (List.getElem_mem lm));have d2:t.1.f=L[m]:=d2;rw [<- d2];obtain ⟨o,vt,g1,h5,d6,l9,wt,lt,rfl,a9,j0,_⟩:=g6.some (z:=t.1.f) (mem_map.mpr ⟨t,ht,rfl⟩);have et:=JdD hG g1 ht h5;subst et;have e3:∀ (u:SpD × List Str),u∈xs->u.1.f∈L.take (m+1)->u.1.f∈L.take m\/u=o:=fun u R h=>by
    rw [take_succ,List.getElem?_eq_getElem lm] at h;rcases mem_append.mp h with h | h
    ·exact .inl h
    ·have : u.1.f=L[m]:=by simpa using h
     exact .inr (JdD hG R ht (this.trans d2.symm))
   simpa only [length_singleton,length_cons,length_nil,List.replicate,JaB,map_cons,map_nil,Option.join_some];have d7:(¬ (o.1.f≠d.1.f/\o.1.r=d.1.r))->∃ fs_1:List Str,fs.map V.str=fs_1.map V.str/\fs_1.length<=m+1/\(∀ f∈fs_1, ∃ t∈xs,t.1.f=f/\t.1.f≠d.1.f/\t.1.r=d.1.r)/\∀ t∈xs,t.1.f∈L.take (m+1)->t.1.f≠d.1.f->t.1.r=d.1.r->t.1.f∈fs_1:=fun s5=>⟨fs,rfl,by ac_nf,c8,fun u R hk U X=>by
    rcases e3 u R hk with h | rfl
    ·exact c7 u R h U X
    ·exact absurd ⟨U,X⟩ s5⟩
   by_cases c1:o.1.f=d.1.f
   ·rw [if_neg (by simpa using c1)];nofun;exact d7 fun h=>h.1 c1
   ·rw [if_pos (by simpa using c1)];nofun;refine ⟨sd,_,rfl,by rw [<- d6];exact DGet.k (k:=Sum.inr o.1.f) g4,?_⟩;refine ixT (i:=0) a9 rfl ?_;refine ⟨sd,_,rfl,by rw [<- i3];exact DGet.k (k:=Sum.inr d.1.f) g4,?_⟩;refine ixT (i:=0) c4 rfl ?_;nofun;by_cases c2:o.1.r=d.1.r
    ·rw [if_pos (by simpa using c2)];nofun;refine ⟨fs++[o.1.f],by simp,by simp;ac_nf,fun f hf=>?_,fun u R hk U X=>?_⟩
     ·rcases mem_append.mp hf with h | h
      ·exact c8 f h
      ·rw [mem_singleton.mp h];exact ⟨o,ht,rfl,c1,c2⟩
     ·rcases e3 u R hk with h | rfl
      ·exact mem_append.mpr (.inl (c7 u R h U X))
      ·simp
    ·rw [if_neg (by simpa using c2)];nofun;exact d7 fun h=>c2 h.2
  ·rintro ys H5 ⟨rfl,fs,rfl,j5,c8,c7⟩;have w6:1<=fs.length:=by
    obtain ⟨t0,o8,U,X⟩:=hT d.1 (mem_map.mpr ⟨d,M,rfl⟩);obtain ⟨t,ht,rfl⟩:=mem_map.mp o8;have:=c7 t ht (by rw [take_of_length_le (by rw [length_map];ac_nf)];exact d1.1.mem_iff.mpr (mem_map.mpr ⟨t,ht,rfl⟩)) U X;cases fs with
    | nil=>cases this
    | cons _ _=>simp
   rw [length_map] at j5;rename_i v1 n6 p7 H5 H6 S6 e6;nofun;nofun;repeat (refine And.intro (by first | exact JaV ⋯ | exact JaY ⋯ | exact JaW ⋯ | exact JaF ⋯ | exact Int.one_ne_zero | decide) ?_)
   refine ⟨_, .inl (SqL.of e6),?_⟩;try simpa only [length_map]
   refine ⟨by ac_nf,?_⟩;have qk:=Mth.fm (x:=mx.fdiv 64) (y:=(fs.length:Int)) ∅;obtain ⟨j2,p4⟩:=Int.eq_ofNat_of_zero_le qk.1;rw [p4] at qk ⊢;have j1:j2<fs.length:=by ac_nf
   obtain ⟨t,ht,h5,p8,l7⟩:=c8 _ (List.getElem_mem j1);refine ixL (i:=j2) (SqL.of e6) (by rw [List.getElem?_map,List.getElem?_eq_getElem j1];rfl) ?_;rw [<- h5];obtain ⟨o,vt,g1,k4,d6,l9,wt,l2,rfl,a9,j0,l6,_,l8⟩:=g6.some (z:=t.1.f) (mem_map.mpr ⟨t,ht,rfl⟩);have et:=JdD hG g1 ht k4;subst et;nofun;have k8:=S6 _ _ g4;refine ⟨sd,_,rfl,by rw [<- d6];exact DGet.k (k:=Sum.inr o.1.f) k8,?_⟩;refine ixT (i:=1) (a9.same S6) rfl ?_;refine ⟨sd,_,rfl,by rw [<- i3];exact DGet.k (k:=Sum.inr d.1.f) k8,?_⟩;refine ixT (i:=1) (c4.same S6) rfl ?_;nofun;have tb:FB 174 33 o.1.p:=(hM.fb o ht).mono ∅ ∅;have sb:FB 174 33 d.1.p:=(hM.fb d M).mono ∅ ∅;refine ⟨wt,w1,_,o.1.p,d.1.p,false,rfl,rfl,j0.same S6,o3.same S6,tb.w.mono ∅ ∅,sb.w.mono ∅ ∅,fun mp H7 S7 e7=>?_⟩;have q4:=hG.pl_at (mem_map.mpr ⟨o,ht,rfl⟩);have n7:=hG.pl_at (mem_map.mpr ⟨d,M,rfl⟩);have mb:FB 208 66 (addF o.1.p (sgn false d.1.p)):=FB.add (n:=207) (m:=66) tb sb.neg ⋯ ⋯ ⋯;have p0:∀ (g:GD),g.st=d.1.f->g.en=o.1.f->mid (spOf (xs.map (·.1))) g=addF o.1.p (sgn false d.1.p):=fun g U X=>by
    unfold mid;rw [U,X,q4,n7];rfl
   generalize addF o.1.p (sgn false d.1.p)=m at *;nofun;repeat (refine And.intro (by first | exact JaV ⋯ | exact JaY ⋯ | exact JaW ⋯ | exact JaF ⋯ | exact Int.one_ne_zero | decide) ?_)
   have k1:=S4.trans (S6.trans S7);refine ⟨a,ns,_,rfl,(hS.same S3).same k1,hl,by ac_nf,by ac_nf,fun v=>?_⟩;nofun;repeat (refine And.intro (by first | exact JaV ⋯ | exact JaY ⋯ | exact JaW ⋯ | exact JaF ⋯ | exact Int.one_ne_zero | decide) ?_)
   rename_i u7 n8 r0 H7 w5 c9 p3;nofun;repeat (refine And.intro (by first | exact JaV ⋯ | exact JaY ⋯ | exact JaW ⋯ | exact JaF ⋯ | exact Int.one_ne_zero | decide) ?_)
   have q3:=Mth.fm (x:=mx.fdiv 256) (y:=3) ⋯;obtain ⟨n3,l0⟩:=Int.eq_ofNat_of_zero_le q3.1;rw [l0] at q3 ⊢;obtain ⟨om,p9,o1,o2⟩:∃ om:Int,[V.int 23, .int 23, .int 1000000000000000000000000000000][n3]?=some (.int om)/\1<=om/\om<=1000000000000000000000000000000:=JlA ∅;refine ixL (i:=n3) (SqL.of p3) p9 ?_;clear q3 l0;nofun;have qx:=Mth.fm (x:=v) (y:=om) ∅;have qy:=Mth.fm (x:=v.fdiv 23) (y:=om) ∅;have qd:=Mth.fm (x:=mx.fdiv 1024) (y:=5) ⋯;have r8:=Mth.fm (x:=mx.fdiv 8192) (y:=5) ⋯;refine ⟨by ac_nf,?_⟩;repeat (refine And.intro (by first | exact JaV ⋯ | exact JaY ⋯ | exact JaW ⋯ | exact JaF ⋯ | exact Int.one_ne_zero | decide) ?_)
   refine ⟨_,_,rfl,by ac_nf, .lit ∅ ∅,fun bp H8 S8 e8=>?_⟩;nofun;repeat (refine And.intro (by first | exact JaV ⋯ | exact JaY ⋯ | exact JaW ⋯ | exact JaF ⋯ | exact Int.one_ne_zero | decide) ?_)
   refine ⟨by ac_nf,?_⟩;nofun;repeat (refine And.intro (by first | exact JaV ⋯ | exact JaY ⋯ | exact JaW ⋯ | exact JaF ⋯ | exact Int.one_ne_zero | decide) ?_)
   refine ⟨_,_,rfl,by ac_nf, .lit ∅ ∅,fun ap H9 S9 e9=>?_⟩;have bb:FB 101 3 (Mth.top (v.fmod om) (1+(mx.fdiv 1024).fmod 5),Mth.bot (v.fmod om) (1+(mx.fdiv 1024).fmod 5)):=FB.low ∅ (.lit ∅ ∅) (.lit ∅ ∅);have ab:FB 101 3 (Mth.top ((v.fdiv 23).fmod om) (1+(mx.fdiv 8192).fmod 5),Mth.bot ((v.fdiv 23).fmod om) (1+(mx.fdiv 8192).fmod 5)):=FB.low ∅ (.lit ∅ ∅) (.lit ∅ ∅);have nB:0<=vl (Mth.top (v.fmod om) (1+(mx.fdiv 1024).fmod 5),Mth.bot (v.fmod om) (1+(mx.fdiv 1024).fmod 5)):=(vl_nn bb.b1).mpr (JiP qx.1 ∅);have nA:0<=vl (Mth.top ((v.fdiv 23).fmod om) (1+(mx.fdiv 8192).fmod 5),Mth.bot ((v.fdiv 23).fmod om) (1+(mx.fdiv 8192).fmod 5)):=(vl_nn ab.b1).mpr (JiP qy.1 ∅);obtain ⟨B,j6⟩:∃ B:Fr2,B=(Mth.top (v.fmod om) (1+(mx.fdiv 1024).fmod 5),Mth.bot (v.fmod om) (1+(mx.fdiv 1024).fmod 5)):=⟨_,rfl⟩;obtain ⟨A,k0⟩:∃ A:Fr2,A=(Mth.top ((v.fdiv 23).fmod om) (1+(mx.fdiv 8192).fmod 5),Mth.bot ((v.fdiv 23).fmod om) (1+(mx.fdiv 8192).fmod 5)):=⟨_,rfl⟩;rw [<- j6] at bb nB;rw [<- k0] at ab nA;have eb:H9 bp=some (.tup [.int B.1, .int B.2]):=by rw [S9 _ _ e8,j6]
   have ea:H9 ap=some (.tup [.int A.1, .int A.2]):=by rw [e9,k0]
   clear qx qy qd r8 o1 o2;have fB:=bb;have fA:=ab;have q1:0<=vl A+vl B:=by grind
   have l5:=k1.trans (c9.trans (S8.trans S9));have j4:=S9 _ _ (S8 _ _ (c9 _ _ e7));have u8:=hX.length;have u2:=hD.length;nofun;refine ⟨len2,?_⟩;rename_i w2 s9 n4 H9 w3 d5 m2;nofun;repeat (refine And.intro (by first | exact JaV ⋯ | exact JaY ⋯ | exact JaW ⋯ | exact JaF ⋯ | exact Int.one_ne_zero | decide) ?_)
   have q5:=Mth.fm (x:=mx.fdiv 512) (y:=2) ⋯;obtain ⟨n5,k3⟩:=Int.eq_ofNat_of_zero_le q5.1;rw [k3] at q5 ⊢;obtain ⟨sg,sc,o0,m8,o4⟩:∃ (sg:Str) (sc:Nat),[V.str (Str.ofString "g"), .str (Str.ofString "p")][n5]?=some (.str sg)/\sg.cps=#[sc]/\(97<=sc/\sc<=122):=JlB ∅;refine ixL (i:=n5) (SqL.of m2) o0 ?_;clear q5 k3;nofun;refine ⟨_,_,_,sc,i,rfl,m8,rfl,by ac_nf,by ac_nf,by ac_nf,?_⟩;rw [Int.toNat_natCast];nofun;refine ⟨.inl ⟨rfl,_,SqL.of (d5 _ _ (l5 _ _ eg))⟩,?_⟩;nofun;refine ⟨.ref mp, .ref bp,_,m,B,false,rfl,rfl,FrV.of (d5 _ _ j4),FrV.of (d5 _ _ eb),mb.w.mono ⋯ ⋯,fB.w.mono ⋯ ⋯,fun lp v0 a2 q8=>?_⟩;replace a2:=d5.trans a2;nofun;refine ⟨.ref mp, .ref ap,_,m,A,true,rfl,rfl,FrV.of (a2 _ _ j4),FrV.of (a2 _ _ ea),mb.w.mono ⋯ ⋯,fA.w.mono ⋯ ⋯,fun hp s0 c5 o6=>?_⟩;nofun;refine ⟨len5,?_⟩;rename_i gt t5 t6 s0 d0 b2 p5;nofun;have N:=l5.trans (a2.trans (c5.trans b2));refine ⟨gl,gx,_,rfl,rfl,N _ _ eg,by ac_nf,?_⟩;generalize g0:upd d0 gl _=a5;nofun;have j7:a5 gl=some (.lst (gx++[.ref gt])):=putE g0;have d4:SameT d0 a5:=SameT.put g0 (N _ _ eg) rfl;have a0:∀ b u,b≠gl->d0 b=some u->a5 b=some u:=fun b u hb h=>by rw [<- g0,Jag hb];exact h
   have f1:=a0 _ _ (Ne.symm j3) (N _ _ el);have e5:SameT H9 a5:=(a2.trans (c5.trans b2)).t.trans d4;have c3:FrV K a5 (.ref bp) B.1 B.2:=FrV.of (e5 _ _ rfl eb);have b9:FrV K a5 (.ref ap) A.1 A.2:=FrV.of (e5 _ _ rfl ea);nofun;refine ⟨len2,?_⟩;rename_i rl u0 t8 a5 a6 I r1;nofun;refine ixF0 (c3.same I) (ixF1 (b9.same I) ?_);nofun;refine ⟨mulOk fB.s1 fA.s2,ixF0 (b9.same I) (ixF1 (c3.same I) ?_)⟩;nofun;refine ⟨mulOk fA.s1 fB.s2,?_⟩;nofun;refine .inr ⟨_,rfl,?_⟩;have r5:∃ (rv:V) (n2:Nat),(if decide (B.1*A.2<A.1*B.2)=true then (1:Int) else 0)=(n2:Int)/\[V.ref ap, .ref bp][n2]?=some rv/\FrV K a6 rv (if lessF B A then B else A).1 (if lessF B A then B else A).2:=by
    unfold lessF;by_cases c:decide (B.1*A.2<A.1*B.2)=true
    ·rw [if_pos c,if_pos c];nofun;exact ⟨.ref bp,1,rfl,rfl,c3.same I⟩
    ·rw [if_neg c,if_neg c];nofun;exact ⟨.ref ap,0,rfl,rfl,b9.same I⟩
   obtain ⟨rv,n2,m9,m0,s7⟩:=r5;rw [m9];refine ixL (i:=n2) (SqL.of r1) m0 ?_;nofun;have m4:sd≠gl:=fun z=>by rw [z] at ed;rw [ed] at a7;cases a7
   have v3:sd≠dl:=fun z=>by rw [z] at ed;rw [ed] at a8;cases a8
   have i9:=a0 _ _ m4 (N _ _ i8);have f0:=I _ _ i9;have d9:SameT H5 a6:=(S6.trans (S7.trans (c9.trans (S8.trans (S9.trans (a2.trans (c5.trans b2))))))).t.trans (d4.trans I.t);refine ⟨sd,_,rfl,by rw [<- i3];exact DGet.k (k:=Sum.inr d.1.f) f0,?_⟩;refine ixT (i:=2) (c4.sameT d9) rfl ?_;nofun;refine ⟨sd,_,rfl,by rw [<- d6];exact DGet.k (k:=Sum.inr o.1.f) f0,?_⟩;refine ixT (i:=2) (a9.sameT d9) rfl ?_;nofun;have h4:Same a6 a6:=Same.refl _;have e0:=S6.trans (S7.trans (c9.trans (S8.trans (S9.trans (a2.trans (c5.trans b2))))));have k2:l1≠gl:=s4;have b8:a6 l1=some (.lst (d.2.map V.str)):=I _ _ (a0 _ _ k2 (e0 _ _ n1));have j9:l2≠gl:=l6;have b4:a6 l2=some (.lst (o.2.map V.str)):=I _ _ (a0 _ _ j9 (e0 _ _ l8));have s3:=hM.ln d M;have q2:=hM.ln o ht;refine ⟨l1,rfl, .inl ⟨⟨_,SqL.of b8⟩,JbW.list (xs:=d.2.map V.str) (fun i ys W=>W=a6/\ys=((d.2.take i).filter (fun n=>decide (n∉o.2))).map V.str) ⟨rfl,rfl⟩ (fun i ys W hi z=>⟨by rw [z.1];exact SqL.of b8,by rw [z.2,length_map];exact Nat.le_trans (length_filter_le _ _) (by rw [length_take];have:=s3;ac_nf)⟩) ?_ ?_⟩⟩
   ·rintro m y ys W S ⟨rfl,rfl⟩;have lm:=(List.getElem?_eq_some_iff.mp S).1;rw [length_map] at lm;rw [List.getElem?_map,List.getElem?_eq_getElem lm] at S;obtain ⟨n,hn⟩:∃ n,n=d.2[m]:=⟨_,rfl⟩;rw [<- hn] at S;have S:y=.str n:=(Option.some.inj S).symm;subst S;simpa only [length_singleton,length_cons,length_nil,List.replicate,JaB,map_cons,map_nil,Option.join_some];refine ⟨l2,_,rfl, .inl (SqL.of b4),rfl,Jc6 _,?_⟩;rw [Jc7];rw [take_succ,List.getElem?_eq_getElem lm, <- hn,filter_append];by_cases cn:n∈o.2
    ·rw [decide_eq_true cn];nofun;simp [cn]
    ·rw [decide_eq_false cn];nofun;simp [cn]
   ·rintro ys W ⟨rfl,rfl⟩;rw [take_of_length_le (by rw [length_map];exact Nat.le_refl _)];rename_i h8 o9 p2 W q9 a4 r6;nofun;nofun;refine ⟨l2,rfl, .inl ⟨⟨_,SqL.of (a4 _ _ b4)⟩,JbW.list (xs:=o.2.map V.str) (fun i ys W=>W=q9/\ys=((o.2.take i).filter (fun n=>decide (n∉d.2))).map V.str) ⟨rfl,rfl⟩ (fun i ys W hi z=>⟨by rw [z.1];exact SqL.of (a4 _ _ b4),by rw [z.2,length_map];exact Nat.le_trans (length_filter_le _ _) (by rw [length_take];have:=q2;ac_nf)⟩) ?_ ?_⟩⟩
    ·rintro m y ys W S ⟨rfl,rfl⟩;have lm:=(List.getElem?_eq_some_iff.mp S).1;rw [length_map] at lm;rw [List.getElem?_map,List.getElem?_eq_getElem lm] at S;obtain ⟨n,hn⟩:∃ n,n=o.2[m]:=⟨_,rfl⟩;rw [<- hn] at S;have S:y=.str n:=(Option.some.inj S).symm;subst S;simpa only [length_singleton,length_cons,length_nil,List.replicate,JaB,map_cons,map_nil,Option.join_some];refine ⟨l1,_,rfl, .inl (SqL.of (a4 _ _ b8)),rfl,Jc6 _,?_⟩;rw [Jc7];rw [take_succ,List.getElem?_eq_getElem lm, <- hn,filter_append];by_cases cn:n∈d.2
     ·rw [decide_eq_true cn];nofun;simp [cn]
     ·rw [decide_eq_false cn];nofun;simp [cn]
    ·rintro ys W ⟨rfl,rfl⟩;rw [take_of_length_le (by rw [length_map];exact Nat.le_refl _)];rename_i v m7 m3 W r7 b7 s6;nofun;refine .inl ⟨h8,v,_,_,rfl,rfl,b7 _ _ r6,s6,by
      simp only [length_map];have U:=length_filter_le (fun n=>decide (n∉o.2)) d.2;have X:=length_filter_le (fun n=>decide (n∉d.2)) o.2;ac_nf,?_⟩
     rename_i nl Y t9 r7 r3 l3 r2;nofun;nofun;have b3:=I.trans (h4.trans (a4.trans (b7.trans l3)));have c6:=b3 _ _ f1;refine ⟨.inl ⟨rfl,_,SqL.of c6⟩,?_⟩;nofun;refine ⟨len3,?_⟩;rename_i np t3 t4 r3 g3 b6 m5;nofun;refine ⟨dl,dx,_,rfl,rfl,b6 _ _ c6,by ac_nf,?_⟩;generalize g8:upd g3 dl _=a1;nofun;have t2:=putE g8;have d3:SameT g3 a1:=SameT.put g8 (b6 _ _ c6) rfl;have b0:∀ b u,b≠dl->g3 b=some u->a1 b=some u:=fun b u hb h=>by rw [<- g8,Jag hb];exact h
     have O:=b3.trans b6;have d8:SameT H3 a1:=N.t.trans (d4.trans (O.t.trans d3));have a3:SameT d0 a1:=d4.trans (O.t.trans d3);have W320:Same2 gl dl H3 a1:=fun b u U X h=>b0 _ _ X (O _ _ (a0 _ _ U (N _ _ h)));have o5:nl≠gl:=fun z=>by rw [z] at Y;rw [b7 _ _ (a4 _ _ (h4 _ _ (I _ _ j7)))] at Y;cases Y
     have k6:nl≠dl:=fun z=>by rw [z] at Y;rw [b7 _ _ (a4 _ _ (h4 _ _ (I _ _ f1)))] at Y;cases Y
     nofun;have sy:=JlJ (hM.nd d M) (hM.nd o ht);obtain ⟨Z,hZ⟩:∃ Z,Z=d.2.filter (fun n=>decide (n∉o.2))++o.2.filter (fun n=>decide (n∉d.2)):=⟨_,rfl⟩;rw [<- hZ] at sy;have g9:FB 212 69 (addF m (sgn false B)):=FB.add (n:=211) (m:=69) mb fB.neg ⋯ ⋯ ⋯;have h9:FB 212 69 (addF m (sgn true A)):=FB.add (n:=211) (m:=69) mb fA ⋯ ⋯ ⋯;have f4:nameS (nmK sc st i)=true:=JdO o4 i1 ∅;have m6:d.1.f∈(xs.map (·.1)).map (·.f):=mem_map.mpr ⟨d.1,mem_map.mpr ⟨d,M,rfl⟩,rfl⟩;have m1:o.1.f∈(xs.map (·.1)).map (·.f):=mem_map.mpr ⟨o.1,mem_map.mpr ⟨o,ht,rfl⟩,rfl⟩;obtain ⟨G,J⟩:∃ G:GD,G=⟨nmK sc st i,d.1.f,o.1.f,addF m (sgn false B),addF m (sgn true A)⟩:=⟨_,rfl⟩;have s8:TOk G.td:=by
      rw [J];exact ⟨f4,hG.fname i1 ∅ (mem_map.mpr ⟨d,M,rfl⟩),hG.fname i1 ∅ (mem_map.mpr ⟨o,ht,rfl⟩),Ne.symm p8,fun u R=>by cases R;exact (g9.mono (C:=600) (D:=600) ⋯ ⋯).ok ⋯ ⋯,fun u R=>by cases R;exact (h9.mono (C:=600) (D:=600) ⋯ ⋯).ok ⋯ ⋯,hi_lo mb fA fB q1⟩
     have j8:=p0 G (by rw [J]) (by rw [J]);have f6:roomF (spOf (xs.map (·.1))) G=if lessF B A then B else A:=by
      unfold roomF;rw [j8,J];have U:addF (addF m (sgn true A)) (negF m)=A:=Jj3 mb fA;have X:addF m (negF (addF m (sgn false B)))=B:=Jj4 mb fB;show (if lessF (addF (addF m (sgn true A)) (negF m)) (addF m (negF (addF m (sgn false B)))) then addF (addF m (sgn true A)) (negF m) else addF m (negF (addF m (sgn false B))))=_;rw [U,X];exact Jjs fA fB
     have p6:GOQ ls xs (G,Z):=by
      refine ⟨s8,?_,⟨sy.1,fun x hx y S U X n=>?_⟩,?_,?_,?_,?_,?_,fun n hn=>?_⟩
      ·rw [J];exact hG.joined (mem_map.mpr ⟨d,M,rfl⟩) (mem_map.mpr ⟨o,ht,rfl⟩) l7.symm
      ·have U:x.1.f=d.1.f:=by rw [J] at U;exact U
       have X:y.1.f=o.1.f:=by rw [J] at X;exact X
       have ex:=JdD hG hx M U;have ey:=JdD hG S ht X;rw [ex,ey];exact sy.2 n
      ·show FB 101 3 (roomF _ G);rw [f6];split
       ·exact fB
       ·exact fA
      ·show 0<=vl (roomF _ G);rw [f6];split
       ·exact nB
       ·exact nA
      ·rw [J];exact ⟨⟨g9.b1,g9.s2.mono ⋯⟩,h9.b1,h9.s2.mono ⋯⟩
      ·rw [J];exact m6
      ·rw [J];exact m1
      ·have : n∈Z:=hn;rw [hZ] at this;rcases mem_append.mp this with h | h
       ·exact hM.sub d M n (mem_filter.mp h).1
       ·exact hM.sub o ht n (mem_filter.mp h).1
     refine p1 _ _ ⟨_,_,_,_,_,_,_,_,_,_,_,_,_,_,_,_,_,gx++[.ref gt],dx++[.ref np],es++[(G,Z)],rfl,fun b w h=>b0 _ _ (Jah h a8) (O _ _ (a0 _ _ (Jah h a7) (N _ _ (S3 _ _ h)))),b0 _ _ j3 (O _ _ j7),?_,t2,?_,?_,?_,by simp [i0]⟩
     ·have k7:All2 (fun (e:GD × List Str) x=>TV K a1 e.1.td x) es gx:=hX.mono fun a x (z:TV K H3 a.1.td x)=>TV.sameT d8 z;refine k7.append (.one ?_);rw [J];exact ⟨gt, .ref lp, .ref hp,rfl,SqT.of (a3 _ _ rfl p5),FrV.of (a3 _ _ rfl (b2 _ _ (c5 _ _ q8))),FrV.of (a3 _ _ rfl (b2 _ _ o6))⟩
     ·have l4:All2 (RWT K gl dl (spOf (xs.map (·.1))) a1) es dx:=hD.mono fun a x z=>RWT.keep d8 W320 z;refine l4.append (.one ⟨np,rv,nl,rfl,(show SqT K a1 np [.str G.nm,rv, .ref nl] by rw [J];exact SqT.of (d3 _ _ rfl m5)),?_,o5,k6,?_⟩)
      ·show FrV K a1 rv (roomF _ G).1 (roomF _ G).2;rw [f6];exact ((FrV.same (a4.trans (b7.trans (l3.trans b6))) s7)).sameT d3
      ·rw [b0 _ _ k6 (b6 _ _ r2),hZ,map_append]
     ·intro e he;rcases mem_append.mp he with h' | h'
      ·exact f8 e h'
      ·rw [mem_singleton.mp h'];exact p6
     ·intro j' e r4;rcases Jbo r4 with h' | ⟨rfl,rfl⟩
      ·exact g2 j' e h'
      ·exact ⟨sc,by rw [i0,J]⟩
 ·rintro σ H3 ⟨v5,v6,v7,v8,v9,f2,f7,i2,h0,f3,i7,f5,g5,i4,i5,g7,f9,gx,dx,es,rfl,S3,eg,hX,el,hD,f8,g2,i0⟩;nofun;refine ⟨len2,?_⟩;rename_i q u5 w4 H3 H4 S4 e4;nofun;have n0:All2 (fun (e:GD × List Str) x=>TV K H4 e.1.td x) es gx:=hX.mono fun a x (z:TV K H3 a.1.td x)=>TV.sameT S4.t z;have o7:All2 (RWT K gl dl (spOf (xs.map (·.1))) H4) es dx:=hD.mono fun a x z=>RWT.same S4 z;exact k q gl dl gx dx es H4 (S3.trans S4) e4 (S4 _ _ eg) n0 (S4 _ _ el) o7 f8 g2 ∅
abbrev BaW:Stmt:=top 58
theorem JaI:Jan ["_law_part","_law_rows","_law_by_name","_law_weights","_law_mine","_law_name_here","_law_room","_law_names","_law_total","_law_more","_law_word","_law_theirs","_law_here"] ["_law_part","_law_rows","_law_by_name","_law_weights"] (Jae BaW):=by bv_decide
def JcG (K:W.Frag):Sp:=fun vs H Q E=>∃ (v:V) (rl bn wn c1 c2:Addr) (rx:List V) (kv kw:List (Key × V)) (rs:List ShD) (ks:List PD) (es:List (GD × List Str)) (pf:Str->Fr2) (f:Str->Rat) (p:PD) (e0:GD × List Str),vs=[v, .ref rl, .ref bn, .ref wn]/\PDV K H p v/\SqL K H rl rx/\All2 (RWT K c1 c2 pf H) es rx/\H bn=some (.dK kv)/\BG (·.nm) (fun r v=>FLV K H r.sl v) rs kv/\H wn=some (.dK kw)/\BG (·.nm) (fun (p:PD) v=>v=V.int p.wt) ks kw/\p∈ks/\ShS ks es pf rs f/\(ks.map (·.nm)).Nodup/\(∀ p∈ks,1<=p.wt/\Mth.Sz 21 p.wt)/\(∀ e∈es,FB 101 3 (roomF pf e.1)/\(∀ n∈e.2,n∈ks.map (·.nm))/\e.2.length<=12)/\es.length<=7/\es.find? (stp (wtF ks) f pf p.nm)=some e0/\∀ t H',Same H H'->H' t=some (.tup [.str (Str.ofString "gap"), .str e0.1.nm])->Q (.ref t) H'
theorem JfQ (F:FunD K "_law_stops" "_law_stops" BaW dV f fd) (T:Txt K mg Ad) (Ban:Cal P w K mg base 2 "_law_plus" ["_law_one","_law_other","_law_sign"] [] (JbU K)):FnOk P w K mg base (CX1 P w) 3 f fd ["_law_part","_law_rows","_law_by_name","_law_weights"] (JcG K):=by
 refine F.okn JaI (by subst_eqs) (fun e3 A d0 s H vs Q E hr h=>?_)
 obtain ⟨v,rl,N,wn,c1,c2,rx,kv,kw,rs,ks,es,pf,f,p,e0,rfl,h⟩:=h;have hu:=hr.units;refine ⟨_,(Jab (Jaj (i:=4) JaI.nd rfl (Or.inl rfl) (JaQ (hu1 hu) (pv 2) (pe_ix ix_U (pv 0) Jac (fun _ _=>rfl)) (fun _ _=>rfl)))
   (Jab (Ja0 PassesOwn.never rfl (pi_U (pv 1)) (Jei rfl (Ja2 (Jap (i:=5) JaI.nd rfl (Or.inl rfl)) (Ja2 (Jap (i:=6) JaI.nd rfl (Or.inl rfl)) (Ja2 (Jap (i:=7) JaI.nd rfl (Or.inl rfl)) JcU))))
   (Jai (ps_if (Jaz JjL (pe_ix ix_U (pv 0) Jac (fun _ _=>rfl)) (pv 7) (by with_unfolding_all rfl))
   (Jab (Jaj (i:=8) JaI.nd rfl (Or.inl rfl) (JaG (Jaa Jac (Jaa Jac Jad))))
   (Jab (Jaj (i:=9) JaI.nd rfl (Or.inl rfl) pe_bl)
   (Jab (Ja0 PassesOwn.never rfl (pi_U (pv 7)) (Jap (i:=10) JaI.nd rfl (Or.inl rfl))
   (Jab (Jaj (i:=8) JaI.nd rfl (Or.inl rfl) (Ban.ev hr ⋯ rfl passF (Jaa (pv 8) (Jaa (JaQ (hu1 hu) (pv 2) (pv 10) (fun _ _=>rfl)) (Jaa Jac Jad))) (he:=by exact Jaf rfl)))
   (Jab (Jaj (i:=11) JaI.nd rfl (Or.inl rfl) (JaQ (hu1 hu) (pv 2) (pv 10) (fun _ _=>rfl)))
   (Jab (Jaj (i:=12) JaI.nd rfl (Or.inl rfl) (pe_op Jax (pe_op Jax (pe_ix ix_U (pv 4) Jac (fun _ _=>rfl)) (pe_ix ix_U (pv 11) Jac (fun _ _=>rfl))) (JaQ (hu1 hu) (pv 3) (pv 10) (fun _ _=>rfl))))
   (Jai (ps_if (Jaz JeP (pv 12) (pe_op Jax (pe_op Jax (pe_ix ix_U (pv 11) Jac (fun _ _=>rfl)) (pe_ix ix_U (pv 4) Jac (fun _ _=>rfl))) (JaQ (hu1 hu) (pv 3) (pe_ix ix_U (pv 0) Jac (fun _ _=>rfl)) (fun _ _=>rfl))) (JaC _))
   (Jai (Jaj (i:=9) JaI.nd rfl (Or.inl rfl) pe_bl))
   Jay))))))
   (Jai (ps_if (PW.pt (JjM (Jaz (Jcx hu) (pv 8) (pv 6) (JaC _)) (Jix (JbF (Jbc (pv 9))))))
   (Jai (Jaq (JaG (Jaa Jbu (Jaa (pv 5) Jad)))))
   Jay)))))
   Jay)))
   (Jai (Jaq Jdf)))),?_⟩
 clear hu;obtain ⟨c8,hR,hE,a4,hB,a9,hW,a7,hs,R,a8,d2,l7,hf,k⟩:=h;have sz:(1000:Nat)<=sizeLine:=by decide
 have lE:=hE.length;have hk:=hs.k;have a5:(rs.map (·.nm)).Nodup:=hk.nm ▸ R;obtain ⟨a_,vz,vm,rfl,hb,_,hm⟩:=c8;have Y:p.nm∈ks.map (·.nm):=mem_map.mpr ⟨p,a7,rfl⟩;obtain ⟨r0,v0,b9,B,b6,d3⟩:=hB.some (z:=p.nm) (by rw [hk.nm];exact Y);have B:r0.nm=p.nm:=B;obtain ⟨b,w0,Z,b5,c0,c3⟩:=hW.some (z:=p.nm) Y;have d7:=Jgx R Z a7 b5;subst d7;have g0:DGet H N (.str b.nm) (some v0):=by rw [<- b6];exact DGet.k (k:=Sum.inr b.nm) a4
 have c9:valV kw (Sum.inr b.nm)=some (.int b.wt):=by rw [c0,c3]
 have I:=hk.fb _ b9;have b4:vl r0.sl=f b.nm*(b.wt:Rat):=by
  have:=hs.val _ Y;rw [JdF R Z, <- B,JeS a5 b9] at this;rw [this,B]
 have b8:=a8 _ Z;clear c0 c3 b6;show tSeq _ _ _ [some (.ref a_),some (.ref rl),some (.ref N),some (.ref wn),none,none,none,none,none,none,none,none,none] H;nofun;refine ixT (i:=0) hb rfl ?_;refine ⟨N,v0,rfl,g0,?_⟩;nofun;refine ⟨rl,rfl,ForA.byLN (xs:=rx) hR (fun i σ H'=>i<=rx.length/\(∃ (v5 v6 v7 v8 v9 c o d:Option V),σ=[some (.ref a_),some (.ref rl),some (.ref N),some (.ref wn),some v0,v5,v6,v7,v8,v9,c,o,d])/\Same H H'/\(es.drop i).find? (stp (wtF ks) f pf b.nm)=some e0) ⟨Nat.zero_le _,⟨none,none,none,none,none,none,none,none,rfl⟩,Same.refl _,hf⟩ (fun i σ H' q=>hR.same q.2.2.1) ?_ ?_⟩
 ·rintro i y σ H3 hy ⟨hi,⟨v5,v6,v7,v8,v9,c,o,d,rfl⟩,S3,a⟩ N0 a6;have li:=(List.getElem?_eq_some_iff.mp hy).1;obtain ⟨e,a1,b_,w,l,rfl,d6,hw,_,_,hl⟩:=hE.at_ hy;have he:=List.mem_of_getElem? a1;obtain ⟨rb,S,e5⟩:=d2 e he;have d4:=(List.getElem?_eq_some_iff.mp a1).1;rw [List.drop_eq_getElem_cons d4,(List.getElem?_eq_some_iff.mp a1).2,List.find?_cons] at a;nofun;refine ⟨b_,_,rfl,d6.same S3,rfl,?_⟩;nofun;refine ixT (i:=0) (hb.same S3) rfl ?_;refine ⟨l,_,rfl, .inl (SqL.of (S3 _ _ hl)),rfl,Jc6 _,?_⟩;rw [Jc7];by_cases cn:b.nm∈e.2
  ·rw [decide_eq_true cn];nofun;refine ⟨len2,?_⟩;rename_i t0 e1 d9 H3 H4 S4 e4;nofun;nofun;have r:=S3.trans S4;refine ⟨l,rfl,ForA.byLN (xs:=e.2.map V.str) (SqL.of (r _ _ hl)) (fun j σ H'=>j<=e.2.length/\∃ (c o d:Option V) (t:V) (u:Fr2),σ=[some (.ref a_),some (.ref rl),some (.ref N),some (.ref wn),some v0,some (.str e.1.nm),some w,some (.ref l),some t,some (.bl (!decide (∀ q∈e.2.take j,f q<=f b.nm))),c,o,d]/\Same H4 H'/\FrV K H' t u.1 u.2/\Lo u/\vl u=sm (rvl rs) (e.2.take j)) ⟨Nat.zero_le _,c,o,d, .ref t0,(0,1),by simp,Same.refl _,FrV.of e4,⟨Int.le_refl 1,by unfold Mth.g;simp⟩,by rw [take_zero];exact Jft⟩ (fun j σ H' q=>by obtain ⟨_,_,_,_,_,_,_,q,_⟩:=q;exact SqL.of (q _ _ (r _ _ hl))) ?_ ?_⟩
   ·rintro j y' σ H5 C ⟨hj,c,o,d,t,u,rfl,U,ft,fu,eu⟩ N1 b7;have lj:=(List.getElem?_eq_some_iff.mp C).1;rw [length_map] at lj;rw [List.getElem?_map,List.getElem?_eq_getElem lj] at C;obtain ⟨n,hn⟩:∃ n,n=e.2[j]:=⟨_,rfl⟩;rw [<- hn] at C;have C:y'=.str n:=(Option.some.inj C).symm;subst C;have a0:n∈ks.map (·.nm):=S n (by rw [hn];exact List.getElem_mem lj);have a2:=r.trans U;obtain ⟨W,v,a3,J,hv,fv⟩:=hB.some (z:=n) (by rw [hk.nm];exact a0);obtain ⟨x,w',b3,G,d1,c7⟩:=hW.some (z:=n) a0;have G:x.nm=n:=G;subst G;have J:W.nm=x.nm:=J;have O:=hk.fb _ a3;have b2:=a8 _ b3;have ub:=hk.par e he j u fu eu;have c4:vl W.sl=f x.nm*(x.wt:Rat):=by
     have:=hs.val _ a0;rw [JdF R b3, <- J,JeS a5 a3] at this;rw [this,J]
    have gv:DGet H5 N (.str x.nm) (some v):=by rw [<- hv];exact DGet.k (k:=Sum.inr x.nm) (a2 _ _ a4)
    have mi:=Ji9 I.b1 O.b1 b8.1 b2.1 b4 c4;have M:e.2.take (j+1)=e.2.take j++[x.nm]:=by rw [take_succ,List.getElem?_eq_getElem lj, <- hn];rfl
    have b0:vl (addF u W.sl)=sm (rvl rs) (e.2.take (j+1)):=by
     rw [JiU ub.b1 O.b1,eu,M,JiI, <- J,JeS a5 a3]
    nofun;refine ⟨N,_,rfl,gv,?_⟩;refine ⟨t,v,_,u,W.sl,true,rfl,rfl,ft,FrV.same a2 fv,ub.w.mono ⋯ ⋯,O.w.mono ⋯ ⋯,fun q H6 S6 e6=>?_⟩;have D:=a2.trans S6;have c5:FrV K H6 v W.sl.1 W.sl.2:=FrV.same D fv;have X:FrV K H6 v0 r0.sl.1 r0.sl.2:=FrV.same D d3;nofun;refine ⟨N,v,rfl,by rw [<- hv];exact DGet.k (k:=Sum.inr x.nm) (D _ _ a4),?_⟩;nofun;refine ixF0 X (ixF1 c5 ?_);nofun;refine ⟨mulOk I.s1 O.s2,?_⟩;refine ⟨wn, .int x.wt,rfl,by rw [show some (V.int x.wt)=valV kw (Sum.inr x.nm) by rw [d1,c7]];exact DGet.k (k:=Sum.inr x.nm) (D _ _ a9),?_⟩;nofun;refine ⟨mulOk (I.s1.mul O.s2) b2.2,?_⟩;nofun;refine ixF0 c5 (ixF1 X ?_);nofun;refine ⟨mulOk O.s1 I.s2,?_⟩;refine ixT (i:=0) (hb.same D) rfl ?_;refine ⟨wn, .int b.wt,rfl,by rw [<- c9];exact DGet.k (k:=Sum.inr b.nm) (D _ _ a9),?_⟩;nofun;refine ⟨mulOk (O.s1.mul I.s2) b8.2,?_⟩;by_cases cm:f b.nm<f x.nm
    ·rw [if_pos (by rw [decide_eq_true_iff];exact mi.mpr cm)];nofun;nofun;refine b7 _ _ ⟨lj,_,_,_, .ref q,addF u W.sl,by rw [decide_eq_false (fun z=>absurd cm (Rat.not_lt.mpr (z x.nm (by rw [M];simp))))];rfl,U.trans S6,FrV.of e6,JfI (JbO ub.b1 O.b1),b0⟩
    ·rw [if_neg (by rw [decide_eq_true_iff];exact fun z=>cm (mi.mp z))];nofun;nofun;have ed:(∀ q∈e.2.take (j+1),f q<=f b.nm)↔(∀ q∈e.2.take j,f q<=f b.nm):=⟨fun h q L=>h q (by rw [M];simp [L]),fun h q L=>by
      rw [M] at L;rcases mem_append.mp L with L | L
      ·exact h q L
      ·rw [mem_singleton.mp L];exact Rat.not_lt.mp cm⟩
     exact b7 _ _ ⟨lj,_,_,_, .ref q,addF u W.sl,by rw [decide_eq_decide.mpr ed],U.trans S6,FrV.of e6,JfI (JbO ub.b1 O.b1),b0⟩
   ·rintro σ H5 ⟨hj,c,o,d,t,u,rfl,U,ft,fu,eu⟩;rw [length_map,take_of_length_le (Nat.le_refl _)] at eu;rw [length_map,take_of_length_le (Nat.le_refl _)];have c6:FrV K H5 w (roomF pf e.1).1 (roomF pf e.1).2:=FrV.same (r.trans U) hw;have d5:sm (rvl rs) e.2=sm (fun q=>f q*wtF ks q) e.2:=Jbn fun q L=>hs.val q (S q L);have si:=JkV (w:=wtF ks) (f:=f) (pl:=pf) cn fu rb.lo (eu.trans d5) rfl;obtain ⟨m,hm⟩:∃ m,m=roomF pf e.1:=⟨_,rfl⟩;rw [<- hm] at c6 si;rw [si] at a;generalize (!decide (∀ q∈e.2,f q<=f b.nm))=mo at *;nofun;refine eqF ft c6 ?_;rw [show (decide (u.1=m.1)&&decide (u.2=m.2))=decide (u=m) from by rw [Bool.eq_iff_iff];simp [Prod.ext_iff]];nofun;by_cases cu:u=m
    ·rw [decide_eq_true cu] at a ⊢;cases mo with
     | false=>
      cases a;nofun;refine ⟨len2,?_⟩;rename_i gt e2 d8 H5 H6 S6 e6;nofun;exact k _ H6 (r.trans (U.trans S6)) e6
     | true=>
      nofun;exact a6 _ _ ⟨li,⟨_,_,_,_,_,_,_,_,rfl⟩,r.trans U,a⟩
    ·rw [decide_eq_false cu] at a ⊢;nofun;exact a6 _ _ ⟨li,⟨_,_,_,_,_,_,_,_,rfl⟩,r.trans U,a⟩
  ·rw [decide_eq_false cn];have : stp (wtF ks) f pf b.nm e=false:=by unfold stp;rw [decide_eq_false cn];rfl
   rw [this] at a;nofun;exact a6 _ _ ⟨li,⟨_,_,_,_,_,_,_,_,rfl⟩,S3,a⟩
 ·rintro σ H3 ⟨hi,_,_,a⟩;rw [List.drop_eq_nil_of_le ∅] at a;cases a
abbrev BaP:Stmt:=top 59
theorem Jbm:Jan ["_law_gaps_here","_law_rows","_law_kept","_law_left","_law_names","_law_k"] ["_law_gaps_here","_law_rows"] (Jae BaP):=by bv_decide
def Jcr (K:W.Frag):Sp:=fun vs H Q E=>∃ (gl dl:Addr) (gx dx:List V) (gs:List GD),vs=[.ref gl, .ref dl]/\SqL K H gl gx/\All2 (fun (g:GD) x=>TV K H g.td x) gs gx/\SqL K H dl dx/\dx.length=gx.length/\(gs.map (·.nm)).Nodup/\gs.length<=7/\∀ q kl rl H',Same H H'->H' q=some (.tup [.ref kl, .ref rl])->H' kl=some (.lst gx)->H' rl=some (.lst dx)->Q (.ref q) H'
theorem Je9 (F:FunD K "_law_unlike" "_law_unlike" BaP dV f fd) (T:Txt K mg Ad)  : FnOk P w K mg base (CX1 P w) 1 f fd ["_law_gaps_here","_law_rows"] (Jcr K):=by
 refine F.okn Jbm (by subst_eqs) (fun b0 A a1 s H vs Q E hr h=>?_)
 obtain ⟨gl,dl,n,e,j,rfl,h⟩:=h;refine ⟨_,(Jab (Jaj (i:=2) Jbm.nd rfl (Or.inl rfl) (JaX Jad))
   (Jab (Jaj (i:=3) Jbm.nd rfl (Or.inl rfl) (JaX Jad))
   (Jab (Jaj (i:=4) Jbm.nd rfl (Or.inl rfl) (JaX Jad))
   (Jab (Ja0 PassesOwn.never rfl (JcC rfl T.Bcm (Jaa (Jat Ja8 rfl T.BbE Jbs (Jaa (pv 0) Jad)) Jad)) (Jap (i:=5) Jbm.nd rfl (Or.inl rfl))
   (Jab (ps_if (Jaz JfT (pe_ix ix_U (pe_ix ix_U (pv 0) (pv 5) (fun _ _=>rfl)) Jac (fun _ _=>rfl)) (pv 4) (by with_unfolding_all rfl))
   (Jab (Ja7 (pe_bm PySem.F.plainAttrs_list PySem.F.slot_list_append PySem.F.type_list_append JaZ (pv 2) (Jaa (pe_ix ix_U (pv 0) (pv 5) (fun _ _=>rfl)) Jad) (hs:=by exact Jaf rfl)))
   (Jai (Ja7 (pe_bm PySem.F.plainAttrs_list PySem.F.slot_list_append PySem.F.type_list_append JaZ (pv 3) (Jaa (pe_ix ix_U (pv 1) (pv 5) (fun _ _=>rfl)) Jad) (hs:=by exact Jaf rfl)))))
   Jay)
   (Jai (Ja7 (pe_bm PySem.F.plainAttrs_list PySem.F.slot_list_append PySem.F.type_list_append JaZ (pv 4) (Jaa (pe_ix ix_U (pe_ix ix_U (pv 0) (pv 5) (fun _ _=>rfl)) Jac (fun _ _=>rfl)) Jad) (hs:=by exact Jaf rfl))))))
   (Jai (Jaq (JaG (Jaa (pv 2) (Jaa (pv 3) Jad))))))))),?_⟩
 obtain ⟨W,hX,hD,hl,a5,l7,k⟩:=h;have sl:(1000:Nat)<=sizeLine:=by decide
 have lg:=hX.length;show tSeq _ _ _ [some (.ref gl),some (.ref dl),none,none,none,none] H;nofun;refine ⟨len0,?_⟩;rename_i m J a8 H H1 Y e1;nofun;refine ⟨len0,?_⟩;rename_i l c a6 H1 H2 y e2;nofun;refine ⟨len0,?_⟩;rename_i d a a7 H2 H3 X e3;nofun;have x:=Jb9 Y c;have B:=Jb9 Y (Jb9 y a);have D:m≠l:=fun z=>by rw [<- z,e1] at c;cases c
 have C:m≠d:=fun z=>by rw [<- z,y _ _ e1] at a;cases a
 have I:l≠d:=fun z=>by rw [<- z,e2] at a;cases a
 nofun;refine ⟨_, .inl (W.same (Y.trans (y.trans X))),?_⟩;nofun;refine ⟨_,rfl,by ac_nf,by ac_nf,?_⟩;refine ForR.byN (fun i σ R=>∃ (v5:Option V),σ=[some (.ref gl),some (.ref dl),some (.ref m),some (.ref l),some (.ref d),v5]/\Same H R/\R m=some (.lst (n.take i))/\R l=some (.lst (e.take i))/\R d=some (.lst (((j.map (·.nm)).take i).map V.str))) ⟨none,rfl,Y.trans (y.trans X),X _ _ (y _ _ e1),X _ _ e2,e3⟩ ?_ ?_
 ·rintro i σ H4 hi ⟨v5,rfl,p,L,O,en⟩ N0 a4;have ig:i<n.length:=by ac_nf
  have r:=List.getElem?_eq_getElem ig;have hd:=List.getElem?_eq_getElem (by ac_nf:i<e.length);obtain ⟨g,hg,b,b5,vh,eb,hb,b4,b2⟩:=hX.at_ r;rw [eb] at r;have nw:g.td.nm∉(j.map (·.nm)).take i:=JdJ a5 (by rw [List.getElem?_map,hg];rfl);have tg:n.take (i+1)=n.take i++[.ref b]:=by rw [take_succ,r];rfl
  have a2:e.take (i+1)=e.take i++[e[i]]:=by rw [take_succ,hd];rfl
  have tn:(j.map (·.nm)).take (i+1)=(j.map (·.nm)).take i++[g.nm]:=by rw [take_succ,List.getElem?_map,hg];rfl
  have lt:(n.take i).length<=7:=by rw [length_take];ac_nf
  have a9:(e.take i).length<=7:=by rw [length_take];ac_nf
  have b3:((j.map (·.nm)).take i).length<=7:=by rw [length_take,length_map];ac_nf
  generalize e[i]=dv at *;rw [Int.zero_add];nofun;refine ixL (i:=i) (W.same p) r ?_;refine ixT (i:=0) (hb.same p) rfl ?_;refine ⟨d,_,rfl, .inl (SqL.of en),rfl,Jc6 _,?_⟩;rw [Jc7,decide_eq_false nw];nofun;refine ⟨.inl ⟨rfl,_,SqL.of L⟩,?_⟩;refine ixL (i:=i) (W.same p) r ?_;refine ⟨m,_,_,rfl,rfl,L,by ac_nf,?_⟩;generalize U:upd H4 m _=o;nofun;have e5:=putE U;have t:Same H o:=fun b u h=>by rw [<- U,Jag (Jah h J)];exact p _ _ h
  have G:o l=some (.lst (e.take i)):=by rw [<- U,Jag (Ne.symm D)];exact O
  have a0:o d=some (.lst (((j.map (·.nm)).take i).map V.str)):=by rw [<- U,Jag (Ne.symm C)];exact en
  nofun;refine ⟨.inl ⟨rfl,_,SqL.of G⟩,?_⟩;refine ixL (i:=i) (hD.same t) hd ?_;refine ⟨l,_,_,rfl,rfl,G,by ac_nf,?_⟩;generalize S:upd o l _=M;nofun;have e6:=putE S;have Z:Same H M:=fun b u h=>by rw [<- S,Jag (Jah h x)];exact t _ _ h
  have a3:M m=some (.lst (n.take i++[.ref b])):=by rw [<- S,Jag D];exact e5
  have v:M d=some (.lst (((j.map (·.nm)).take i).map V.str)):=by rw [<- S,Jag (Ne.symm I)];exact a0
  nofun;refine ⟨.inl ⟨rfl,_,SqL.of v⟩,?_⟩;refine ixL (i:=i) (W.same Z) r ?_;refine ixT (i:=0) (hb.same Z) rfl ?_;refine ⟨d,_,_,rfl,rfl,v,by rw [length_map];ac_nf,?_⟩;generalize N:upd M d _=H7;nofun;have e7:=putE N;nofun;exact a4 _ _ ⟨_,rfl,fun b u h=>by rw [<- N,Jag (Jah h B)];exact Z _ _ h,by rw [tg, <- N,Jag C];exact a3,by rw [a2, <- N,Jag I];exact e6,by rw [tn,map_append];exact e7⟩
 ·rintro σ H4 ⟨v5,rfl,p,L,O,en⟩;rw [take_of_length_le ∅] at L O;nofun;refine ⟨len2,?_⟩;rename_i q b6 b1 H4 o t e5;nofun;exact k q m l o (p.trans t) e5 (t _ _ L) (t _ _ O)
abbrev Bc6:Stmt:=top 60
theorem Jbl:Jan ["_law_script","_law_style","_law_parts_here","_law_spots","_law_gaps_here","_law_rows","_law_told","_law_by_name","_law_weights","_law_part","_law_name_here","_law_slack","_law_stop","_law_k","_law_due"] ["_law_script"] (Jae Bc6):=by bv_decide
def Bdk (K:W.Frag):Sp:=fun vs H Q E=>∃ (a:Addr) (ns:List Int),vs=[.ref a]/\SqL K H a (ns.map V.int)/\ns.length<=63/\∀ H',Q (.bl true) H'
theorem Jln (F:FunD K "law" "law" Bc6 dV f fd) (T:Txt K mg Ad) (Bae:Cal P w K mg base 1 "_law_cell" ["_law_script","_law_k"] [] (JbB K)) (Bb6:Cal P w K mg base 3 "_law_parts" ["_law_script","_law_style"] [] (JcF K)) (BbV:Cal P w K mg base 2 "_law_listed" ["_law_script","_law_parts_here"] [] (Jcp K)) (Bcu:Cal P w K mg base 3 "_law_gaps" ["_law_script","_law_spots","_law_style"] [] (Jc0 K)) (Bdq:KCal P w K mg base 9 "Thing" Ad.Thing ["self","parts","gaps"] (JbA K Ad)) (BbW:Cal P w K mg base 1 "_law_unlike" ["_law_gaps_here","_law_rows"] [] (Jcr K)) (Bdr:Cal P w K mg base 9 "share" ["thing"] [] (Jfp K Ad)) (Bb7:Cal P w K mg base 3 "_law_stops" ["_law_part","_law_rows","_law_by_name","_law_weights"] [] (JcG K)):FnOk P w K mg base (CX1 P w) 11 f fd ["_law_script"] (Bdk K):=by
 refine F.okn Jbl (by subst_eqs) (fun h8 A d7 s H vs Q E C h=>?_)
 obtain ⟨a,ns,rfl,h⟩:=h;have hu:=C.units;refine ⟨_,(Jab (Jaj (i:=1) Jbl.nd rfl (Or.inl rfl) (pe_op JaA (Bae.ev C ⋯ rfl passF (Jaa (pv 0) (Jaa Jac Jad)) (he:=by exact Jaf rfl)) Jac))
   (Jab (Jiw (Bb6.ev C ⋯ rfl passF (Jaa (pv 0) (Jaa (pv 1) Jad)) (he:=by exact Jaf rfl)) (Jei rfl (Ja2 (Jap (i:=2) Jbl.nd rfl (Or.inl rfl)) (Ja2 (Jap (i:=3) Jbl.nd rfl (Or.inl rfl)) JcU))))
   (Jab (Jaj (i:=2) Jbl.nd rfl (Or.inl rfl) (BbV.ev C ⋯ rfl passF (Jaa (pv 0) (Jaa (pv 2) Jad)) (he:=by exact Jaf rfl)))
   (Jab (Jiw (Bcu.ev C ⋯ rfl passF (Jaa (pv 0) (Jaa (pv 3) (Jaa (pv 1) Jad))) (he:=by exact Jaf rfl)) (Jei rfl (Ja2 (Jap (i:=4) Jbl.nd rfl (Or.inl rfl)) (Ja2 (Jap (i:=5) Jbl.nd rfl (Or.inl rfl)) JcU))))
   (Jab (Jiw (BbW.ev C ⋯ rfl passF (Jaa (pv 4) (Jaa (pv 5) Jad)) (he:=by exact Jaf rfl)) (Jei rfl (Ja2 (Jap (i:=4) Jbl.nd rfl (Or.inl rfl)) (Ja2 (Jap (i:=5) Jbl.nd rfl (Or.inl rfl)) JcU))))
   (Jab (Jaj (i:=6) Jbl.nd rfl (Or.inl rfl) (Bdr.ev C ⋯ rfl passF (Jaa (Bdq.ev C ⋯ rfl passF (Jaa (pv 2) (Jaa (pv 4) Jad))) Jad) (he:=by exact Jaf rfl)))
   (Jab (Jaj (i:=7) Jbl.nd rfl (Or.inl rfl) Jbj)
   (Jab (Jaj (i:=8) Jbl.nd rfl (Or.inl rfl) Jbj)
   (Jab (Ja0 PassesOwn.never rfl (pi_U (pv 2)) (Jap (i:=9) Jbl.nd rfl (Or.inl rfl))
   (Jai (JbG (hu1 hu) (pv 8) (pe_ix ix_U (pv 9) Jac (fun _ _=>rfl)) (pe_ix ix_U (pv 9) Jac (fun _ _=>rfl)) rfl)))
   (Jab (Ja0 PassesOwn.never rfl (pi_U (pv 6)) (Jei rfl (Ja2 (Jap (i:=10) Jbl.nd rfl (Or.inl rfl)) (Ja2 (Jap (i:=11) Jbl.nd rfl (Or.inl rfl)) (Ja2 (Jap (i:=12) Jbl.nd rfl (Or.inl rfl)) JcU))))
   (Jai (JbG (hu1 hu) (pv 7) (pv 10) (pv 11) rfl)))
   (Jab (Ja0 PassesOwn.never rfl (JcC rfl T.Bcm (Jaa (Jat Ja8 rfl T.BbE Jbs (Jaa (pv 2) Jad)) Jad)) (Jap (i:=13) Jbl.nd rfl (Or.inl rfl))
   (Jab (Jaj (i:=14) Jbl.nd rfl (Or.inl rfl) (JaG (Jaa Jbu Jad)))
   (Jab (ps_if (Jaz (Jdc hu) (JaQ (hu1 hu) (pv 7) (pe_ix ix_U (pe_ix ix_U (pv 2) (pv 13) (fun _ _=>rfl)) Jac (fun _ _=>rfl)) (fun _ _=>rfl)) (pe_ix ix_U (pe_ix ix_U (pv 2) (pv 13) (fun _ _=>rfl)) Jac (fun _ _=>rfl)) (JaC _))
   (Jai (Jaj (i:=14) Jbl.nd rfl (Or.inl rfl) (Bb7.ev C ⋯ rfl passF (Jaa (pe_ix ix_U (pv 2) (pv 13) (fun _ _=>rfl)) (Jaa (pv 5) (Jaa (pv 7) (Jaa (pv 8) Jad)))) (he:=by exact Jaf rfl))))
   Jay)
   (Jai (ps_if (PW.pt (pw_or (Jaz Jed (pv 14) Jdf (JaC _)) (pw_or (JbF (Jbc (Jat JaM rfl T.Bav Ja6 (Jaa (pe_ix ix_U (pe_ix ix_U (pv 6) (pv 13) (fun _ _=>rfl)) Jac (fun _ _=>rfl)) (Jaa (JcS (v:=.ty "tuple") rfl T.Bc0 JdK rfl) Jad))))) (JcD (Jaz (Jdc hu) (pe_ix ix_U (pe_ix ix_U (pv 6) (pv 13) (fun _ _=>rfl)) Jac (fun _ _=>rfl)) (pv 14) (JaC _))))))
   (Jai (Jaq pe_bl))
   Jay)))))
   (Jai (Jaq pe_bl))))))))))))),?_⟩
 clear hu;obtain ⟨hS,hl,k⟩:=h;have sl:(1000:Nat)<=sizeLine:=by decide
 show tSeq _ _ _ [some (.ref a),none,none,none,none,none,none,none,none,none,none,none,none,none,none] H;nofun;refine ⟨a,ns,3,rfl,hS,hl,by decide,by decide,fun c0=>?_⟩;nofun;repeat (refine And.intro (by first | exact JaV ⋯ | exact JaY ⋯ | exact JaW ⋯ | exact JaF ⋯ | exact Int.one_ne_zero | decide) ?_)
 have q0:=Mth.fm (x:=c0) (y:=4) ⋯;obtain ⟨st,d4⟩:=Int.eq_ofNat_of_zero_le q0.1;rw [d4] at q0 ⊢;nofun;refine ⟨a,ns,st,rfl,hS,hl,by ac_nf,fun q pl sd px kv ls xs H1 S1 eq ep hP ed hB hG hM hT h1 h7 f0 c2 d5=>?_⟩;nofun;refine ⟨q,_,rfl,SqT.of eq,rfl,?_⟩;nofun;refine ⟨a,pl,ns,px,ls,rfl,hS.same S1,hl,SqL.of ep,hP,by ac_nf,fun kl ys o H2 S2 ek hK d=>?_⟩;nofun;refine ⟨a,sd,pl,sd,ns,st,kv,ls,xs,rfl,(hS.same S1).same S2,hl,by ac_nf,S2 _ _ ed,hB.mono (P':=SNV K pl sd H2) (fun _ _ z=>SNV.same S2 z),hG,hM,hT,h7,f0,d5,fun q2 a0 a2 gx dx D HG SG d2 f6 b0 f8 a4 l b9 i0=>?_⟩;nofun;refine ⟨q2,_,rfl,SqT.of d2,rfl,?_⟩;nofun;have c1:((D.map (·.1)).map (·.nm)).Nodup:=by
  rw [map_map];exact Jia (f:=fun (e:GD × List Str)=>e.1.nm) b9
 refine ⟨a0,a2,gx,dx,D.map (·.1),rfl,SqL.of f6,b0.map (fun e _ v z=>z),SqL.of f8,by have h1:=b0.length;have h2:=a4.length;ac_nf,c1,by rw [length_map];ac_nf,fun q3 gl dl H3 SU e4 eg el=>?_⟩;nofun;refine ⟨q3,_,rfl,SqT.of e4,rfl,?_⟩;nofun;have S3:=SG.trans SU;have hX:All2 (fun (e:GD × List Str) v=>TV K H3 e.1.td v) D gx:=b0.mono fun g v z=>z.sameT SU.t;have hD:All2 (RWT K a0 a2 (spOf (xs.map (·.1))) H3) D dx:=a4.mono fun e v z=>RWT.same SU z;intro x a8 hx g1 h0;have c8:All2 (PDV K H3) o ys:=hK.mono fun p v z=>z.sameT S3.t;have h6:o.length=ls.length:=d.length_eq;have lK:=hK.length;have lX:=hX.length;have b2:∀ p∈o,POk p:=fun p j=>hG.ok p (d.mem_iff.mp j);have Y:(o.map (·.nm)).Nodup:=(List.Perm.nodup_iff (d.map (·.nm))).mpr (Jib hG.nm);have f9:All2 (fun (g:GD) v=>TV K H3 g.td v) (D.map (·.1)) gx:=hX.map fun e _ v z=>z;have Sm:Same H3 (upd (upd H3 a8 (.own x)) x (.ins Ad.Thing a8 [])):=fun b u q=>by rw [Jag (Jah q hx),Jag (Jah q g1)];exact q
 refine ⟨x,a8,kl,gl,ys,gx,o.map Sum.inl,(D.map (·.1)).map Sum.inl,H3,rfl,Jak,hx,Sm,SqL.of (S3 _ _ ek),c8.map fun p j x z=>⟨z,b2 p j⟩,SqL.of eg,f9.map fun g hg x z=>⟨z,by obtain ⟨e,he,rfl⟩:=mem_map.mp hg;exact (l e he).tok⟩,by rw [length_map];ac_nf,by rw [length_map,length_map];ac_nf,?_⟩;rw [Jef hG.tr o [] (by rw [nil_append];exact Y) (fun p j=>d.mem_iff.mp (by simpa using j)),nil_append];dsimp only;rw [JhZ (D.map (·.1)) [] (by rw [nil_append];exact c1) (fun g hg=>by obtain ⟨e,he,rfl⟩:=mem_map.mp hg;exact (l e he).con.sub fun p j=>d.mem_iff.mpr j),nil_append];dsimp only;intro H4 S4 tk;refine ⟨rfl,?_⟩;nofun;have a9:SHC o D (spOf (xs.map (·.1))):=⟨by ac_nf,by ac_nf,by ac_nf,Y,fun e he u hu h=>by
   obtain ⟨e',e8,rfl⟩:=mem_map.mp hu;exact congrArg (·.1) (Jja (f:=fun (e:GD × List Str)=>e.1.nm) b9 e8 he h),b2,fun p j=>(by have h:=hM.pb p (d.mem_iff.mp j);exact ⟨⟨h.1.b1,h.1.s2.mono ⋯⟩,h.2.mono ⋯ ⋯⟩),fun p j=>c2 p (d.mem_iff.mp j),fun e he=>(l e he).tok,fun e he=>(l e he).gb,fun e he=>(l e he).rb.mono ⋯ ⋯,fun f=>hG.plb ∅ f,fun p j=>hG.pls p (d.mem_iff.mp j),fun e he w hw hn=>Jjy hG hM (l e he).nm (l e he).f1 (l e he).f2 ((Jgw hw).sub fun p j=>d.mem_iff.mp j) hn⟩
 have b4:∀ e∈D,e.2.length<=12:=fun e he=>by
  have:=sub_len e.2 (ls.map (·.nm)) (l e he).nm.1 fun n hn=>(l e he).sub n hn;rw [length_map] at this;ac_nf
 have c9:∀ e∈D, ∀ n∈e.2,n∈o.map (·.nm):=fun e he n hn=>by
  obtain ⟨p,j,h⟩:=mem_map.mp ((l e he).sub n hn);exact mem_map.mpr ⟨p,d.mem_iff.mpr j,h⟩
 have g2:∀ e∈D,FB 101 3 (roomF (spOf (xs.map (·.1))) e.1):=fun e he=>(l e he).rb;have r0:∀ e∈D,0<=vl (roomF (spOf (xs.map (·.1))) e.1):=fun e he=>(l e he).r0;have e1:∀ p∈o,FB 100 6 p.mo:=fun p j=>(hM.pb p (d.mem_iff.mp j)).2;have d3:=S3.trans S4;have L:=d3 _ _ ek;have g4:=S4 _ _ el;have c3:All2 (PDV K H4) o ys:=c8.mono fun p v z=>z.sameT S4.t;have g3:All2 (RWT K a0 a2 (spOf (xs.map (·.1))) H4) D dx:=hD.mono fun e v z=>RWT.same S4 z;clear l hD a4;generalize spOf (xs.map (·.1))=pf at *;refine ⟨x,o,D,pf,rfl,tk,a9,r0,fun tl zs rs H5 S5 g9 e5 hZ hR=>?_⟩;obtain ⟨f,hs⟩:=hR.s a9 e1;have hk:=hs.k;have lZ:=hZ.length;have h9:rs.length=o.length:=by simpa using congrArg List.length hk.nm
 have d0:(rs.map (·.nm)).Nodup:=hk.nm ▸ Y;nofun;rename_i bn c7 h4 H5 H6 S6 e6;nofun;rename_i wn I g5 H6 H7 S7 e7;nofun;have d8:bn≠wn:=fun z=>by rw [<- z,e6] at I;cases I
 have g8:=Jb9 S6 I;nofun;have e2:=S5.trans (S6.trans S7);refine ⟨kl,rfl,ForA.byLN (xs:=ys) (SqL.of (e2 _ _ L)) (fun i σ W=>i<=ys.length/\∃ (v9:Option V) (kw:List (Key × V)),σ=[some (.ref a),some (.int (st:Int)),some (.ref kl),some (.ref sd),some (.ref gl),some (.ref dl),some (.ref tl),some (.ref bn),some (.ref wn),v9,none,none,none,none,none]/\Same H6 W/\W wn=some (.dK kw)/\BG (·.nm) (fun (p:PD) v=>v=V.int p.wt) (o.take i) kw) ⟨Nat.zero_le _,none,[],rfl,S7,e7,⟨rfl,rfl⟩⟩ (fun i σ W q=>by obtain ⟨_,_,_,_,q,_⟩:=q;exact SqL.of (q _ _ (S6 _ _ (S5 _ _ L)))) ?_ ?_⟩
 ·rintro i y σ H8 hy ⟨hi,v9,kw,rfl,S8,a5,hW⟩ N0 Z;have li:=(List.getElem?_eq_some_iff.mp hy).1;obtain ⟨p,j,a_,vz,vm,rfl,hb,_,hm⟩:=c3.at_ hy;have b8:=S5.trans (S6.trans S8);have nw:p.nm∉(o.take i).map (·.nm):=by
   rw [List.map_take];exact JdJ Y (by rw [List.getElem?_map,j];rfl)
  have lk:=hW.length;rw [length_take] at lk;nofun;refine ixT (i:=5) (hb.same b8) rfl ?_;refine ixT (i:=0) (hb.same b8) rfl ?_;refine ⟨wn,_,rfl,DPut.k (k:=Sum.inr p.nm) a5 ∅,?_⟩;generalize u9:upd H8 wn _=H9;nofun;have e9:=putE u9;refine Z _ _ ⟨li,_,_,rfl,fun c u h=>by rw [<- u9,Jag (Jah h I)];exact S8 _ _ h,e9,?_⟩;rw [take_succ,j];exact hW.new (a:=p) nw rfl
 ·rintro σ H8 ⟨hi,v9,kw,rfl,S8,a5,hW⟩;rw [take_of_length_le ∅] at hW;nofun;have d1:=S8 _ _ (S6 _ _ e5);refine ⟨tl,rfl,ForA.byLN (xs:=zs) (SqL.of d1) (fun i σ W=>i<=zs.length/\∃ (N X S:Option V) (kv:List (Key × V)),σ=[some (.ref a),some (.int (st:Int)),some (.ref kl),some (.ref sd),some (.ref gl),some (.ref dl),some (.ref tl),some (.ref bn),some (.ref wn),v9,N,X,S,none,none]/\Same H5 W/\W wn=some (.dK kw)/\W bn=some (.dK kv)/\BG (·.nm) (fun r v=>FLV K W r.sl v) (rs.take i) kv) ⟨Nat.zero_le _,none,none,none,[],rfl,S6.trans S8,a5,S8 _ _ e6,⟨rfl,rfl⟩⟩ (fun i σ W q=>by obtain ⟨_,_,_,_,_,_,q,_⟩:=q;exact SqL.of (q _ _ e5)) ?_ ?_⟩
  ·rintro i y σ H9 hy ⟨hi,N,X,S,c6,rfl,S9,O,U,J⟩ N0 Z;have li:=(List.getElem?_eq_some_iff.mp hy).1;obtain ⟨r,C,pr,vs,tt,rfl,a1,c5,B⟩:=hZ.at_ hy;have nw:r.nm∉(rs.take i).map (·.nm):=by
    rw [List.map_take];exact JdJ d0 (by rw [List.getElem?_map,C];rfl)
   have lk:=J.length;rw [length_take] at lk;nofun;refine ⟨pr,_,rfl,a1.same S9,rfl,?_⟩;nofun;refine ⟨bn,_,rfl,DPut.k (k:=Sum.inr r.nm) U ∅,?_⟩;generalize a3:upd H9 bn _=HA;nofun;have f7:=putE a3;have b7:SameT H9 HA:=SameT.put a3 U rfl;refine Z _ _ ⟨li,_,_,_,_,rfl,fun c u h=>by rw [<- a3,Jag (Jah h c7)];exact S9 _ _ h,by rw [<- a3,Jag (Ne.symm d8)];exact O,f7,?_⟩;rw [take_succ,C];exact (J.mono (P':=fun (r:ShD) (v:V)=>FLV K HA r.sl v) fun _ _ z=>FLV.sameT b7 z).new (a:=r) nw (FrV.sameT (S9.t.trans b7) c5)
  ·rintro σ H9 ⟨hi,N,X,S,c6,rfl,S9,O,U,J⟩;rw [take_of_length_le ∅] at J;have c4:=S5.trans S9;nofun;refine ⟨_, .inl (SqL.of (c4 _ _ L)),?_⟩;nofun;refine ⟨_,rfl,by ac_nf,by ac_nf,?_⟩;refine ForR.byN (fun i σ W=>∃ (a7 a6:Option V),σ=[some (.ref a),some (.int (st:Int)),some (.ref kl),some (.ref sd),some (.ref gl),some (.ref dl),some (.ref tl),some (.ref bn),some (.ref wn),v9,N,X,S,a7,a6]/\Same H9 W) ⟨none,none,rfl,Same.refl _⟩ ?_ ?_
   ·rintro i σ HA hi ⟨a7,a6,rfl,SA⟩ N0 Z;have ik:i<o.length:=by ac_nf
    have j:=List.getElem?_eq_getElem ik;have C:=List.getElem?_eq_getElem (by ac_nf:i<rs.length);have b6:=List.getElem_mem ik;have d9:=List.getElem_mem (by ac_nf:i<rs.length);obtain ⟨z,hz,pr,vs,tt,rfl,a1,c5,B⟩:=hZ.get C;obtain ⟨y,hy,b5⟩:=c3.get j;have en:rs[i].nm=o[i].nm:=by
     have:=congrArg (·[i]?) hk.nm;simp only [List.getElem?_map,C,j] at this;exact Option.some.inj this
    have e3:=hs.sp i _ _ j C;generalize rs[i]=r at *;generalize o[i]=p at *;have B:SqT K H5 tt ((spL r.sp).map V.str):=by
     cases e:r.sp with
     | none=>rw [e] at B;exact B
     | some g=>rw [e] at B;exact B
    obtain ⟨a_,vz,vm,rfl,hb,h5,hm⟩:=id b5;obtain ⟨r',v,g0,f4,hv,f5⟩:=J.some (z:=p.nm) (by rw [hk.nm];exact mem_map.mpr ⟨p,b6,rfl⟩);have er:r'=r:=JiF d0 g0 d9 (by show r'.nm=r.nm;rw [en];exact f4);subst er;have d6:=c4.trans SA;rw [Int.zero_add];nofun;refine ⟨by show 1<=sizeLine;ac_nf,?_⟩;rename_i du g7 g6 HA HB SB eB;nofun;rename_i R hR;have G:=SA.trans SB;have m:=d6.trans SB;have key:∀ (b3:Addr) (HC:Hp),Same H9 HC->SqT K HC b3 ((spL r'.sp).map V.str)->R [some (.ref a),some (.int (st:Int)),some (.ref kl),some (.ref sd),some (.ref gl),some (.ref dl),some (.ref tl),some (.ref bn),some (.ref wn),v9,N,X,S,some (.int (i:Int)),some (.ref b3)] HC:=by
     intro b3 HC SC f3;have M:=S9.trans SC;refine hR.go ?_;nofun;refine ixL (i:=i) (SqL.of (M _ _ e5)) hz ?_;refine ixT (i:=2) (a1.same M) rfl ?_;nofun;refine ⟨"tuple", .inr ⟨rfl,_,B.same M⟩,?_⟩;rw [show (!isiB "tuple" "tuple")=false from rfl,if_neg ⋯];nofun;refine ixL (i:=i) (SqL.of (M _ _ e5)) hz ?_;refine ixT (i:=2) (a1.same M) rfl ?_;nofun;refine neTS (B.same M) f3 ?_;nofun;exact Z _ _ ⟨_,_,rfl,SC⟩
    clear hR;refine ixL (i:=i) (SqL.of (m _ _ L)) hy ?_;refine ixT (i:=0) (hb.same m) rfl ?_;refine ⟨bn,v,rfl,by rw [<- hv];exact DGet.k (k:=Sum.inr p.nm) (G _ _ U),?_⟩;refine ixL (i:=i) (SqL.of (m _ _ L)) hy ?_;refine ixT (i:=4) (hb.same m) rfl ?_;refine neF (FrV.same G f5) (FrV.same m hm) ?_;rw [show (decide (r'.sl.1=p.mo.1)&&decide (r'.sl.2=p.mo.2))=decide (r'.sl=p.mo) from by rw [Bool.eq_iff_iff];simp [Prod.ext_iff]];rcases e3 with ⟨h1,h2⟩ | ⟨h1,e0,h2,h3⟩
    ·rw [decide_eq_true h1];nofun;exact key du _ G (by rw [h2];exact SqT.of eB)
    ·rw [decide_eq_false h1];nofun;refine ixL (i:=i) (SqL.of (m _ _ L)) hy ?_;refine ⟨.ref a_,dl,bn,wn,a0,a2,dx,c6,kw,rs,o,D,pf,f,p,e0,rfl,b5.sameT m.t,SqL.of (m _ _ g4),g3.mono (fun e v z=>RWT.same m z),G _ _ U,J.mono (fun _ _ z=>FLV.sameT G.t z),G _ _ O,hW,b6,hs,Y,fun p j=>⟨(b2 p j).w,a9.wt p j⟩,fun e he=>⟨g2 e he,c9 e he,b4 e he⟩,by ac_nf,h2,fun t HC SC eC=>?_⟩;nofun;exact key t _ (G.trans SC) (by rw [h3];exact SqT.of eC)
   ·rintro σ HA ⟨a7,a6,rfl,SA⟩;nofun;exact k _
end
theorem lenE1 {α} {P:List α->Prop} (h:∀ a,P [a]):∀ us:List α,us.length=1->P us|[a],_=>h a
theorem lenE2 {α} {P:List α->Prop} (h:∀ a b,P [a,b]):∀ us:List α,us.length=2->P us|[a,b],_=>h a b
theorem lenE3 {α} {P:List α->Prop} (h:∀ a b c,P [a,b,c]):∀ us:List α,us.length=3->P us|[a,b,c],_=>h a b c
theorem lenE4 {α} {P:List α->Prop} (h:∀ a b c d,P [a,b,c,d]):∀ us:List α,us.length=4->P us|[a,b,c,d],_=>h a b c d
local macro_rules|`(∅)=>`(⟨$(Lean.mkIdent `NoNumber),$(Lean.mkIdent `Twice),$(Lean.mkIdent `NoName),$(Lean.mkIdent `NoPart),$(Lean.mkIdent `NoGap),$(Lean.mkIdent `InRing),$(Lean.mkIdent `Apart),$(Lean.mkIdent `Part),$(Lean.mkIdent `Gap),$(Lean.mkIdent `Joints),$(Lean.mkIdent `Thing),$(Lean.mkIdent `Scale),$(Lean.mkIdent `Lid),(.str "abcdefghijklmnopqrstuvwxyz" $(Lean.mkIdent `Baa)),(.int 8 $(Lean.mkIdent `Bab)),$(Lean.mkIdent `ZERO)⟩)
local macro_rules|`($f:ident∘$n:str)=>`(W.nsIn $(Lean.mkIdent `K) mainGlobals $n=some (some (.ref $f)))|`($i:num∘$n:str∘$t:ident)=>`($i∘$n∘$n∘$t)|`($i:num∘$n:str∘$q:str∘$t:ident)=>do let v:=fun c=>Lean.mkIdent (.mkSimple s!"{c}{i.getNat}");`($(Lean.mkIdent `K).lookup $(v "f")=some ⟨$(v "D"),$(v "A"),.func (W.fnOf $n $q (Jam $t) (Jal $t) (Jae $t) .none $(v "E") $(v "G") $(v "M") $(v "B") $(v "U") $(v "V")),$(v "C")⟩)
local macro_rules|`($c:ident∣$n:str)=>`(W.codeIn $(Lean.mkIdent `K) $c $n=true)
local macro_rules|`(-$f)=>`(W.keepIn $(Lean.mkIdent `K) (.ref $f)=true)
local macro_rules|`($f:ident/$n:str)=>`(W.findIn $(Lean.mkIdent `K) (.ref $f) $n=some none)|`($f:ident/$n:str/$g:ident)=>`(W.findIn $(Lean.mkIdent `K) (.ref $f) $n=some (some (.ref $g)))
local macro_rules|`(tactic|bv_omega)=>`(tactic|first|exact fun _ _ _ _ _ _=>lenE1 fun _=>rfl|exact fun _ _ _ _ _ _=>lenE2 fun _ _=>rfl|exact fun _ _ _ _ _ _=>lenE3 fun _ _ _=>rfl|exact fun _ _ _ _ _ _=>lenE4 fun _ _ _ _=>rfl)
theorem all_mk {l:W.OpenLaw} {w:World} {K:W.Frag} {h:Heap} {mg:Str->Option Value} {fa:Addr} {NoNumber Twice NoName NoPart NoGap InRing Apart Part Gap Joints Thing Scale Lid:Addr} (X:K.In h) (G:h.Ns mainGlobals mg) (hfa:mg "law"=some (.ref fa)) {f1 f2 f3 f4 f5 f6 f7 f8 f9 f10 f11 f12 f13 f14 f15 f16 f17 f18 f19 f20 f21 f22 f23 f24 f25 f26 f27 f28 f29 f30 f31 f32 f33 f34 f35 f36 f37 f38 f39 f40 f41 f42 f43 f44 f45 f46 f47 f48 f49 f50 f51 f52 f53 f54 f55 f56 f57:Addr} {A1 B1 A2 B2 A3 B3 A4 B4 A5 B5 A6 B6 A7 B7 A8 B8 A9 B9 A10 B10 A11 B11 A12 B12 A13 B13 A14 B14 A15 B15 A16 B16 A17 B17 A18 B18 A19 B19 A20 B20 A21 B21 A22 B22 A23 B23 A24 B24 A25 B25 A26 B26 A27 B27 A28 B28 A29 B29 A30 B30 A31 B31 A32 B32 A33 B33 A34 B34 A35 B35 A36 B36 A37 B37 A38 B38 A39 B39 A40 B40 A41 B41 A42 B42 A43 B43 A44 B44 A45 B45 A46 B46 A47 B47 A48 B48 A49 B49 A50 B50 A51 B51 A52 B52 A53 B53 A54 B54 A55 B55 A56 B56 A57 B57:Option Addr} {C1 C2 C3 C4 C5 C6 C7 C8 C9 C10 C11 C12 C13 C14 C15 C16 C17 C18 C19 C20 C21 C22 C23 C24 C25 C26 C27 C28 C29 C30 C31 C32 C33 C34 C35 C36 C37 C38 C39 C40 C41 C42 C43 C44 C45 C46 C47 C48 C49 C50 C51 C52 C53 C54 C55 C56 C57:Array (Option Value)} {D1 E1 G1 M1 U1 V1 D2 E2 G2 M2 U2 V2 D3 E3 G3 M3 U3 V3 D4 E4 G4 M4 U4 V4 D5 E5 G5 M5 U5 V5 D6 E6 G6 M6 U6 V6 D7 E7 G7 M7 U7 V7 D8 E8 G8 M8 U8 V8 D9 E9 G9 M9 U9 V9 D10 E10 G10 M10 U10 V10 D11 E11 G11 M11 U11 V11 D12 E12 G12 M12 U12 V12 D13 E13 G13 M13 U13 V13 D14 E14 G14 M14 U14 V14 D15 E15 G15 M15 U15 V15 D16 E16 G16 M16 U16 V16 D17 E17 G17 M17 U17 V17 D18 E18 G18 M18 U18 V18 D19 E19 G19 M19 U19 V19 D20 E20 G20 M20 U20 V20 D21 E21 G21 M21 U21 V21 D22 E22 G22 M22 U22 V22 D23 E23 G23 M23 U23 V23 D24 E24 G24 M24 U24 V24 D25 E25 G25 M25 U25 V25 D26 E26 G26 M26 U26 V26 D27 E27 G27 M27 U27 V27 D28 E28 G28 M28 U28 V28 D29 E29 G29 M29 U29 V29 D30 E30 G30 M30 U30 V30 D31 E31 G31 M31 U31 V31 D32 E32 G32 M32 U32 V32 D33 E33 G33 M33 U33 V33 D34 E34 G34 M34 U34 V34 D35 E35 G35 M35 U35 V35 D36 E36 G36 M36 U36 V36 D37 E37 G37 M37 U37 V37 D38 E38 G38 M38 U38 V38 D39 E39 G39 M39 U39 V39 D40 E40 G40 M40 U40 V40 D41 E41 G41 M41 U41 V41 D42 E42 G42 M42 U42 V42 D43 E43 G43 M43 U43 V43 D44 E44 G44 M44 U44 V44 D45 E45 G45 M45 U45 V45 D46 E46 G46 M46 U46 V46 D47 E47 G47 M47 U47 V47 D48 E48 G48 M48 U48 V48 D49 E49 G49 M49 U49 V49 D50 E50 G50 M50 U50 V50 D51 E51 G51 M51 U51 V51 D52 E52 G52 M52 U52 V52 D53 E53 G53 M53 U53 V53 D54 E54 G54 M54 U54 V54 D55 E55 G55 M55 U55 V55 D56 E56 G56 M56 U56 V56 D57 E57 G57 M57 U57 V57:Value}
  {Baa:Tok}
  {Bab:Tok}
  {ZERO:Addr} {BdY:Option Addr} {BdZ:Nat} {Bd0:Array (Option Value)} {BdQ BdR:Tok}
  (g_NoNumber:NoNumber∘"NoNumber")
  (Bds:Twice∘"Twice")
  (Bc7:NoName∘"NoName")
  (Bc8:NoPart∘"NoPart")
  (Bdt:NoGap∘"NoGap")
  (Bc9:InRing∘"InRing")
  (Bdu:Apart∘"Apart")
  (BdA:Part∘"Part")
  (BdS:Gap∘"Gap")
  (Bcv:Joints∘"Joints")
  (Bda:Thing∘"Thing")
  (Bdb:Scale∘"Scale")
  (g_Lid:Lid∘"Lid")
  (a1:f1∘"common_divisor") (l1:1∘"common_divisor"∘Bah) (c1:U1∣"common_divisor") (k1:-f1)
  (a2:f2∘"plus") (l2:2∘"plus"∘BcV) (c2:U2∣"plus") (k2:-f2)
  (a3:f3∘"minus") (l3:3∘"minus"∘Bco) (c3:U3∣"minus") (k3:-f3)
  (a4:f4∘"times") (l4:4∘"times"∘Bcp) (c4:U4∣"times") (k4:-f4)
  (a5:f5∘"over") (l5:5∘"over"∘BcX) (c5:U5∣"over") (k5:-f5)
  (a6:f6∘"under") (l6:6∘"under"∘Bcq) (c6:U6∣"under") (k6:-f6)
  (a7:f7∘"is_name") (l7:7∘"is_name"∘Bbr) (c7:U7∣"is_name") (k7:-f7)
  (a8:f8∘"is_whole") (l8:8∘"is_whole"∘BaZ) (c8:U8∣"is_whole") (k8:-f8)
  (a9:f9∘"is_fraction") (l9:9∘"is_fraction"∘Baz) (c9:U9∣"is_fraction") (k9:-f9)
  (a10:f10∘"is_bound") (l10:10∘"is_bound"∘Ba0) (c10:U10∣"is_bound") (k10:-f10)
  (a11:f11∘"are_faces") (l11:11∘"are_faces"∘BaR) (c11:U11∣"are_faces") (k11:-f11)
  (a12:f12∘"are_bounds") (l12:12∘"are_bounds"∘BaG) (c12:U12∣"are_bounds") (k12:-f12)
  (a13:f13∘"is_tie") (l13:13∘"is_tie"∘Bb2) (c13:U13∣"is_tie") (k13:-f13)
  (a14:Part/"__init__"/f14) (l14:14∘"__init__"∘"Part.__init__"∘Bal) (c14:U14∣"Part.__init__") (k14:-f14)
  (a15:Part/"plain"/f15) (l15:15∘"plain"∘"Part.plain"∘BaH) (c15:U15∣"Part.plain") (k15:-f15)
  (a16:Gap/"__init__"/f16) (l16:16∘"__init__"∘"Gap.__init__"∘Bap) (c16:U16∣"Gap.__init__") (k16:-f16)
  (a17:Gap/"plain"/f17) (l17:17∘"plain"∘"Gap.plain"∘BaT) (c17:U17∣"Gap.plain") (k17:-f17)
  (a18:f18∘"is_part") (l18:18∘"is_part"∘Bbs) (c18:U18∣"is_part") (k18:-f18)
  (a19:f19∘"is_gap") (l19:19∘"is_gap"∘Bb3) (c19:U19∣"is_gap") (k19:-f19)
  (a20:f20∘"part_of") (l20:20∘"part_of"∘Bbt) (c20:U20∣"part_of") (k20:-f20)
  (a21:f21∘"gap_of") (l21:21∘"gap_of"∘Bb4) (c21:U21∣"gap_of") (k21:-f21)
  (a22:Joints/"__init__"/f22) (l22:22∘"__init__"∘"Joints.__init__"∘Baf) (c22:U22∣"Joints.__init__") (k22:-f22)
  (a23:Joints/"link"/f23) (l23:23∘"link"∘"Joints.link"∘BaA) (c23:U23∣"Joints.link") (k23:-f23)
  (a24:Joints/"way_between"/f24) (l24:24∘"way_between"∘"Joints.way_between"∘Bad) (c24:U24∣"Joints.way_between") (k24:-f24)
  (a25:Thing/"__init__"/f25) (l25:25∘"__init__"∘"Thing.__init__"∘Bai) (c25:U25∣"Thing.__init__") (k25:-f25)
  (a26:Thing/"parts"/f26) (l26:26∘"parts"∘"Thing.parts"∘BaB) (c26:U26∣"Thing.parts") (k26:-f26)
  (a27:Thing/"gaps"/f27) (l27:27∘"gaps"∘"Thing.gaps"∘BaI) (c27:U27∣"Thing.gaps") (k27:-f27)
  (a28:Thing/"way"/f28) (l28:28∘"way"∘"Thing.way"∘BaU) (c28:U28∣"Thing.way") (k28:-f28)
  (a29:Thing/"middle"/f29) (l29:29∘"middle"∘"Thing.middle"∘Baq) (c29:U29∣"Thing.middle") (k29:-f29)
  (a30:Thing/"room"/f30) (l30:30∘"room"∘"Thing.room"∘BaJ) (c30:U30∣"Thing.room") (k30:-f30)
  (a31:Scale/"__init__"/f31) (l31:31∘"__init__"∘"Scale.__init__"∘Baj) (c31:U31∣"Scale.__init__") (k31:-f31)
  (a32:Scale/"lifted"/f32) (l32:32∘"lifted"∘"Scale.lifted"∘Bar) (c32:U32∣"Scale.lifted") (k32:-f32)
  (a33:Scale/"lowered"/f33) (l33:33∘"lowered"∘"Scale.lowered"∘Bam) (c33:U33∣"Scale.lowered") (k33:-f33)
  (a34:f34∘"scale_of") (l34:34∘"scale_of"∘Ba1) (c34:U34∣"scale_of") (k34:-f34)
  (a35:f35∘"part_names") (l35:35∘"part_names"∘BaK) (c35:U35∣"part_names") (k35:-f35)
  (a36:Lid/"__init__"/f36) (l36:36∘"__init__"∘"Lid.__init__"∘Bas) (c36:U36∣"Lid.__init__") (k36:-f36)
  (a37:Lid/"full_level"/f37) (l37:37∘"full_level"∘"Lid.full_level"∘Bak) (c37:U37∣"Lid.full_level") (k37:-f37)
  (a38:Lid/"settle"/f38) (l38:38∘"settle"∘"Lid.settle"∘BaL) (c38:U38∣"Lid.settle") (k38:-f38)
  (a39:Lid/"has_stopped"/f39) (l39:39∘"has_stopped"∘"Lid.has_stopped"∘Bag) (c39:U39∣"Lid.has_stopped") (k39:-f39)
  (a40:f40∘"lids_of") (l40:40∘"lids_of"∘Bbu) (c40:U40∣"lids_of") (k40:-f40)
  (a41:f41∘"most_levels") (l41:41∘"most_levels"∘BaC) (c41:U41∣"most_levels") (k41:-f41)
  (a42:f42∘"coming_stops") (l42:42∘"coming_stops"∘Bat) (c42:U42∣"coming_stops") (k42:-f42)
  (a43:f43∘"first_level") (l43:43∘"first_level"∘BaD) (c43:U43∣"first_level") (k43:-f43)
  (a44:f44∘"stopped_at") (l44:44∘"stopped_at"∘BaM) (c44:U44∣"stopped_at") (k44:-f44)
  (a45:f45∘"risen_levels") (l45:45∘"risen_levels"∘Bau) (c45:U45∣"risen_levels") (k45:-f45)
  (a46:f46∘"gap_stop") (l46:46∘"gap_stop"∘Ba2) (c46:U46∣"gap_stop") (k46:-f46)
  (a47:f47∘"share") (l47:47∘"share"∘Bcr) (c47:U47∣"share") (k47:-f47)
  (a48:f48∘"_law_cell") (l48:48∘"_law_cell"∘Ba3) (c48:U48∣"_law_cell") (k48:-f48)
  (a49:f49∘"_law_low") (l49:49∘"_law_low"∘Bbv) (c49:U49∣"_law_low") (k49:-f49)
  (a50:f50∘"_law_plus") (l50:50∘"_law_plus"∘Ba4) (c50:U50∣"_law_plus") (k50:-f50)
  (a51:f51∘"_law_name") (l51:51∘"_law_name"∘Ba5) (c51:U51∣"_law_name") (k51:-f51)
  (a52:f52∘"_law_parts") (l52:52∘"_law_parts"∘BaV) (c52:U52∣"_law_parts") (k52:-f52)
  (a53:f53∘"_law_listed") (l53:53∘"_law_listed"∘BaO) (c53:U53∣"_law_listed") (k53:-f53)
  (a54:f54∘"_law_gaps") (l54:54∘"_law_gaps"∘Ba6) (c54:U54∣"_law_gaps") (k54:-f54)
  (a55:f55∘"_law_stops") (l55:55∘"_law_stops"∘BaW) (c55:U55∣"_law_stops") (k55:-f55)
  (a56:f56∘"_law_unlike") (l56:56∘"_law_unlike"∘BaP) (c56:U56∣"_law_unlike") (k56:-f56)
  (a57:f57∘"law") (l57:57∘"law"∘Bc6) (c57:U57∣"law") (k57:-f57)
  (z_abs:W.nsIn K mainGlobals "abs"=some none)
  (z_isinstance:W.nsIn K mainGlobals "isinstance"=some none)
  (z_len:W.nsIn K mainGlobals "len"=some none)
  (z_int:W.nsIn K mainGlobals "int"=some none)
  (z_bool:W.nsIn K mainGlobals "bool"=some none)
  (z_tuple:W.nsIn K mainGlobals "tuple"=some none)
  (z_str:W.nsIn K mainGlobals "str"=some none)
  (z_range:W.nsIn K mainGlobals "range"=some none)
  (z_list:W.nsIn K mainGlobals "list"=some none)
  (z_min:W.nsIn K mainGlobals "min"=some none)
  (z_sorted:W.nsIn K mainGlobals "sorted"=some none)
  (z_all:W.nsIn K mainGlobals "all"=some none)
  (z_sum:W.nsIn K mainGlobals "sum"=some none)
  (z_dict:W.nsIn K mainGlobals "dict"=some none)
  (Ba8:W.nsIn K mainGlobals "SMALL_LETTERS"=some (some (.str "abcdefghijklmnopqrstuvwxyz" Baa)))
  (Bbh:W.nsIn K mainGlobals "LONGEST_NAME"=some (some (.int 8 Bab)))
  (BdH:ZERO∘"ZERO")
  (h_ZERO:K.lookup ZERO=some ⟨.type "tuple",BdY, .seq #[.int 0 BdQ, .int 1 BdR] BdZ,Bd0⟩)
  (x_NoNumber:W.excIn K NoNumber [.type "ValueError", .type "Exception", .type "BaseException", .type "object"] "ValueError.__new__"=true)
  (Bcn:W.excIn K Twice [.type "ValueError", .type "Exception", .type "BaseException", .type "object"] "ValueError.__new__"=true)
  (Bb8:W.excIn K NoName [.type "ValueError", .type "Exception", .type "BaseException", .type "object"] "ValueError.__new__"=true)
  (Bb9:W.excIn K NoPart [.type "ValueError", .type "Exception", .type "BaseException", .type "object"] "ValueError.__new__"=true)
  (Bcy:W.excIn K NoGap [.type "ValueError", .type "Exception", .type "BaseException", .type "object"] "ValueError.__new__"=true)
  (Bca:W.excIn K InRing [.type "ValueError", .type "Exception", .type "BaseException", .type "object"] "ValueError.__new__"=true)
  (Bcz:W.excIn K Apart [.type "ValueError", .type "Exception", .type "BaseException", .type "object"] "ValueError.__new__"=true)
  (Bdv:W.makesIn K Part=true)
  (Bdw:Part/"__init__"/f14)
  (Bdx:W.isFn K (.ref f14)=true)
  (Bdy:-Part)
  (BdI:W.makesIn K Gap=true)
  (BdJ:Gap/"__init__"/f16)
  (BdK:W.isFn K (.ref f16)=true)
  (BdL:-Gap)
  (BcO:W.makesIn K Joints=true)
  (BcP:Joints/"__init__"/f22)
  (BcQ:W.isFn K (.ref f22)=true)
  (BcR:-Joints)
  (Bdc:W.makesIn K Thing=true)
  (Bdd:Thing/"__init__"/f25)
  (Bde:W.isFn K (.ref f25)=true)
  (Bdf:-Thing)
  (Bdg:W.makesIn K Scale=true)
  (Bdh:Scale/"__init__"/f31)
  (Bdi:W.isFn K (.ref f31)=true)
  (Bdj:-Scale)
  (mk_Lid:W.makesIn K Lid=true)
  (mi_Lid:Lid/"__init__"/f36)
  (mf_Lid:W.isFn K (.ref f36)=true)
  (mp_Lid:-Lid)
  (Bby:Part/"plain"/f15)
  (Bbz:W.isFn K (.ref f15)=true)
  (BbX:Gap/"plain"/f17)
  (BbY:W.isFn K (.ref f17)=true)
  (Bbi:Joints/"link"/f23)
  (Bbj:W.isFn K (.ref f23)=true)
  (Bax:Joints/"way_between"/f24)
  (Bay:W.isFn K (.ref f24)=true)
  (Bbk:Thing/"parts"/f26)
  (Bbl:W.isFn K (.ref f26)=true)
  (BbA:Thing/"gaps"/f27)
  (BbB:W.isFn K (.ref f27)=true)
  (BbZ:Thing/"way"/f28)
  (Bb0:W.isFn K (.ref f28)=true)
  (Ba9:Thing/"middle"/f29)
  (Bba:W.isFn K (.ref f29)=true)
  (BbC:Thing/"room"/f30)
  (BbD:W.isFn K (.ref f30)=true)
  (Bbb:Scale/"lifted"/f32)
  (Bbc:W.isFn K (.ref f32)=true)
  (me_lowered_Scale:Scale/"lowered"/f33)
  (mm_lowered_Scale:W.isFn K (.ref f33)=true)
  (me_full_level_Lid:Lid/"full_level"/f37)
  (mm_full_level_Lid:W.isFn K (.ref f37)=true)
  (me_settle_Lid:Lid/"settle"/f38)
  (mm_settle_Lid:W.isFn K (.ref f38)=true)
  (me_has_stopped_Lid:Lid/"has_stopped"/f39)
  (mm_has_stopped_Lid:W.isFn K (.ref f39)=true)
  (Bcb:W.plainGet K Part Str.empty=true)
  (Bcc:W.hasDictIn K Part=true)
  (Bcd:W.plainOver K Part=true)
  (Bce:W.findIn K (.ref Part) "__setattr__"=some (some (.builtin "object.__setattr__")))
  (Bcf:Part/"name")
  (Bcg:Part/"start")
  (Bch:Part/"end")
  (Bci:Part/"size")
  (Bcj:Part/"most")
  (Bck:Part/"weight")
  (BcA:W.plainGet K Gap Str.empty=true)
  (BcB:W.hasDictIn K Gap=true)
  (BcC:W.plainOver K Gap=true)
  (BcD:W.findIn K (.ref Gap) "__setattr__"=some (some (.builtin "object.__setattr__")))
  (BcE:Gap/"name")
  (BcF:Gap/"one")
  (BcG:Gap/"other")
  (BcH:Gap/"low")
  (BcI:Gap/"high")
  (Bbm:W.plainGet K Joints Str.empty=true)
  (Bbn:W.hasDictIn K Joints=true)
  (Bbo:W.plainOver K Joints=true)
  (Bbp:W.findIn K (.ref Joints) "__setattr__"=some (some (.builtin "object.__setattr__")))
  (Bbq:Joints/"leads")
  (BbF:W.plainGet K Thing Str.empty=true)
  (BbG:W.hasDictIn K Thing=true)
  (BbH:W.plainOver K Thing=true)
  (BbI:W.findIn K (.ref Thing) "__setattr__"=some (some (.builtin "object.__setattr__")))
  (BbJ:Thing/"parts_by_name")
  (BbK:Thing/"gaps_by_name")
  (BbL:Thing/"ways")
  (BbM:W.plainGet K Scale Str.empty=true)
  (BbN:W.hasDictIn K Scale=true)
  (BbO:W.plainOver K Scale=true)
  (BbP:W.findIn K (.ref Scale) "__setattr__"=some (some (.builtin "object.__setattr__")))
  (BbQ:Scale/"bottom")
  (BbR:Scale/"factors")
  (cl1_Lid:W.plainGet K Lid Str.empty=true)
  (cl2_Lid:W.hasDictIn K Lid=true)
  (cl3_Lid:W.plainOver K Lid=true)
  (cl4_Lid:W.findIn K (.ref Lid) "__setattr__"=some (some (.builtin "object.__setattr__")))
  (na1_Lid:Lid/"name")
  (na2_Lid:Lid/"rest")
  (na3_Lid:Lid/"weights")
  (na4_Lid:Lid/"load")
  (na5_Lid:Lid/"last_level")
  : ∃ fd:FuncData,(∀ (s:Shared) (v:Value),BindsTo s fd ⟨[v],[]⟩ [("_law_script",v)])/\∀ base:Heap,K.In base->base.Ns mainGlobals mg->FnOk l.prog w K mg base (CX1 l.prog w) 11 fa fd ["_law_script"] (Bdk K):=by
 have e:=hfa.symm.trans (W.mg_of X G a57);cases e;have T:Txt K mg ∅:=⟨W.mg_none_of X G z_abs,W.mg_none_of X G z_isinstance,W.mg_none_of X G z_len,W.mg_none_of X G z_int,W.mg_none_of X G z_bool,W.mg_none_of X G z_tuple,W.mg_none_of X G z_str,W.mg_none_of X G z_range,W.mg_none_of X G z_list,W.mg_none_of X G z_min,W.mg_none_of X G z_sorted,W.mg_none_of X G z_all,W.mg_none_of X G z_sum,W.mg_none_of X G z_dict,W.mg_of X G g_NoNumber,W.mg_of X G Bds,W.mg_of X G Bc7,W.mg_of X G Bc8,W.mg_of X G Bdt,W.mg_of X G Bc9,W.mg_of X G Bdu,W.mg_of X G BdA,W.mg_of X G BdS,W.mg_of X G Bcv,W.mg_of X G Bda,W.mg_of X G Bdb,W.mg_of X G g_Lid,W.mg_of X G Ba8,⟨_,rfl⟩,W.mg_of X G Bbh,⟨_,rfl⟩,W.mg_of X G BdH,rfl,fun H=>.inr ⟨_,_,_,h_ZERO,rfl,rfl,by show 2<=sizeLine;decide, .cons ⟨_,rfl⟩ (.cons ⟨_,rfl⟩ (.nil))⟩,x_NoNumber,Bcn,Bb8,Bb9,Bcy,Bca,Bcz,Bcb,Bcc,Bcd,Bce,Bcf,Bcg,Bch,Bci,Bcj,Bck,BcA,BcB,BcC,BcD,BcE,BcF,BcG,BcH,BcI,Bbm,Bbn,Bbo,Bbp,Bbq,BbF,BbG,BbH,BbI,BbJ,BbK,BbL,BbM,BbN,BbO,BbP,BbQ,BbR,cl1_Lid,cl2_Lid,cl3_Lid,cl4_Lid,na1_Lid,na2_Lid,na3_Lid,na4_Lid,na5_Lid,(fun C hC=>by cases hC;exact ⟨⟨Bcb,Bcc,Bcd,Bce⟩,Bcf,Bcg,Bch,Bci,Bcj,Bck⟩),(fun C hC=>by cases hC;exact ⟨⟨BcA,BcB,BcC,BcD⟩,BcE,BcF,BcG,BcH,BcI⟩),(fun C hC=>by cases hC;exact ⟨⟨Bbm,Bbn,Bbo,Bbp⟩,Bbq⟩),(fun C hC=>by cases hC;exact ⟨⟨BbF,BbG,BbH,BbI⟩,BbJ,BbK,BbL⟩),(fun C hC=>by cases hC;exact ⟨⟨BbM,BbN,BbO,BbP⟩,BbQ,BbR⟩),(fun C hC=>by cases hC;exact ⟨⟨cl1_Lid,cl2_Lid,cl3_Lid,cl4_Lid⟩,na1_Lid,na2_Lid,na3_Lid,na4_Lid,na5_Lid⟩)⟩;have F1:=Jao l1 c1 k1;have F2:=Jao l2 c2 k2;have F3:=Jao l3 c3 k3;have F4:=Jao l4 c4 k4;have F5:=Jao l5 c5 k5;have F6:=Jao l6 c6 k6;have F7:=Jao l7 c7 k7;have F8:=Jao l8 c8 k8;have F9:=Jao l9 c9 k9;have F10:=Jao l10 c10 k10;have F11:=Jao l11 c11 k11;have F12:=Jao l12 c12 k12;have F13:=Jao l13 c13 k13;have F14:=Jao l14 c14 k14;have F15:=Jao l15 c15 k15;have F16:=Jao l16 c16 k16;have F17:=Jao l17 c17 k17;have F18:=Jao l18 c18 k18;have F19:=Jao l19 c19 k19;have F20:=Jao l20 c20 k20;have F21:=Jao l21 c21 k21;have F22:=Jao l22 c22 k22;have F23:=Jao l23 c23 k23;have F24:=Jao l24 c24 k24;have F25:=Jao l25 c25 k25;have F26:=Jao l26 c26 k26;have F27:=Jao l27 c27 k27;have F28:=Jao l28 c28 k28;have F29:=Jao l29 c29 k29;have F30:=Jao l30 c30 k30;have F31:=Jao l31 c31 k31;have F32:=Jao l32 c32 k32;have F33:=Jao l33 c33 k33;have F34:=Jao l34 c34 k34;have F35:=Jao l35 c35 k35;have F36:=Jao l36 c36 k36;have F37:=Jao l37 c37 k37;have F38:=Jao l38 c38 k38;have F39:=Jao l39 c39 k39;have F40:=Jao l40 c40 k40;have F41:=Jao l41 c41 k41;have F42:=Jao l42 c42 k42;have F43:=Jao l43 c43 k43;have F44:=Jao l44 c44 k44;have F45:=Jao l45 c45 k45;have F46:=Jao l46 c46 k46;have F47:=Jao l47 c47 k47;have F48:=Jao l48 c48 k48;have F49:=Jao l49 c49 k49;have F50:=Jao l50 c50 k50;have F51:=Jao l51 c51 k51;have F52:=Jao l52 c52 k52;have F53:=Jao l53 c53 k53;have F54:=Jao l54 c54 k54;have F55:=Jao l55 c55 k55;have F56:=Jao l56 c56 k56;have F57:=Jao l57 c57 k57;refine ⟨W.fnOf "law" "law" (Jam Bc6) (Jal Bc6) (Jae Bc6) .none E57 G57 M57 B57 U57 V57,fun s v=>.of_eq rfl,fun base _ _=>?_⟩;have cC:∀ {k:Nat} {x:Str} {ps:List Str} {sp:Sp} {f:Addr} {fd:FuncData},FnOk l.prog w K mg base (CX1 l.prog w) k f fd ps sp->W.nsIn K mainGlobals x=some (some (.ref f))->W.keepIn K (.ref f)=true->Binds K fd ps []->Cal l.prog w K mg base k x ps [] sp:=fun h a c b=>⟨_,_,[],h,W.mg_of X G a,c,b, .nil⟩;have cK:∀ {k:Nat} {x:Str} {ps:List Str} {sp:Sp} {f C:Addr} {fd:FuncData},FnOk l.prog w K mg base (CX1 l.prog w) k f fd ps sp->W.nsIn K mainGlobals x=some (some (.ref C))->Mk K C f->Binds K fd ps []->KCal l.prog w K mg base k x C ps sp:=fun h a c b=>⟨_,_,h,W.mg_of X G a,c,b⟩;have cM:∀ {k:Nat} {m:Str} {Cs:Addr->Prop} {ps:List Str} {sp:Sp} {f:Addr} {fd:FuncData},FnOk l.prog w K mg base (CX1 l.prog w) k f fd ps sp->(∀ C,Cs C->Cls K C/\Meth K C m f)->W.keepIn K (.ref f)=true->Binds K fd ps []->MCal l.prog w K mg base k m Cs ps sp:=fun h a c b=>⟨_,_,h,a,c,b⟩;have Bac:=cC (Jdu F1 T) a1 k1 (F1.binds (by bv_omega));have BcW:=cC (Jkx F2 T Bac) a2 k2 (F2.binds (by bv_omega));have Bbe:=cC (Jjc F3 T BcW) a3 k3 (F3.binds (by bv_omega));have Bbd:=cC (Jje F4 T Bac) a4 k4 (F4.binds (by bv_omega));have BcZ:=cC (Jkw F5 T Bbd) a5 k5 (F5.binds (by bv_omega));have BaF:=cC (Jjf F6 T) a6 k6 (F6.binds (by bv_omega));have BaE:=cC (Jho F7 T) a7 k7 (F7.binds (by bv_omega));have BaQ:=cC (Jgo F8 T) a8 k8 (F8.binds (by bv_omega));have Bao:=cC (Jez F9 T BaQ Bac) a9 k9 (F9.binds (by bv_omega));have Bb1:=cC (Jgn F10 T Bao) a10 k10 (F10.binds (by bv_omega));have BaS:=cC (JfO F11 T BaE) a11 k11 (F11.binds (by bv_omega));have BbS:=cC (Je7 F12 T Bb1 BaF) a12 k12 (F12.binds (by bv_omega));have Bc1:=cC (Jih F13 T BaE BaS BbS) a13 k13 (F13.binds (by bv_omega));have BdE:=cK (JdG F14 T) BdA ⟨Bdv,Bdw,Bdx,Bdy⟩ (F14.binds (by bv_omega));have Bdo:=cM (m:="plain") (Cs:=IsPart ∅) (Je4 F15 T) (fun C hC=>⟨(T.BcU C hC).cls,(by cases hC;exact ⟨Bby,Bbz,k15⟩)⟩) k15 (F15.binds (by bv_omega));have BdX:=cK (Jd7 F16 T) BdS ⟨BdI,BdJ,BdK,BdL⟩ (F16.binds (by bv_omega));have BcM:=cM (m:="plain") (Cs:=IsGap ∅) (JfM F17 T) (fun C hC=>⟨(T.BdD C hC).cls,(by cases hC;exact ⟨BbX,BbY,k17⟩)⟩) k17 (F17.binds (by bv_omega));have BcK:=cC (Jhp F18 T BaE BaS Bao BaQ BaF) a18 k18 (F18.binds (by bv_omega));have Bc2:=cC (Jig F19 T Bc1) a19 k19 (F19.binds (by bv_omega));have BcL:=cC (Jhs F20 T BcK BdE) a20 k20 (F20.binds (by bv_omega));have Bc4:=cC (Jif F21 T Bc2 BdX) a21 k21 (F21.binds (by bv_omega));have Bc3:=cK (Jda F22 T) Bcv ⟨BcO,BcP,BcQ,BcR⟩ (F22.binds (by bv_omega));have BdF:=cM (m:="link") (Cs:=Jc2 ∅) (Jew F23 T) (fun C hC=>⟨(T.Bcl C hC).cls,(by cases hC;exact ⟨Bbi,Bbj,k23⟩)⟩) k23 (F23.binds (by bv_omega));have BaY:=cM (m:="way_between") (Cs:=Jc2 ∅) (Jcz F24 T) (fun C hC=>⟨(T.Bcl C hC).cls,(by cases hC;exact ⟨Bax,Bay,k24⟩)⟩) k24 (F24.binds (by bv_omega));have Bdq:=cK (Jdt F25 T Bc3 BcL Bc4 BaY BdF) Bda ⟨Bdc,Bdd,Bde,Bdf⟩ (F25.binds (by bv_omega));have BaX:=cM (m:="parts") (Cs:=Jbd ∅) (Jex F26 T Bdo) (fun C hC=>⟨(T.Ba7 C hC).cls,(by cases hC;exact ⟨Bbk,Bbl,k26⟩)⟩) k26 (F26.binds (by bv_omega));have BcY:=cM (m:="gaps") (Cs:=Jbd ∅) (Je5 F27 T BcM) (fun C hC=>⟨(T.Ba7 C hC).cls,(by cases hC;exact ⟨BbA,BbB,k27⟩)⟩) k27 (F27.binds (by bv_omega));have BdB:=cM (m:="way") (Cs:=Jbd ∅) (JfN F28 T) (fun C hC=>⟨(T.Ba7 C hC).cls,(by cases hC;exact ⟨BbZ,Bb0,k28⟩)⟩) k28 (F28.binds (by bv_omega));have Bc5:=cM (m:="middle") (Cs:=Jbd ∅) (Jea F29 T BdB BcW Bbe) (fun C hC=>⟨(T.Ba7 C hC).cls,(by cases hC;exact ⟨Ba9,Bba,k29⟩)⟩) k29 (F29.binds (by bv_omega));have BdG:=cM (m:="room") (Cs:=Jbd ∅) (Je6 F30 T Bc5 Bbe BaF) (fun C hC=>⟨(T.Ba7 C hC).cls,(by cases hC;exact ⟨BbC,BbD,k30⟩)⟩) k30 (F30.binds (by bv_omega));have Bdp:=cK (Jds F31 T Bac) Bdb ⟨Bdg,Bdh,Bdi,Bdj⟩ (F31.binds (by bv_omega));have Bb5:=cM (m:="lifted") (Cs:=Jdm ∅) (Jd9 F32 T Bac) (fun C hC=>⟨(T.BcJ C hC).cls,(by cases hC;exact ⟨Bbb,Bbc,k32⟩)⟩) k32 (F32.binds (by bv_omega));have m_lowered:=cM (m:="lowered") (Cs:=Jdm ∅) (JdH F33 T Bac) (fun C hC=>⟨(T.BcJ C hC).cls,(by cases hC;exact ⟨me_lowered_Scale,mm_lowered_Scale,k33⟩)⟩) k33 (F33.binds (by bv_omega));have Bcs:=cC (Jgt F34 T BaX BcY Bdp) a34 k34 (F34.binds (by bv_omega));have BbT:=cC (Jfa F35 T BdB) a35 k35 (F35.binds (by bv_omega));have k_Lid:=cK (Jd8 F36 T) g_Lid ⟨mk_Lid,mi_Lid,mf_Lid,mp_Lid⟩ (F36.binds (by bv_omega));have m_full_level:=cM (m:="full_level") (Cs:=IsLid ∅) (Jdr F37 T BcZ) (fun C hC=>⟨(T.c_Lid C hC).cls,(by cases hC;exact ⟨me_full_level_Lid,mm_full_level_Lid,k37⟩)⟩) k37 (F37.binds (by bv_omega));have m_settle:=cM (m:="settle") (Cs:=IsLid ∅) (Je3 F38 T Bbe Bbd) (fun C hC=>⟨(T.c_Lid C hC).cls,(by cases hC;exact ⟨me_settle_Lid,mm_settle_Lid,k38⟩)⟩) k38 (F38.binds (by bv_omega));have m_has_stopped:=cM (m:="has_stopped") (Cs:=IsLid ∅) (Jdb F39 T) (fun C hC=>⟨(T.c_Lid C hC).cls,(by cases hC;exact ⟨me_has_stopped_Lid,mm_has_stopped_Lid,k39⟩)⟩) k39 (F39.binds (by bv_omega));have BcN:=cC (Jhr F40 T BaX BcY BdG BaF BbT k_Lid Bb5) a40 k40 (F40.binds (by bv_omega));have Bbx:=cC (JeA F41 T BaX Bb5 BcZ) a41 k41 (F41.binds (by bv_omega));have Bbf:=cC (Jeb F42 T m_full_level) a42 k42 (F42.binds (by bv_omega));have Bbw:=cC (Jey F43 T BaF) a43 k43 (F43.binds (by bv_omega));have BbU:=cC (Jfb F44 T) a44 k44 (F44.binds (by bv_omega));have Bbg:=cC (Jec F45 T Bbf Bbw BbU m_settle) a45 k45 (F45.binds (by bv_omega));have Bct:=cC (Jgm F46 T m_has_stopped) a46 k46 (F46.binds (by bv_omega));have Bdr:=cC (Jjd F47 T Bcs BcN Bbx Bbg BaX m_lowered Bbd Bct) a47 k47 (F47.binds (by bv_omega));have Bae:=cC (Jgp F48 T) a48 k48 (F48.binds (by bv_omega));have Baw:=cC (Jhq F49 T) a49 k49 (F49.binds (by bv_omega));have Ban:=cC (Jgs F50 T Baw) a50 k50 (F50.binds (by bv_omega));have BaN:=cC (Jgr F51 T) a51 k51 (F51.binds (by bv_omega));have Bb6:=cC (JfP F52 T Bae BaN Baw Ban) a52 k52 (F52.binds (by bv_omega));have BbV:=cC (Je8 F53 T Bae) a53 k53 (F53.binds (by bv_omega));have Bcu:=cC (Jgq F54 T Bae BaN Baw Ban) a54 k54 (F54.binds (by bv_omega));have Bb7:=cC (JfQ F55 T Ban) a55 k55 (F55.binds (by bv_omega));have BbW:=cC (Je9 F56 T) a56 k56 (F56.binds (by bv_omega));exact Jln F57 T Bae Bb6 BbV Bcu Bdq BbW Bdr Bb7
theorem walk {l:PySem.W.OpenLaw} {q:Program} {loose:List Str} {XP:(Str->Option Value)->Heap->Prop} {YP:World->Heap->Prop} {d:DefRec} {K:Params->PySem.W.Frag} (hn:l.most=some 63) (hdf:d.params.defaults=[])
  (hY:∀ (w:World) (h:Heap),YP w h->(K w.params).In h)
  (F:∀ (w:World) (mg:Str->Option Value) (fa:Addr) (h:Heap),(K w.params).In h->h.Ns mainGlobals mg->mg d.name=some (.ref fa) ->
   ∃ fd:FuncData,(∀ (s:Shared) (u:Value),BindsTo s fd ⟨[u],[]⟩ [("_law_script",u)])/\∀ base:Heap,(K w.params).In base->base.Ns mainGlobals mg->FnOk l.prog w (K w.params) mg base (CX1 l.prog w) 11 fa fd ["_law_script"] (Bdk (K w.params))) :
  PySem.W.WalkO q loose XP YP l.row.toRowW d [] (fun f vs=>PySem.call f vs) :=
 L2.JiW (n:=63) (k:=11) (x:="_law_script") (CX:=fun w=>CX1 l.prog w) (sp:=fun w=>Bdk (K w.params)) hn (by decide) hdf ⟨rfl,by decide,by decide⟩ hY F (fun _ _ a ns hl _ hS=>⟨a,ns,rfl,hS,hl,fun _=>rfl⟩) fun _ _ _ _ _ z=>by
  obtain ⟨_,_,_,_,_,_,_,_,_,_,_,z⟩:=z;exact z
end Prg
open PySem PySem.W PyProof.Rows
local macro_rules|`(command|universe $xs*)=>do return Lean.mkNullNode (<-xs.mapM fun x=>`(command|def $(Lean.mkIdent (.str `PySem.W.Fast s!"tw{(x.getId.toString.drop 1)}")):ident:Nat:=0))
universe u10027880855689885584 u1005178231533741586 u10080633451266213366 u10087994471536042880 u10122896730630329005 u10181782658872489651 u10190181944085044294 u10224622155839473896 u10267927174526738731 u10271644294438029376 u10305186488583586449 u10384989361871795539 u10448198752596133091 u10503609103448743839 u10504788356124464356 u10506166714083028374 u10575124458969547625 u10594815006132282116 u10635157770219038907 u10716073764375990361 u10756106405908514593 u10779797767505113969 u10790343694852614650 u10801402410520251943 u10807814442015848005 u10820454901806362117 u10838247012972953093 u10862643297119335052 u10906908811431628895 u10922873293531082216 u10930405831656023097 u10961681095481700250 u1097155418709154530 u1097280602101337620 u11006804372581012799 u11009344461128808329 u11033908010021146781 u11060427732930883987 u11068277740125293314 u11169768851135431256 u11181950502983126490 u11244176682267052972 u11253804411570074299 u11273518394438184866 u1132842457846624212 u11349954620865906548 u11400808274113643032 u11408125495028217273 u11410015559306087665 u1146723839413893895 u11473262098330137238 u11474392914115492613 u11476225293777552263 u11514840142847406823 u11585463598399567185 u11628766358817279337 u11664652652594658487 u11693960398306616840 u11712996460521547727 u11761275381852841337 u11771352471284625299 u11794162795606802017 u11846201570454403799 u11868095596600989909 u1195066052051692098 u11963226533738807605 u11964571510734358677 u11992536557422904552 u11995802563337509812 u12017749331157377505 u12056909402890186621 u12071953245628934575 u12073040174070099457 u12077166198022346481 u12121315547020153253 u12149484159782809248 u12151846570641331972 u12171146717675909813 u1217516462858068712 u12188449834182534221 u1219502168929388899 u12232126064487512164 u12274532893977633452 u12293975043056251390 u12313123603370057662 u12331819057739191615 u12395716003277375693 u12423430603305316044 u12540573973353834393 u12566914341747933963 u12572917748235716895 u12588157708564359277 u12618888985383660973 u12620914360452082143 u12625927083538487164 u12645936294227783653 u12648408213423472306 u12708211594281580495 u12759281673681648538 u128364578592857483 u12878670439377169751 u1288074401624172481 u12929069658280286956 u12954643566483133271 u12963538904901899287 u12971581221060819984 u12976376316295231359 u1300309529349763844 u13024588468546721053 u13030913272881020897 u13086432498740480875 u13126215446161717666 u1316910840629158294 u1317379345438478889 u13231307835149647474 u13283317766171831802 u13296271234074898361 u13303823939316814034 u13305379224781438926 u13308068686255112554 u13346404124581956767 u13391599793352943916 u13403853048136074590 u13418396421088688504 u13524228474659773997 u1354658894711149289 u13553071578058450640 u13558866458820452858 u13579464416284937623 u13586430516969425456 u13624518473449082145 u13635565988153624910 u13685618640655663331 u13687869527452475897 u13700949861772375555 u13729954646075278740 u13783506917891351657 u13799110538092017374 u1383275832608723593 u13851190038854960506 u13912336801678674835 u13928597177993953858 u13994558838550438050 u14004334059143939408 u14010666189918232903 u14102594728361055059 u1416491006751190553 u1422295765360060705 u1427504462273491452 u14309239908081339977 u1433265583059339228 u14346622480236903357 u14373872620308238218 u1438300388252876362 u14400544309386533246 u1442929539643673582 u14562221575517535614 u14565353822974806686 u14586588492418320137 u14616679948269692686 u14681463873260111435 u14706518904714103949 u14745541499132414815 u14776184750105963062 u14885107851687002895 u14913923005939551285 u14950699782118529637 u14981057343732361518 u14985586696532339607 u14996974534479686647 u15037567328495345596 u15038616415400499564 u15043636146765489167 u15094721325277478770 u1509636616398223448 u15130432859579069806 u151453813623122200 u15177430668167051956 u1517827136299122477 u15200057635295968036 u15204245995896605882 u15234397807115386010 u15238169568902763911 u15243412219861741631 u15270145843276154047 u15312563363506192108 u15480993298819839129 u15519223817172887338 u15532839254338897486 u15625924636353731100 u15628447092741726995 u15633850128825187445 u15652442658878097560 u15697730966610036252 u15715903432489130282 u15717378103253527461 u15721875884733416202 u15761596494048241109 u15768963352273318480 u15807093696197405711 u15822045925236744959 u15822620627441031343 u15847407569687507713 u15859116214067445409 u1589421540463611466 u1590819943184209302 u15931013426741533939 u1594171819648203821 u15961728047868836062 u15970051654811887493 u16016173814009597938 u16045244626630756502 u16162005487515877907 u16171241612016636044 u16189599562368067705 u16226400850386749421 u16238281046266284551 u16312971307989163748 u16447220211359939060 u16454263401390333127 u16481051462425540456 u16516055691645676441 u16559126114545166768 u16601857864262970221 u16607123125055624347 u16623450037130805319 u16640487426060037386 u16707340102595091594 u16718953934623555703 u16719002047471232257 u16759726123672963838 u16780929667125531639 u16799224981793620493 u16826112439188467681 u1686269914611562591 u1688235788776712446 u16895586033053304315 u16902023268536905472 u16929371930511341766 u16947424434209077524 u16995246331889116663 u1701041777041760528 u1702097842418235475 u17038220667495509273 u17080346849219578015 u17130189711220015437 u17140561016633980885 u17160108437878570141 u17204257245563747839 u17206108953858718186 u17218014173935923912 u17238888557536118560 u172902003673101066 u17336477127310594158 u17513567330819098318 u17519049963687190723 u17525576015907010858 u17597024220997644215 u17603542753520721122 u17654996422887316044 u176888957791160050 u17722207320940555850 u17803223431567238632 u1783502775174577896 u17848627972737910218 u17848957656691429818 u17850769823385927105 u17859237055162950527 u17885907833705543500 u17887756619175724643 u17933300209728220651 u17948277258260348275 u17968477336905334215 u17988864600599134281 u18001515264122142870 u18012560991678919064 u18075366446024509336 u1807753183245390779 u18102698551676296249 u18114852699688315528 u18163973490103307068 u18167513160624938974 u18177503190666775917 u18193884186362208677 u1826358889772052512 u18276808756091426694 u18360570575512744148 u1838549433093752924 u18397016731515376733 u18398486198592348686 u183987920361628126 u1840879516996321232 u18409089816968387720 u1855267414201722390 u1856592953583433304 u1859211174975065266 u1874918988147668046 u1888713506146384244 u1910222178783306565 u193223802727094664 u1993017745882984946 u2107274677924246770 u2125342302803312204 u2164494245805848161 u218228164607605451 u2205850307353901745 u2221476979950011056 u2235694352888197747 u2245897309086129562 u2268078018541980009 u2298598522832595917 u2391105899002780412 u2432109094301156834 u2435832100830316087 u2447735812168108936 u2471573725307092519 u2479684827223285579 u2507615990211312913 u2569299070153513480 u2570300518470170543 u2597316792553498941 u2624938733855400691 u262946431337273236 u268743305819588134 u2721908791010372288 u273712938247241045 u2768450431478142810 u2843875150384454649 u2862845714757166554 u2874429579475909512 u2906823811158838995 u2917397236032017850 u2936057843602498739 u2974725349316554143 u29794636003501846 u3010677249154717014 u3030073751055366310 u3033928357687779330 u3036760631460200971 u30907167639978881 u3122311447519788877 u3128320168736917764 u3200245819634736634 u3217192916034922982 u3242728642870246983 u3265546984084566555 u3266186671236295519 u3284224243811602574 u33803731624640831 u3423641644882462954 u3426531330934764368 u3515392258088902258 u353234863342737548 u3590827596945801896 u3602939873853448670 u3622507166389778669 u362450667189854866 u3666871601885367111 u3686189304676567587 u387676459952173706 u3884742563173330573 u391171675703267018 u399515722065661602 u4029478432457248006 u4036068077924651162 u4053758752757776456 u4056575741336903509 u411356330228861354 u412032210268918249 u4130113749376002188 u4192865911610393620 u4239663272133797041 u424500042198473723 u4252941681016002342 u4270085822346234425 u4293718692337080191 u4305062383886394083 u4353569517134030856 u4356386356708904095 u4392428847507732933 u4396191636759311492 u4401821558623697254 u4494263562753407183 u4504815989687977454 u4535143625642078088 u4578386526873298894 u459710113741345815 u4611573396511757112 u4626699249203178010 u462702536803029648 u4690397449003337135 u4724972219819418193 u4742107731010522832 u4753904023375180702 u4764867358602034740 u484017721586310168 u4841031348572969651 u4852547202768911161 u4861927061806141892 u4862295142648966241 u4865505543917491370 u4934539356400358514 u4934612623393397024 u495881121239704223 u5030252569142183882 u5086206926778028371 u5118041096902120907 u5140390710115224064 u5181868663495586512 u5185428263074003849 u5196473095230423673 u5203961287168504271 u5210821838867003063 u5239072722402297455 u524587777907196989 u5254421950445800362 u5256583119775678942 u530543249461224036 u5310362675758402848 u532595097884130699 u5327595421655394446 u5399405084219836668 u5411722835094955742 u5413856066467486186 u5423810577050291090 u5470741776207086209 u5555966058635993575 u5587636967340334673 u5625363466438503495 u5642870092321624556 u5653977488749090511 u5660377941335745024 u5662797414590938303 u5665609752751325342 u5681158057958031209 u5706683521391916081 u5734107931127383093 u5768283277969962463 u577352726917824136 u5784626220208068617 u5797206553085674592 u5803663475440922371 u5880586734050057859 u5883078340411595210 u6011256132334945848 u6066385475003606967 u6113084647467120533 u6125770344390303611 u6158114989654737352 u6215633262664466577 u6237701352311468514 u6280004314259104544 u6291680118452577790 u6318509684450366137 u6328945079922387882 u6371422244916192055 u6372967091196671075 u6374163561545994248 u6387338549439494740 u6397619277735758039 u6407288042763335854 u6440218181537902510 u6538889295219530388 u6555441559525272869 u6597366428769840918 u6622778760635465291 u6662169160296324195 u6671871956850575686 u6676921149695895247 u6680564106770783320 u6727544826610185171 u6736359384161754942 u6760464466030660506 u6771918921196475362 u6887631061683565274 u6909717484336984181 u692778504745256253 u6951095122966374059 u6982219826655119315 u7014042572241880719 u7014770545744035127 u712150796100204405 u7124467599114452908 u7189384770090580976 u719890468192957760 u7235815980038863742 u7252169822859706646 u7281323948672616770 u7310440551458174189 u7347019240570563124 u7359555592607920979 u7377150720017196278 u7386803826461788410 u7398282094327372438 u7471780224758811064 u7485920049927498874 u7493722337122465759 u7499743452168608630 u7514776034042527326 u7519149260024577047 u7556784028388111618 u7567924430414780077 u7593942665396699876 u7595297489658543588 u761288427309959142 u7620766577372409309 u7727264524115638777 u7748121499856500217 u778945151635824054 u779406935819364571 u7800355617155094362 u7801516865053424342 u7803907528171301295 u7804543853232456974 u7854103066906406321 u7899790627057821328 u7913599676936179648 u7919601602887801435 u7923125525997847342 u795688017047809225 u7983509724405233660 u7986017542828801634 u7994057688194058095 u804105642550314909 u8060276859923501488 u8089468992616734035 u8111077020776611281 u8140633452089993864 u8156398546343304903 u8196703170488559931 u8252313097702438203 u8263663804972831205 u8293966430335300305 u8307488353876225619 u8315836913321801694 u8361359894182530502 u8369596560859948843 u8404797784999377826 u8417843339739772042 u8500824203604508071 u8504022555143478375 u852066949089367137 u853856328968180982 u8551432302187398839 u8554751598793851129 u8575712236849001789 u8585822488034439748 u8613275416354644118 u8616325948388132372 u8669616930856114565 u8737880079832479128 u876627987506006055 u8773765321969927209 u8829500897502055337 u883155041234391850 u893711820598163100 u8941332901620249268 u8986668510189019428 u9074303595051174423 u9096444863410346420 u9098669628494704625 u9195749202948241473 u9214311988958366527 u9324482024781784123 u9369888753405951719 u9412069464692230964 u9487963535908226003 u9496475310983316113 u9504730423155473333 u954556067215074410 u9595705232207442422 u9638101726816325124 u9654023601324652729 u9710247605583794360 u9726020909581944040 u9788579057028870446 u9790524042904971932 u9851788581471631668 u9851922967962749887 u9869214112332282829 u9874487556438398774 u99299838908347929 u9955578483724588821 u9985870819139230143 u9993384895533046555
set_option maxRecDepth 100000 in
set_option maxHeartbeats 0 in
theorem PySem.Challenge.cw_slackchain_k55_what_stops_each_part_holds : PySem.Challenge.rw_slackchain_k55_what_stops_each_part.Holds := by
 w_on;o_law;k_head;(case hw=>w_witness2)
 k_fill
 refine Prg.walk (l:=PySem.Challenge.rw_slackchain_k55_what_stops_each_part) rfl rfl (fun w h Y=>PySem.W.kIn_of Y) ?F;case F=>
  intro w mg fa h KX G hmg;refine' Prg.all_mk KX G hmg ?g_NoNumber ?Bds ?Bc7 ?Bc8 ?Bdt ?Bc9 ?Bdu ?BdA ?BdS ?Bcv ?Bda ?Bdb ?g_Lid ?a1 ?l1 ?c1 ?k1 ?a2 ?l2 ?c2 ?k2 ?a3 ?l3 ?c3 ?k3 ?a4 ?l4 ?c4 ?k4 ?a5 ?l5 ?c5 ?k5 ?a6 ?l6 ?c6 ?k6 ?a7 ?l7 ?c7 ?k7 ?a8 ?l8 ?c8 ?k8 ?a9 ?l9 ?c9 ?k9 ?a10 ?l10 ?c10 ?k10 ?a11 ?l11 ?c11 ?k11 ?a12 ?l12 ?c12 ?k12 ?a13 ?l13 ?c13 ?k13 ?a14 ?l14 ?c14 ?k14 ?a15 ?l15 ?c15 ?k15 ?a16 ?l16 ?c16 ?k16 ?a17 ?l17 ?c17 ?k17 ?a18 ?l18 ?c18 ?k18 ?a19 ?l19 ?c19 ?k19 ?a20 ?l20 ?c20 ?k20 ?a21 ?l21 ?c21 ?k21 ?a22 ?l22 ?c22 ?k22 ?a23 ?l23 ?c23 ?k23 ?a24 ?l24 ?c24 ?k24 ?a25 ?l25 ?c25 ?k25 ?a26 ?l26 ?c26 ?k26 ?a27 ?l27 ?c27 ?k27 ?a28 ?l28 ?c28 ?k28 ?a29 ?l29 ?c29 ?k29 ?a30 ?l30 ?c30 ?k30 ?a31 ?l31 ?c31 ?k31 ?a32 ?l32 ?c32 ?k32 ?a33 ?l33 ?c33 ?k33 ?a34 ?l34 ?c34 ?k34 ?a35 ?l35 ?c35 ?k35 ?a36 ?l36 ?c36 ?k36 ?a37 ?l37 ?c37 ?k37 ?a38 ?l38 ?c38 ?k38 ?a39 ?l39 ?c39 ?k39 ?a40 ?l40 ?c40 ?k40 ?a41 ?l41 ?c41 ?k41 ?a42 ?l42 ?c42 ?k42 ?a43 ?l43 ?c43 ?k43 ?a44 ?l44 ?c44 ?k44 ?a45 ?l45 ?c45 ?k45 ?a46 ?l46 ?c46 ?k46 ?a47 ?l47 ?c47 ?k47 ?a48 ?l48 ?c48 ?k48 ?a49 ?l49 ?c49 ?k49 ?a50 ?l50 ?c50 ?k50 ?a51 ?l51 ?c51 ?k51 ?a52 ?l52 ?c52 ?k52 ?a53 ?l53 ?c53 ?k53 ?a54 ?l54 ?c54 ?k54 ?a55 ?l55 ?c55 ?k55 ?a56 ?l56 ?c56 ?k56 ?a57 ?l57 ?c57 ?k57 ?z_abs ?z_isinstance ?z_len ?z_int ?z_bool ?z_tuple ?z_str ?z_range ?z_list ?z_min ?z_sorted ?z_all ?z_sum ?z_dict ?Ba8 ?Bbh ?BdH ?h_ZERO ?x_NoNumber ?Bcn ?Bb8 ?Bb9 ?Bcy ?Bca ?Bcz ?Bdv ?Bdw ?Bdx ?Bdy ?BdI ?BdJ ?BdK ?BdL ?BcO ?BcP ?BcQ ?BcR ?Bdc ?Bdd ?Bde ?Bdf ?Bdg ?Bdh ?Bdi ?Bdj ?mk_Lid ?mi_Lid ?mf_Lid ?mp_Lid ?Bby ?Bbz ?BbX ?BbY ?Bbi ?Bbj ?Bax ?Bay ?Bbk ?Bbl ?BbA ?BbB ?BbZ ?Bb0 ?Ba9 ?Bba ?BbC ?BbD ?Bbb ?Bbc ?me_lowered_Scale ?mm_lowered_Scale ?me_full_level_Lid ?mm_full_level_Lid ?me_settle_Lid ?mm_settle_Lid ?me_has_stopped_Lid ?mm_has_stopped_Lid ?Bcb ?Bcc ?Bcd ?Bce ?Bcf ?Bcg ?Bch ?Bci ?Bcj ?Bck ?BcA ?BcB ?BcC ?BcD ?BcE ?BcF ?BcG ?BcH ?BcI ?Bbm ?Bbn ?Bbo ?Bbp ?Bbq ?BbF ?BbG ?BbH ?BbI ?BbJ ?BbK ?BbL ?BbM ?BbN ?BbO ?BbP ?BbQ ?BbR ?cl1_Lid ?cl2_Lid ?cl3_Lid ?cl4_Lid ?na1_Lid ?na2_Lid ?na3_Lid ?na4_Lid ?na5_Lid;case g_NoNumber|Bds|Bc7|Bc8|Bdt|Bc9|Bdu|BdA|BdS|Bcv|Bda|Bdb|g_Lid|a1|l1|c1|k1|a2|l2|c2|k2|a3|l3|c3|k3|a4|l4|c4|k4|a5|l5|c5|k5|a6|l6|c6|k6|a7|l7|c7|k7|a8|l8|c8|k8|a9|l9|c9|k9|a10|l10|c10|k10|a11|l11|c11|k11|a12|l12|c12|k12|a13|l13|c13|k13|a14|l14|c14|k14|a15|l15|c15|k15|a16|l16|c16|k16|a17|l17|c17|k17|a18|l18|c18|k18|a19|l19|c19|k19|a20|l20|c20|k20|a21|l21|c21|k21|a22|l22|c22|k22|a23|l23|c23|k23|a24|l24|c24|k24|a25|l25|c25|k25|a26|l26|c26|k26|a27|l27|c27|k27|a28|l28|c28|k28|a29|l29|c29|k29|a30|l30|c30|k30|a31|l31|c31|k31|a32|l32|c32|k32|a33|l33|c33|k33|a34|l34|c34|k34|a35|l35|c35|k35|a36|l36|c36|k36|a37|l37|c37|k37|a38|l38|c38|k38|a39|l39|c39|k39|a40|l40|c40|k40|a41|l41|c41|k41|a42|l42|c42|k42|a43|l43|c43|k43|a44|l44|c44|k44|a45|l45|c45|k45|a46|l46|c46|k46|a47|l47|c47|k47|a48|l48|c48|k48|a49|l49|c49|k49|a50|l50|c50|k50|a51|l51|c51|k51|a52|l52|c52|k52|a53|l53|c53|k53|a54|l54|c54|k54|a55|l55|c55|k55|a56|l56|c56|k56|a57|l57|c57|k57|z_abs|z_isinstance|z_len|z_int|z_bool|z_tuple|z_str|z_range|z_list|z_min|z_sorted|z_all|z_sum|z_dict|Ba8|Bbh|BdH|h_ZERO=>k_is
  (case x_NoNumber=>k_exc)
  (case Bcn=>k_exc)
  (case Bb8=>k_exc)
  (case Bb9=>k_exc)
  (case Bcy=>k_exc)
  (case Bca=>k_exc)
  (case Bcz=>k_exc)
  case Bdv|Bdw|Bdx|Bdy|BdI|BdJ|BdK|BdL|BcO|BcP|BcQ|BcR|Bdc|Bdd|Bde|Bdf|Bdg|Bdh|Bdi|Bdj|mk_Lid|mi_Lid|mf_Lid|mp_Lid|Bby|Bbz|BbX|BbY|Bbi|Bbj|Bax|Bay|Bbk|Bbl|BbA|BbB|BbZ|Bb0|Ba9|Bba|BbC|BbD|Bbb|Bbc|me_lowered_Scale|mm_lowered_Scale|me_full_level_Lid|mm_full_level_Lid|me_settle_Lid|mm_settle_Lid|me_has_stopped_Lid|mm_has_stopped_Lid|Bcb|Bcc|Bcd|Bce|Bcf|Bcg|Bch|Bci|Bcj|Bck|BcA|BcB|BcC|BcD|BcE|BcF|BcG|BcH|BcI|Bbm|Bbn|Bbo|Bbp|Bbq|BbF|BbG|BbH|BbI|BbJ|BbK|BbL|BbM|BbN|BbO|BbP|BbQ|BbR|cl1_Lid|cl2_Lid|cl3_Lid|cl4_Lid|na1_Lid|na2_Lid|na3_Lid|na4_Lid|na5_Lid=>k_is
